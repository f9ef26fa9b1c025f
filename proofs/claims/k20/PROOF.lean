import PyProof.Rows.All
import Wide.All
import OpenK.AllK
import Wide.FinOn
import Lean
import PyProof.EqAt
import PyProof.EqKinds
import PyProof.TupleCall
import PyProof.NeKinds
import KE.KLam
import KE.KMinKey
import PySem.Challenge.RW_shimright_k20_chosen_by_a_rule
set_option genInjectivity false
set_option genSizeOf false
set_option genSizeOfSpec false
set_option Elab.async false
set_option linter.all false
set_option maxRecDepth 100000
namespace L2
theorem e12 {α : Type} {A B : α → Prop} {R : Prop} (h : ∃ x, A x ∧ B x) (k : ∀ x, A x → B x → R) : R := h.elim fun x h => k x h.1 h.2
theorem e22 {α β : Type} {A B : α → β → Prop} {R : Prop} (h : ∃ x y, A x y ∧ B x y) (k : ∀ x y, A x y → B x y → R) : R := h.elim fun x h => h.elim fun y h => k x y h.1 h.2
theorem e23 {α β : Type} {A B C : α → β → Prop} {R : Prop} (h : ∃ x y, A x y ∧ B x y ∧ C x y) (k : ∀ x y, A x y → B x y → C x y → R) : R := h.elim fun x h => h.elim fun y h => k x y h.1 h.2.1 h.2.2
theorem e24 {α β : Type} {A B C D : α → β → Prop} {R : Prop} (h : ∃ x y, A x y ∧ B x y ∧ C x y ∧ D x y) (k : ∀ x y, A x y → B x y → C x y → D x y → R) : R := h.elim fun x h => h.elim fun y h => k x y h.1 h.2.1 h.2.2.1 h.2.2.2
open PySem PySem.Spec PyProof.Rows
abbrev Key := Sum Int Str
def qjv_ : Key → Value → Bool
  | .inl k, v => Value.isInt k v
  | .inr x, v => Value.isStrOf x v
def keyH (w : World) : Key → Int
  | .inl k => hashInt k
  | .inr x => hashStr w x
theorem qy_ : ∀ {k : Key} {v : Value}, qjv_ k v = true → (∃ i t, k = Sum.inl i ∧ v = Value.int i t) ∨ (∃ x t, k = Sum.inr x ∧ v = Value.str x t)
  | .inl i, v, h => by
    obtain ⟨t, e⟩ := Value.isInt_shape (k := i) (v := v) h
    exact .inl ⟨i, t, rfl, e⟩
  | .inr x, v, h => by
    obtain ⟨t, e⟩ := Value.isStrOf_shape (x := x) (v := v) h
    exact .inr ⟨x, t, rfl, e⟩
theorem qkr_ (i : Int) (t : Tok) : qjv_ (.inl i) (.int i t) = true := by simp [qjv_, Value.isInt]
theorem qkz_ (x : Str) (t : Tok) : qjv_ (.inr x) (.str x t) = true := by simp [qjv_, Value.isStrOf]
theorem qsy_ (a b : Int) : decide ((Sum.inl a : Key) = Sum.inl b) = (a == b) := by
  by_cases e : a = b
  · subst e; simp
  · have h : ¬ (Sum.inl a : Key) = Sum.inl b := fun q => e (Sum.inl.inj q)
    rw [decide_eq_false h]
    exact (beq_eq_false_iff_ne.mpr e).symm
theorem qs6_ (a b : Str) : decide ((Sum.inr a : Key) = Sum.inr b) = decide (a = b) := by
  by_cases e : a = b
  · subst e; simp
  · have h : ¬ (Sum.inr a : Key) = Sum.inr b := fun q => e (Sum.inr.inj q)
    rw [decide_eq_false h, decide_eq_false e]
theorem qt3_ (a : Int) (b : Str) : decide ((Sum.inl a : Key) = Sum.inr b) = false := decide_eq_false (fun q => nomatch q)
theorem qt0_ (a : Str) (b : Int) : decide ((Sum.inr a : Key) = Sum.inl b) = false := decide_eq_false (fun q => nomatch q)
def q7_ (prog : Program) (w : World) : PySem.KeyKind prog w Key where
  is := qjv_
  hash := keyH w
  inj := fun v a b ha hb => by
    rcases qy_ ha with ⟨i, t, rfl, rfl⟩ | ⟨x, t, rfl, rfl⟩
    · rcases qy_ hb with ⟨j, u, rfl, e⟩ | ⟨y, u, rfl, e⟩
      · injection e with e1 _; rw [e1]
      · exact nomatch e
    · rcases qy_ hb with ⟨j, u, rfl, e⟩ | ⟨y, u, rfl, e⟩
      · exact nomatch e
      · injection e with e1 _; rw [e1]
  byValue := fun k v h => by
    rcases qy_ h with ⟨i, t, rfl, rfl⟩ | ⟨x, t, rfl, rfl⟩ <;> rfl
  pyHash := fun hv h => by
    rcases qy_ hv with ⟨i, t, rfl, rfl⟩ | ⟨x, t, rfl, rfl⟩
    · exact wpAny_pyHash_int h
    · exact wpAny_pyHash_str h
  eqBool := fun hu hv h => by
    rcases qy_ hu with ⟨i, t, rfl, rfl⟩ | ⟨x, t, rfl, rfl⟩
    · rcases qy_ hv with ⟨j, u, rfl, rfl⟩ | ⟨y, u, rfl, rfl⟩
      · rw [qsy_] at h; exact wpAny_eqBool_int h
      · rw [qt3_] at h; exact SeqAt.EqAt.int_str i t y u _ _ _ _ h
    · rcases qy_ hv with ⟨j, u, rfl, rfl⟩ | ⟨y, u, rfl, rfl⟩
      · rw [qt0_] at h; exact SeqAt.EqAt.str_int x t j u _ _ _ _ h
      · rw [qs6_] at h; exact wpAny_eqBool_str h
  «strs» := fun k x t v h => by
    rcases qy_ h with ⟨i, u, rfl, e⟩ | ⟨y, u, rfl, e⟩
    · exact nomatch e
    · injection e with e1 _
      subst e1
      cases v <;> rfl
theorem qih_ (prog : Program) (w : World) (i : Int) (t : Tok) : (q7_ prog w).is (.inl i) (.int i t) = true := qkr_ i t
theorem qho_ (prog : Program) (w : World) (x : Str) (t : Tok) : (q7_ prog w).is (.inr x) (.str x t) = true := qkz_ x t
end L2
namespace L2
open PySem PySem.Spec PyProof.Rows
inductive V where
  | non | bl (b : Bool) | int (i : Int) | str (x : Str) | byt (b : Array UInt8) | flt (b : UInt64) | ref (a : Addr) | ty (n : String)
  deriving DecidableEq
def RelV : V → Value → Prop
  | .non, u => u = Value.none
  | .bl b, u => u = Value.bool b
  | .int i, u => ∃ t, u = Value.int i t
  | .str x, u => ∃ t, u = Value.str x t
  | .byt b, u => ∃ t, u = Value.bytes b t
  | .flt b, u => ∃ t, u = Value.float b t
  | .ref a, u => u = Value.ref a
  | .ty n, u => u = Value.type n
abbrev Vals : List V → List Value → Prop := Paired RelV
theorem Vals.length {xs : List V} {us : List Value} (r : Vals xs us) : xs.length = us.length := Paired.length r
theorem Vals.get : ∀ {xs : List V} {us : List Value} {i : Nat} {x : V}, Vals xs us → xs[i]? = some x → ∃ u, us[i]? = some u ∧ RelV x u
  | _, _, _, _, .nil, e => by simp at e
  | _, _, 0, _, .cons r _, e => by simp at e; subst e; exact ⟨_, rfl, r⟩
  | _, _, i + 1, x, .cons _ t, e => by
    obtain ⟨u, h1, h2⟩ := Vals.get (i := i) (x := x) t (by simpa using e)
    exact ⟨u, by simpa using h1, h2⟩
theorem Vals.set {x : V} {u : Value} (r : RelV x u) : ∀ {xs : List V} {us : List Value} (i : Nat), Vals xs us → Vals (xs.set i x) (us.set i u)
  | _, _, _, .nil => .nil
  | _, _, 0, .cons _ t => .cons r t
  | _, _, i + 1, .cons q t => .cons q (Vals.set r i t)
theorem Vals.append : ∀ {xs ys : List V} {us ws : List Value}, Vals xs us → Vals ys ws → Vals (xs ++ ys) (us ++ ws)
  | _, _, _, _, .nil, s => s
  | _, _, _, _, .cons r t, s => .cons r (Vals.append t s)
theorem Vals.take : ∀ {xs : List V} {us : List Value} (n : Nat), Vals xs us → Vals (xs.take n) (us.take n)
  | _, _, 0, _ => .nil
  | _, _, _ + 1, .nil => .nil
  | _, _, n + 1, .cons r t => .cons r (Vals.take n t)
theorem Vals.drop : ∀ {xs : List V} {us : List Value} (n : Nat), Vals xs us → Vals (xs.drop n) (us.drop n)
  | _, _, 0, r => r
  | _, _, _ + 1, .nil => .nil
  | _, _, n + 1, .cons _ t => Vals.drop n t
def RelO : Option V → Option Value → Prop
  | some v, some u => RelV v u
  | none, none => True
  | _, _ => False
def KV {κ : Type} : List (κ × V) → List (κ × Value) → Prop := Paired fun (p : κ × V) (q : κ × Value) => p.1 = q.1 ∧ RelV p.2 q.2
def kV : Key → V
  | .inl i => .int i
  | .inr x => .str x
inductive HO where
  | lst (xs : List V)
  | tup (xs : List V)
  | dK (kvs : List (Key × V)) | dT (kvs : List (List Key × V))
  | set (S : Int → Bool) (n : Nat)
  | ins (C dx : Addr) (fs : List (Str × V))
  | own (x : Addr)
  | xd (fs : List (Str × V))
  | met (f x : Addr)
  | rng (lo hi : Int)
  | frz (o : Obj) (u : HO)
  | tbl (ps : Array Value)
  | ext (φ : Heap → Prop)
abbrev Hp := Addr → Option HO
def upd (H : Hp) (a : Addr) (o : HO) : Hp := fun b => if b = a then some o else H b
theorem qi_ {H : Hp} {a : Addr} {o : HO} : upd H a o a = some o := by unfold upd; rw [if_pos rfl]
theorem qh_ {H : Hp} {a b : Addr} {o : HO} (h : b ≠ a) : upd H a o b = H b := by unfold upd; rw [if_neg h]
theorem qu3_ {H : Hp} {a b : Addr} {o u : HO} (h : H a = some o) (h' : H b = some u) (d : o ≠ u) : a ≠ b := by
  intro e; subst e; rw [h] at h'; exact d (Option.some.inj h')
theorem qbe_ {H : Hp} {a b : Addr} {o : HO} (h : H a = some o) (h' : H b = none) : a ≠ b := by
  intro e; subst e; rw [h] at h'; cases h'
section
variable (P : Program) (w : World)
def ObjOk (H : Hp) (h : Heap) (a : Addr) : HO → Prop
  | .lst xs => xs.length ≤ sizeLine ∧ ∃ (its : List Value) (n : Nat), Vals xs its ∧ h.get? a = some { cls := .type "list", data := .seq its.toArray n }
  | .tup xs => xs.length ≤ sizeLine ∧ ∃ its : List Value, Vals xs its ∧ IsTup h a its.toArray
  | .dK kvs => kvs.length ≤ sizeLine ∧ (a == sysModules) = false ∧ ∃ vs, KV kvs vs ∧ h.DictOf (q7_ P w) a vs
  | .dT kvs => kvs.length ≤ sizeLine ∧ (a == sysModules) = false ∧ ∃ xs : List (List Key × Addr × Value),
      Paired (fun (p : List Key × V) (q : List Key × Addr × Value) => p.1 = q.1 ∧ H q.2.1 = some (.tup (p.1.map kV)) ∧ RelV p.2 q.2.2) kvs xs ∧
      ∃ o es ep, h.get? a = some o ∧ o.ExactDict ∧ o.data = .dict es ep ∧ es.toList = xs.map (entryOfKey (tupleKind (q7_ P w))) ∧ (xs.map (·.1)).Nodup
  | .set S n => h.SetOf (intKind P w) a S n
  | .ins C dx fs => H dx = some (.own a) ∧ fs.length ≤ 1000 ∧ dx ≠ a ∧ h.get? a = some (PySem.W.instObj C dx) ∧
      ∃ mA, h.Ns1 dx mA ∧ (∀ f, RelO (fs.lookup f) (mA f)) ∧ PySem.Within mA (fs.map (·.1))
  | .own _ => ∃ o, h.get? a = some o
  | .xd fs => ∃ mA, h.Ns1 a mA ∧ ∀ f, RelO (fs.lookup f) (mA f)
  | .rng lo hi => ∃ t u v, h.get? a = some { cls := .type "range", data := .fields #[.int lo t, .int hi u, .int 1 v] }
  | .frz o u => h.get? a = some o ∧ ObjOk H h a u
  | .tbl ps => h.get? a = some { cls := .none, data := .fields ps }
  | .met f x => h.get? a = some (PySem.W.methodObj (.ref f) (.ref x))
  | .ext φ => φ h ∧ (∃ o, h.get? a = some o) ∧ ∀ h1 h2 : Heap, φ h1 → (∀ o, h1.get? a = some o → h2.get? a = some o) → φ h2
def HOk (H : Hp) (h : Heap) : Prop := ∀ a o, H a = some o → ObjOk P w H h a o
end
section
variable {P : Program} {w : World} {H H' : Hp} {h h' : Heap} {a : Addr} {o : HO}
theorem ObjOk.lt (x : ObjOk P w H h a o) : a < h.objs.size := by
  cases o with
  | lst xs => obtain ⟨_, _, _, _, e⟩ := x; exact Heap.lt_size e
  | tup xs => obtain ⟨_, _, _, p⟩ := x; exact p.lt
  | dK kvs => obtain ⟨_, _, _, _, o, _, _, e, _⟩ := x; exact Heap.lt_size e
  | dT kvs => obtain ⟨_, _, _, _, o, _, _, e, _⟩ := x; exact Heap.lt_size e
  | set S n => obtain ⟨o, _, _, _, e, _⟩ := x; exact Heap.lt_size e
  | ins C dx fs => obtain ⟨_, _, _, e, _⟩ := x; exact Heap.lt_size e
  | own y => obtain ⟨_, e⟩ := x; exact Heap.lt_size e
  | xd fs => obtain ⟨_, ⟨_, _, _, e, _⟩, _⟩ := x; exact Heap.lt_size e
  | rng lo hi => obtain ⟨_, _, _, e⟩ := x; exact Heap.lt_size e
  | frz ob u => obtain ⟨e, _⟩ := x; exact Heap.lt_size e
  | tbl ps => exact Heap.lt_size (show h.get? a = some _ from x)
  | met f y => exact Heap.lt_size (show h.get? a = some _ from x)
  | ext φ => obtain ⟨_, ⟨_, e⟩, _⟩ := x; exact Heap.lt_size e
theorem Paired.mapP {α β : Type} {F G : α → β → Prop} : ∀ {l₁ : List α} {l₂ : List β}, Paired F l₁ l₂ → (∀ a b, F a b → G a b) → Paired G l₁ l₂
  | _, _, .nil, _ => .nil
  | _, _, .cons r t, f => .cons (f _ _ r) (Paired.mapP t f)
theorem ObjOk.stay (x : ObjOk P w H h a o) (k : ∀ b u, (b = a ∨ H b = some (.own a)) → h.get? b = some u → h'.get? b = some u)
    (ho : ∀ b, H b = some (.own a) → H' b = some (.own a)) (ht : ∀ b xs, H b = some (.tup xs) → H' b = some (.tup xs)) : ObjOk P w H' h' a o := by
  induction o with
  | lst xs => obtain ⟨z, its, n, r, e⟩ := x; exact ⟨z, its, n, r, k _ _ (.inl rfl) e⟩
  | tup xs => obtain ⟨z, its, r, ob, e, c⟩ := x; exact ⟨z, its, r, ob, k _ _ (.inl rfl) e, c⟩
  | dK kvs => obtain ⟨z, y, vs, r, ob, es, ep, e, c⟩ := x; exact ⟨z, y, vs, r, ob, es, ep, k _ _ (.inl rfl) e, c⟩
  | dT kvs =>
    obtain ⟨z, y, xs, r, ob, es, ep, e, c⟩ := x
    exact ⟨z, y, xs, Paired.mapP r fun p q z => ⟨z.1, ht _ _ z.2.1, z.2.2⟩, ob, es, ep, k _ _ (.inl rfl) e, c⟩
  | set S n => obtain ⟨ob, es, ep, t, e, c⟩ := x; exact ⟨ob, es, ep, t, k _ _ (.inl rfl) e, c⟩
  | ins C dx fs =>
    obtain ⟨d, z, ne, e, mA, ⟨od, es, ep, e2, c⟩, r⟩ := x
    exact ⟨ho _ d, z, ne, k _ _ (.inl rfl) e, mA, ⟨od, es, ep, k _ _ (.inr d) e2, c⟩, r⟩
  | own y => obtain ⟨ob, e⟩ := x; exact ⟨ob, k _ _ (.inl rfl) e⟩
  | xd fs => obtain ⟨mA, ⟨od, es, ep, e, c⟩, r⟩ := x; exact ⟨mA, ⟨od, es, ep, k _ _ (.inl rfl) e, c⟩, r⟩
  | rng lo hi => obtain ⟨t, u, v, e⟩ := x; exact ⟨t, u, v, k _ _ (.inl rfl) e⟩
  | frz ob u ih => obtain ⟨e, q⟩ := x; exact ⟨k _ _ (.inl rfl) e, ih q⟩
  | tbl ps =>
    have e : h.get? a = some { cls := .none, data := .fields ps } := x
    show h'.get? a = some { cls := .none, data := .fields ps }
    exact k a _ (.inl rfl) e
  | met f y =>
    have e : h.get? a = some (PySem.W.methodObj (.ref f) (.ref y)) := x
    show h'.get? a = some (PySem.W.methodObj (.ref f) (.ref y))
    exact k a _ (.inl rfl) e
  | ext φ => obtain ⟨p, ⟨o, e⟩, st⟩ := x; exact ⟨st _ _ p fun o q => k _ _ (.inl rfl) q, ⟨o, k _ _ (.inl rfl) e⟩, st⟩
theorem HOk.lt (x : HOk P w H h) (e : H a = some o) : a < h.objs.size := (x a o e).lt
theorem HOk.fresh (x : HOk P w H h) (e : h.objs.size ≤ a) : H a = none := by
  cases q : H a with
  | none => rfl
  | some u => exact absurd (Nat.lt_of_lt_of_le (x.lt q) e) (Nat.lt_irrefl _)
theorem HOk.kept (x : HOk P w H h) (k : ∀ b u, h.get? b = some u → h'.get? b = some u) : HOk P w H h' := fun a o e =>
  (x a o e).stay (fun b u _ q => k b u q) (fun _ q => q) fun _ _ q => q
theorem HOk.laid (x : HOk P w H h) (k : ∀ b u, h.get? b = some u → h'.get? b = some u) (hp : h.objs.size ≤ a) (new : ObjOk P w (upd H a o) h' a o) : HOk P w (upd H a o) h' := fun b u e => by
  have hn := x.fresh hp
  by_cases hb : b = a
  · subst hb; rw [qi_] at e; cases e; exact new
  · rw [qh_ hb] at e
    exact (x b u e).stay (fun c v _ q => k c v q) (fun c q => by rw [qh_ (qbe_ q hn)]; exact q) fun c xs q => by rw [qh_ (qbe_ q hn)]; exact q
end
def Rd (H : Hp) (a : Addr) (u : HO) : Prop := H a = some u ∨ ∃ o, H a = some (.frz o u)
theorem Rd.ok {P : Program} {w : World} {H : Hp} {h : Heap} {a : Addr} {u : HO} (r : Rd H a u) (x : HOk P w H h) : ObjOk P w H h a u := by
  rcases r with r | ⟨o, r⟩
  · exact x a u r
  · obtain ⟨_, q⟩ := x a _ r
    exact q
def Mut : Option HO → Prop
  | some (.lst _) => True
  | some (.dK _) => True
  | some (.dT _) => True
  | some (.set _ _) => True
  | some (.ins _ _ _) => True
  | some (.ext _) => True
  | _ => False
section
variable {P : Program} {w : World} {H : Hp} {h h' : Heap} {x e : Addr} {o' : HO}
theorem HOk.write (ok : HOk P w H h) (mu : Mut (H x)) (he : e = x ∨ H e = some (.own x)) (k : ∀ b u, b ≠ e → h.get? b = some u → h'.get? b = some u) (heo : ∃ u, h'.get? e = some u)
    (new : ObjOk P w (upd H x o') h' x o') : HOk P w (upd H x o') h' := fun b u q => by
  have nown : ∀ c y, H c = some (.own y) → c ≠ x := fun c y r z => by subst z; rw [r] at mu; exact mu
  have ntup : ∀ c xs, H c = some (.tup xs) → c ≠ x := fun c xs r z => by subst z; rw [r] at mu; exact mu
  by_cases hb : b = x
  · subst hb; rw [qi_] at q; cases q; exact new
  · rw [qh_ hb] at q
    by_cases hbe : b = e
    · have q' : H b = some (.own x) := by
        rcases he with z | z
        · exact absurd (hbe.trans z) hb
        · rw [hbe]; exact z
      rw [q] at q'; cases q'
      obtain ⟨v, hv⟩ := heo
      exact ⟨v, by rw [hbe]; exact hv⟩
    · refine (ok b u q).stay (fun c v hc r => k c v ?_ r) (fun c r => by rw [qh_ (nown c b r)]; exact r) fun c xs r => by rw [qh_ (ntup c xs r)]; exact r
      rcases hc with rfl | hc
      · exact hbe
      · rintro rfl
        rcases he with z | z
        · exact nown c b hc z
        · rw [hc] at z; cases z; exact hb rfl
end
structure Un (fs ex : List Addr) (H H' : Hp) (h h' : Heap) : Prop where
  keep : ∀ b o, h.get? b = some o → H b = none → b ∉ fs → b ∉ ex → h'.get? b = some o
  slot : ∀ b o, h.get? b = some o → H b = none → b ∈ fs → b ∉ ex → ∃ sl, h'.get? b = some { o with slots := sl }
  free : ∀ b o, h.get? b = some o → H b = none → b ∉ ex → H' b = none
  there : ∀ b o, h.get? b = some o → b ∉ ex → ∃ o', h'.get? b = some o'
  tups : ∀ b xs, H b = some (.tup xs) → H' b = some (.tup xs)
  frzs : ∀ b o u, H b = some (.frz o u) → H' b = some (.frz o u)
  tbls : ∀ b ps, H b = some (.tbl ps) → ∃ more, H' b = some (.tbl (ps ++ more))
section
variable {fs fs' ex ex' : List Addr} {H H1 H2 : Hp} {h h1 h2 h' : Heap} {a x e : Addr} {o : HO}
theorem Un.any (u : Un fs ex H H1 h h1) {b : Addr} {ob : Obj} (q : h.get? b = some ob) (n : H b = none) (hx : b ∉ ex) : ∃ sl, h1.get? b = some { ob with slots := sl } := by
  by_cases hb : b ∈ fs
  · exact u.slot b ob q n hb hx
  · exact ⟨ob.slots, u.keep b ob q n hb hx⟩
theorem Un.kept (k : ∀ b u, h.get? b = some u → h'.get? b = some u) : Un fs ex H H h h' :=
  ⟨fun b ob q _ _ _ => k b ob q, fun b ob q _ _ _ => ⟨ob.slots, k b ob q⟩, fun _ _ _ n _ => n, fun b ob q _ => ⟨ob, k b ob q⟩, fun _ _ q => q, fun _ _ _ q => q, fun _ ps q => ⟨#[], by rw [q]; simp⟩⟩
theorem Un.refl : Un fs ex H H h h := Un.kept fun _ _ q => q
theorem Un.laid (k : ∀ b u, h.get? b = some u → h'.get? b = some u) (hp : h.objs.size ≤ a) (hn : H a = none) : Un fs ex H (upd H a o) h h' where
  keep := fun b u q _ _ _ => k b u q
  slot := fun b u q _ _ _ => ⟨u.slots, k b u q⟩
  free := fun b u q n _ => by rw [qh_ (Nat.ne_of_lt (Nat.lt_of_lt_of_le (Heap.lt_size q) hp))]; exact n
  there := fun b u q _ => ⟨u, k b u q⟩
  tups := fun b xs q => by rw [qh_ (qbe_ q hn)]; exact q
  frzs := fun b u xs q => by rw [qh_ (qbe_ q hn)]; exact q
  tbls := fun b ps q => ⟨#[], by rw [qh_ (qbe_ q hn), q]; simp⟩
theorem Un.write (mu : Mut (H x)) (he : e = x ∨ H e = some (.own x)) (k : ∀ b u, b ≠ e → h.get? b = some u → h'.get? b = some u) (heo : ∃ u, h'.get? e = some u) : Un fs ex H (upd H x o) h h' := by
  have hx : ∀ b, H b = none → b ≠ x := fun b n z => by subst z; rw [n] at mu; exact mu
  have hb : ∀ b, H b = none → b ≠ e := fun b n z => by
    subst z
    rcases he with r | r
    · exact hx b n r
    · rw [n] at r; cases r
  have hm : ∀ b u, H b = some u → ¬ Mut (some u) → b ≠ x := fun b u q nm z => by subst z; rw [q] at mu; exact nm mu
  refine ⟨fun b u q n _ _ => k b u (hb b n) q, fun b u q n _ _ => ⟨u.slots, k b u (hb b n) q⟩, fun b u q n _ => by rw [qh_ (hx b n)]; exact n, fun b u q _ => ?_,
    fun b xs q => by rw [qh_ (hm b _ q fun z => z)]; exact q, fun b u xs q => by rw [qh_ (hm b _ q fun z => z)]; exact q, fun b ps q => ⟨#[], by rw [qh_ (hm b _ q fun z => z), q]; simp⟩⟩
  by_cases hbe : b = e
  · subst hbe; exact heo
  · exact ⟨u, k b u hbe q⟩
end
def trk (h : Heap) (H : Hp) : List Addr := (List.range h.objs.size).filter fun a => (H a).isSome
def hidT (h : Heap) (H : Hp) : Heap := PySem.W.hideAll h (trk h H)
theorem ql0_ (h : Heap) (H : Hp) : (hidT h H).objs.size = h.objs.size := PySem.W.hideAll_size _ _
theorem qnn_ {h : Heap} {H : Hp} {b : Addr} {o : Obj} (e : h.get? b = some o) (n : H b = none) : (hidT h H).get? b = some o :=
  PySem.W.hideAll_get _ e fun hm => by
    have q : (H b).isSome = true := (List.mem_filter.mp hm).2
    rw [n] at q; simp at q
theorem qqx_ {h : Heap} {H : Hp} {b : Addr} {o : Obj} (e : (hidT h H).get? b = some o) : h.get? b = some o ∧ H b = none := by
  have e' : h.get? b = some o := PySem.W.of_hideAll (trk h H) e
  refine ⟨e', ?_⟩
  cases q : H b with
  | none => rfl
  | some x =>
    have hm : b ∈ trk h H := List.mem_filter.mpr ⟨List.mem_range.mpr (Heap.lt_size e'), by simp [q]⟩
    have z : (hidT h H).get? b = none := PySem.W.hideAll_none (trk h H) hm
    rw [z] at e; cases e
end L2
namespace L2
open PySem PySem.Spec PyProof.Rows
structure Mod (K : PySem.W.Frag) (mg : Str → Option Value) (base : Heap) : Prop where
  kin : K.In base
  glob : base.Ns mainGlobals mg
  blt : ∃ mb, base.Ns builtinsNs mb ∧ ∀ x : Str, x ≠ "__name__" → mb x = bootBuiltins x
  nolimit : base.NoLimit
structure Cx where
  prog : Program
  w : World
  K : PySem.W.Frag
  mg : Str → Option Value
  base : Heap
  A : Around
  N : List Str
  s₀ : Shared
  H₀ : Hp
  env : Env
  outer : List Env
  stack : List Env
  ex : List Addr
  fn : Str → Bool
  calm : Bool
  pn : List (Addr × Obj)
  xe : Value → Shared → Prop
def frs (l : List Env) : List Addr := l.filterMap (·.frame)
abbrev Cx.fs (X : Cx) : List Addr := frs X.outer
def Vis (sc : Scope) (x : Str) : Prop := sc.names.lookup x = some .local ∨ sc.names.lookup x = some .cell ∨ sc.names.lookup x = some .free
def Loc (sc : Scope) (x : Str) : Prop := sc.names.lookup x = some .local ∨ sc.names.lookup x = some .cell
def Look (env : Env) (h : Heap) (m : Str → Option Value) (x : Str) (u : Value) : Prop :=
  (env.kindOf x = some .local ∧ m x = some u) ∨ ((env.kindOf x = some .cell ∨ env.kindOf x = some .free) ∧ ∃ c, env.cells.lookup x = some c ∧ h.IsCell c (some u))
structure Cx.Ok (X : Cx) : Prop where
  mod : Mod X.K X.mg X.base
  kind : X.env.scope.kind = .function
  glob : X.env.globals = mainGlobals
  blt : X.env.builtins = builtinsNs
  above : X.s₀.heap.objs.size ≤ X.env.locals
  inj : ∀ x y c, X.env.cells.lookup x = some c → X.env.cells.lookup y = some c → x = y
  has : ∀ x, (X.env.kindOf x = some .cell ∨ X.env.kindOf x = some .free) → ∃ c, X.env.cells.lookup x = some c
  cab : ∀ x c, X.fn x = true → X.env.cells.lookup x = some c → X.s₀.heap.objs.size ≤ c
  hd : X.calm = true → X.A.handled = none
  frames : X.A.frames = some X.stack
  stk : X.stack = X.outer ∨ (X.stack = X.env :: X.outer ∧ X.env.frame = some X.env.locals)
  exf : ∀ b ∈ X.ex, b ≠ X.env.locals ∧ ∀ x c, X.env.cells.lookup x = some c → c ≠ b
  bs : ∀ b o, X.base.get? b = some o → X.s₀.heap.get? b = some o ∧ X.H₀ b = none
  bsz : X.base.objs.size ≤ X.s₀.heap.objs.size
  noex : ∀ b o, X.base.get? b = some o → b ∉ X.ex
  exfs : ∀ b ∈ X.ex, b ∉ X.fs
  funs : X.s₀.heap.FunFrames X.base X.outer
  frf : ∀ b ∈ X.fs, X.H₀ b = none
structure Inv (X : Cx) (pins : List (Addr × Obj)) (σ : List (Option V)) (H : Hp) (s : Shared) : Prop where
  ok : X.Ok
  os : s.os = X.s₀.os
  bare : AllBare s.gens
  base : Un X.fs X.ex X.H₀ H X.s₀.heap s.heap
  loc : ∃ m, s.heap.Ns X.env.locals m ∧ ∀ (i : Nat) (x : Str) (v : V), X.N[i]? = some x → σ[i]? = some (some v) → Vis X.env.scope x → ∃ u, RelV v u ∧ Look X.env s.heap m x u
  cell : ∀ x c, X.env.cells.lookup x = some c → ∃ v, s.heap.IsCell c v
  free : H X.env.locals = none
  freeC : ∀ x c, X.env.cells.lookup x = some c → H c = none
  pin : ∀ p ∈ X.pn ++ pins, s.heap.get? p.1 = some p.2 ∧ H p.1 = none ∧ p.1 ≠ X.env.locals ∧ p.1 ∉ X.fs ∧ ∀ v, p.2.data ≠ .cell v
  hok : HOk X.prog X.w H s.heap
  len : σ.length = X.N.length
section
variable {X : Cx} {pins : List (Addr × Obj)} {σ : List (Option V)} {H H' : Hp} {s : Shared} {h' : Heap}
theorem Cx.Ok.nofr (ok : X.Ok) {b : Addr} {o : Obj} (e : X.base.get? b = some o) : b ∉ X.fs := fun hb => by
  have := (ok.funs.mem hb).1
  rw [e] at this; cases this
theorem Inv.bs (I : Inv X pins σ H s) : ∀ b o, X.base.get? b = some o → s.heap.get? b = some o ∧ H b = none := fun b o e =>
  ⟨I.base.keep b o (I.ok.bs b o e).1 (I.ok.bs b o e).2 (I.ok.nofr e) (I.ok.noex b o e), I.base.free b o (I.ok.bs b o e).1 (I.ok.bs b o e).2 (I.ok.noex b o e)⟩
theorem Inv.bk (I : Inv X pins σ H s) : ∀ b o, X.base.get? b = some o → s.heap.get? b = some o := fun b o e => (I.bs b o e).1
theorem Inv.mod (I : Inv X pins σ H s) : Mod X.K X.mg X.base := I.ok.mod
theorem Inv.kIn (I : Inv X pins σ H s) : X.K.In s.heap := I.ok.mod.kin.keeps I.bk
theorem Inv.lt (I : Inv X pins σ H s) : X.env.locals < s.heap.objs.size := let ⟨_, hn, _⟩ := I.loc; hn.lt
theorem Inv.sz (I : Inv X pins σ H s) : X.s₀.heap.objs.size ≤ s.heap.objs.size := Nat.le_trans I.ok.above (Nat.le_of_lt I.lt)
theorem Inv.nofs (I : Inv X pins σ H s) {a : Addr} (h : s.heap.objs.size ≤ a) : a ∉ X.fs := fun hb => by
  obtain ⟨_, o, ho, _⟩ := I.ok.funs.mem hb
  exact absurd (Nat.lt_of_lt_of_le (Heap.lt_size ho) (Nat.le_trans I.sz h)) (Nat.lt_irrefl _)
theorem Inv.cne (I : Inv X pins σ H s) : ∀ x c, X.env.cells.lookup x = some c → c ≠ X.env.locals := fun x c e z => by
  obtain ⟨v, o, ho, hd⟩ := I.cell x c e
  obtain ⟨m, ⟨o', es, ep, ho', hd', _⟩, _⟩ := I.loc
  rw [z, ho'] at ho; cases ho; rw [hd'] at hd; cases hd
theorem Inv.funs (I : Inv X pins σ H s) : s.heap.FunFrames X.base X.outer := by
  have all : ∀ (l : List Env), (∀ b ∈ frs l, b ∈ X.fs) → X.s₀.heap.FunFrames X.base l → s.heap.FunFrames X.base l := by
    intro l
    induction l with
    | nil => intro _ _; trivial
    | cons env r ih =>
      intro hs hl
      obtain ⟨hk, ⟨L, o, hf, hn, ho, hd⟩, hr⟩ := hl
      have hL : L ∈ X.fs := hs L (by unfold frs; rw [List.filterMap_cons, hf]; exact List.mem_cons_self)
      obtain ⟨sl, e⟩ := I.base.slot L o ho (I.ok.frf L hL) hL fun z => I.ok.exfs L z hL
      exact ⟨hk, ⟨L, _, hf, hn, e, hd⟩, ih (fun b hb => hs b (by unfold frs; rw [List.filterMap_cons, hf]; exact List.mem_cons_of_mem _ hb)) hr⟩
  exact all X.outer (fun _ hb => hb) I.ok.funs
theorem Inv.stack (I : Inv X pins σ H s) : s.heap.FunFrames X.base X.stack := by
  rcases I.ok.stk with e | ⟨e, hf⟩
  · rw [e]; exact I.funs
  · rw [e]
    obtain ⟨m, hn, _⟩ := I.loc
    refine .cons (by rw [I.ok.kind]; decide) hf hn ?_ I.funs
    exact Heap.get?_none_of_le (Nat.le_trans I.ok.bsz I.ok.above)
theorem Inv.stkSub (I : Inv X pins σ H s) : ∀ b ∈ frs X.stack, b ∈ X.env.locals :: X.fs := fun b hb => by
  rcases I.ok.stk with e | ⟨e, hf⟩
  · rw [e] at hb; exact List.mem_cons_of_mem _ hb
  · rw [e] at hb
    unfold frs at hb
    rw [List.filterMap_cons, hf] at hb
    exact hb
theorem Inv.stkFree (I : Inv X pins σ H s) : ∀ b ∈ frs X.stack, H b = none := fun b hb => by
  rcases List.mem_cons.mp (I.stkSub b hb) with e | hb
  · rw [e]; exact I.free
  · obtain ⟨_, o, ho, _⟩ := I.ok.funs.mem hb
    exact I.base.free b o ho (I.ok.frf b hb) fun z => I.ok.exfs b z hb
theorem Inv.step {g' : Array GenState} {t' : Nat} {d' : Drawn} {ch : List Addr} (I : Inv X pins σ H s)
    (hch : ∀ b ∈ ch, (b ∈ X.ex ∨ X.s₀.heap.objs.size ≤ b) ∧ b ≠ X.env.locals ∧ (∀ x c, X.env.cells.lookup x = some c → c ≠ b) ∧ ∀ p ∈ X.pn ++ pins, p.1 ≠ b)
    (keep : ∀ b o, b ≠ X.env.locals → b ∉ X.fs → b ∉ ch → s.heap.get? b = some o → H b = none → h'.get? b = some o)
    (slot : ∀ b o, b ≠ X.env.locals → b ∈ X.fs → b ∉ ch → s.heap.get? b = some o → H b = none → ∃ sl, h'.get? b = some { o with slots := sl }) (free : ∀ b o, b ∉ ch → s.heap.get? b = some o → H b = none → H' b = none)
    (there : ∀ b o, b ∉ ch → s.heap.get? b = some o → ∃ o', h'.get? b = some o')
    (tups : ∀ b xs, H b = some (.tup xs) → H' b = some (.tup xs)) (frzs : ∀ b o u, H b = some (.frz o u) → H' b = some (.frz o u)) (tbls : ∀ b ps, H b = some (.tbl ps) → ∃ more, H' b = some (.tbl (ps ++ more)))
    (ns : ∀ m, s.heap.Ns X.env.locals m → h'.Ns X.env.locals m) (hok : HOk X.prog X.w H' h') (hg : AllBare g') :
    Inv X pins σ H' { s with heap := h', gens := g', drawn := d', toks := t' } := by
  have neL : ∀ b o, X.s₀.heap.get? b = some o → b ≠ X.env.locals := fun b o e => Nat.ne_of_lt (Nat.lt_of_lt_of_le (Heap.lt_size e) I.ok.above)
  have neC : ∀ b o, X.s₀.heap.get? b = some o → b ∉ X.ex → b ∉ ch := fun b o e hx hb => by
    rcases (hch b hb).1 with z | z
    · exact hx z
    · exact absurd (Nat.lt_of_lt_of_le (Heap.lt_size e) z) (Nat.lt_irrefl _)
  have cellK : ∀ x c, X.env.cells.lookup x = some c → ∀ v, s.heap.IsCell c v → h'.IsCell c v := fun x c e v ⟨o, ho, hd⟩ => by
    have nch : c ∉ ch := fun z => (hch c z).2.2.1 x c e rfl
    by_cases hc : c ∈ X.fs
    · obtain ⟨sl, q⟩ := slot c o (I.cne x c e) hc nch ho (I.freeC x c e)
      exact ⟨_, q, hd⟩
    · exact ⟨o, keep c o (I.cne x c e) hc nch ho (I.freeC x c e), hd⟩
  refine ⟨I.ok, I.os, hg, ⟨fun b o e n hb hx => ?_, fun b o e n hb hx => ?_, fun b o e n hx => ?_, fun b o e hx => ?_, fun b xs e => tups b xs (I.base.tups b xs e), fun b o xs e => frzs b o xs (I.base.frzs b o xs e), fun b ps e => ?_⟩, ?_, fun x c e => ?_, ?_, fun x c e => ?_, fun p hp => ?_, hok, I.len⟩
  · exact keep b o (neL b o e) hb (neC b o e hx) (I.base.keep b o e n hb hx) (I.base.free b o e n hx)
  · obtain ⟨sl, e1⟩ := I.base.slot b o e n hb hx
    obtain ⟨sl', e2⟩ := slot b _ (neL b o e) hb (neC b o e hx) e1 (I.base.free b o e n hx)
    exact ⟨sl', e2⟩
  · obtain ⟨o', e1⟩ := I.base.there b o e hx
    exact free b o' (neC b o e hx) e1 (I.base.free b o e n hx)
  · obtain ⟨o', e1⟩ := I.base.there b o e hx
    exact there b o' (neC b o e hx) e1
  · obtain ⟨m1, e1⟩ := I.base.tbls b ps e
    obtain ⟨m2, e2⟩ := tbls b _ e1
    exact ⟨m1 ++ m2, by rw [e2, Array.append_assoc]⟩
  · obtain ⟨m, hn, hl⟩ := I.loc
    refine ⟨m, ns m hn, fun i x v e1 e2 e3 => ?_⟩
    obtain ⟨u, r, l⟩ := hl i x v e1 e2 e3
    refine ⟨u, r, ?_⟩
    rcases l with l | ⟨k, c, e, z⟩
    · exact .inl l
    · exact .inr ⟨k, c, e, cellK x c e _ z⟩
  · obtain ⟨v, z⟩ := I.cell x c e
    exact ⟨v, cellK x c e v z⟩
  · obtain ⟨m, ⟨o, _, _, ho, _⟩, _⟩ := I.loc
    exact free _ o (fun z => (hch _ z).2.1 rfl) ho I.free
  · obtain ⟨v, o, ho, hd⟩ := I.cell x c e
    exact free c o (fun z => (hch c z).2.2.1 x c e rfl) ho (I.freeC x c e)
  · obtain ⟨e, n, ne, nf, d⟩ := I.pin p hp
    have nch : p.1 ∉ ch := fun z => (hch p.1 z).2.2.2 p hp rfl
    exact ⟨keep p.1 p.2 ne nf nch e n, free p.1 p.2 nch e n, ne, nf, d⟩
theorem Inv.un {t' : Nat} (I : Inv X pins σ H s) (u : Un X.fs [] H H' s.heap h') (hok : HOk X.prog X.w H' h') : Inv X pins σ H' { s with heap := h', toks := t' } := by
  obtain ⟨m, ⟨o, es, ep, ho, r⟩, _⟩ := id I.loc
  obtain ⟨sl, hL⟩ := u.any ho I.free (by simp)
  exact I.step (g' := s.gens) (d' := s.drawn) (ch := []) (fun _ z => nomatch z) (fun b o _ hb _ e n => u.keep b o e n hb (by simp)) (fun b o _ hb _ e n => u.slot b o e n hb (by simp)) (fun b o _ e n => u.free b o e n (by simp)) (fun b o _ e => u.there b o e (by simp)) u.tups u.frzs u.tbls (fun m' hm => by
    obtain ⟨o', es', ep', ho', r'⟩ := hm
    rw [ho] at ho'; cases ho'
    exact ⟨_, es', ep', hL, r'⟩) hok I.bare
theorem Inv.call {g' : Array GenState} {t' : Nat} {d' : Drawn} {ch : List Addr} (I : Inv X pins σ H s) (u : Un (frs X.stack) ch H H' s.heap h') (hok : HOk X.prog X.w H' h') (hg : AllBare g')
    (hch : ∀ b ∈ ch, (b ∈ X.ex ∨ X.s₀.heap.objs.size ≤ b) ∧ b ≠ X.env.locals ∧ (∀ x c, X.env.cells.lookup x = some c → c ≠ b) ∧ ∀ p ∈ X.pn ++ pins, p.1 ≠ b) :
    Inv X pins σ H' { s with heap := h', gens := g', drawn := d', toks := t' } := by
  obtain ⟨m, ⟨o, es, ep, ho, r⟩, _⟩ := id I.loc
  obtain ⟨sl, hL⟩ := u.any ho I.free fun z => (hch _ z).2.1 rfl
  exact I.step (ch := ch) hch (fun b o hL hb hc e n => u.keep b o e n (fun z => (List.mem_cons.mp (I.stkSub b z)).elim hL hb) hc) (fun b o _ _ hc e n => u.any e n hc) (fun b o hc e n => u.free b o e n hc) (fun b o hc e => u.there b o e hc) u.tups u.frzs u.tbls (fun m' hm => by
    obtain ⟨o', es', ep', ho', r'⟩ := hm
    rw [ho] at ho'; cases ho'
    exact ⟨_, es', ep', hL, r'⟩) hok hg
theorem Inv.turned {t' : Nat} {it : Addr} (I : Inv X pins σ H s) (k : ∀ b o, b ≠ it → s.heap.get? b = some o → h'.get? b = some o) (hn : H it = none) (hL : it ≠ X.env.locals)
    (h1 : it ∈ X.ex ∨ X.s₀.heap.objs.size ≤ it) (h2 : ∀ x c, X.env.cells.lookup x = some c → c ≠ it) (h3 : ∀ p ∈ X.pn ++ pins, p.1 ≠ it) : Inv X pins σ H { s with heap := h', toks := t' } := by
  have nit : ∀ b u, H b = some u → b ≠ it := fun b u e z => by rw [z, hn] at e; cases e
  refine I.step (g' := s.gens) (d' := s.drawn) (ch := [it]) (fun b hb => ?_) (fun b o _ _ hc e _ => k b o (fun z => hc (by simp [z])) e) (fun b o _ _ hc e _ => ⟨o.slots, k b o (fun z => hc (by simp [z])) e⟩) (fun _ _ _ _ n => n)
    (fun b o hc e => ⟨o, k b o (fun z => hc (by simp [z])) e⟩) (fun _ _ e => e) (fun _ _ _ e => e) (fun b ps e => ⟨#[], by rw [e]; simp⟩) (fun m hm => ?_) (fun b u e => ?_) I.bare
  · have e : b = it := by simpa using hb
    subst e
    exact ⟨h1, hL, h2, h3⟩
  · obtain ⟨o, es, ep, ho, r⟩ := hm
    exact ⟨o, es, ep, k _ o (Ne.symm hL) ho, r⟩
  · refine (I.hok b u e).stay (fun c v hc q => k c v ?_ q) (fun _ q => q) fun _ _ q => q
    rcases hc with z | z
    · rw [z]; exact nit b u e
    · exact nit c _ z
theorem Inv.tok (I : Inv X pins σ H s) (t : Nat) : Inv X pins σ H { s with toks := t } := I.un (h' := s.heap) (t' := t) Un.refl I.hok
theorem Inv.kept {t' : Nat} (I : Inv X pins σ H s) (k : ∀ b u, s.heap.get? b = some u → h'.get? b = some u) : Inv X pins σ H { s with heap := h', toks := t' } := I.un (Un.kept k) (I.hok.kept k)
theorem Inv.laid {a : Addr} {o : HO} {t' : Nat} (I : Inv X pins σ H s) (k : ∀ b u, s.heap.get? b = some u → h'.get? b = some u) (hp : s.heap.objs.size ≤ a) (new : ObjOk X.prog X.w (upd H a o) h' a o) :
    Inv X pins σ (upd H a o) { s with heap := h', toks := t' } := I.un (Un.laid k hp (I.hok.fresh hp)) (I.hok.laid k hp new)
theorem Inv.write {x e : Addr} {o : HO} {t' : Nat} (I : Inv X pins σ H s) (mu : Mut (H x)) (he : e = x ∨ H e = some (.own x)) (k : ∀ b u, b ≠ e → s.heap.get? b = some u → h'.get? b = some u) (heo : ∃ u, h'.get? e = some u)
    (new : ObjOk X.prog X.w (upd H x o) h' x o) : Inv X pins σ (upd H x o) { s with heap := h', toks := t' } := I.un (Un.write mu he k heo) (I.hok.write mu he k heo new)
theorem Inv.pins_of {pins' : List (Addr × Obj)} (I : Inv X pins σ H s) (h : ∀ p ∈ pins', s.heap.get? p.1 = some p.2 ∧ H p.1 = none ∧ p.1 ≠ X.env.locals ∧ p.1 ∉ X.fs ∧ ∀ v, p.2.data ≠ .cell v) : Inv X pins' σ H s :=
  ⟨I.ok, I.os, I.bare, I.base, I.loc, I.cell, I.free, I.freeC, fun p hp => (List.mem_append.mp hp).elim (fun z => I.pin p (List.mem_append_left _ z)) (h p), I.hok, I.len⟩
theorem qf3_ {N : List Str} (hN : N.Nodup) {i j : Nat} {x : Str} (a : N[i]? = some x) (b : N[j]? = some x) : i = j := by
  obtain ⟨h1, e1⟩ := List.getElem?_eq_some_iff.mp a
  obtain ⟨h2, e2⟩ := List.getElem?_eq_some_iff.mp b
  exact (List.getElem_inj hN).mp (e1.trans e2.symm)
theorem qg0_ {M : Model} {A : Around} {E : Value → Shared → Prop} {i : Nat} {x : Str} {v : V} {u : Value} {Q : Unit → Shared → Prop} (I : Inv X pins σ H s) (hN : X.N.Nodup) (hi : X.N[i]? = some x) (hx : Loc X.env.scope x) (r : RelV v u)
    (h : ∀ s', Inv X pins (σ.set i (some v)) H s' → (∃ a, Heap.SameBut a s.heap s'.heap ∧ (a = X.env.locals ∨ X.env.cells.lookup x = some a)) → Q () s') (hf : X.fn x = true ∨ X.env.scope.names.lookup x = some .local := by first | exact .inl rfl | exact .inr rfl | assumption) : wpAny M A (storeName X.env x u) Q E s := by
  obtain ⟨m, hn, hl⟩ := id I.loc
  have hcls : (X.env.scope.kind == .class || (X.env.scope.kind == .module && X.env.locals != X.env.globals)) = false := by rw [I.ok.kind]; rfl
  have hiσ : i < σ.length := by rw [I.len]; exact (List.getElem?_eq_some_iff.mp hi).1
  have cne := I.cne
  have tracked : ∀ {a : Addr} {h' : Heap}, (∃ o, s.heap.get? a = some o ∧ H a = none) → Heap.SameBut a s.heap h' → HOk X.prog X.w H h' := fun {a h'} ha hs b ob e => by
    obtain ⟨_, _, hfree⟩ := ha
    refine (I.hok b ob e).stay (fun c w' hc q => (hs.2 c ?_).trans q) (fun _ q => q) fun _ _ q => q
    rintro rfl
    rcases hc with rfl | hc
    · rw [hfree] at e; cases e
    · rw [hfree] at hc; cases hc
  rcases hx with hk | hk
  · refine wpAny_storeName_local hk hn (fun h' hn' hs => ?_) hcls
    obtain ⟨oL, _, _, hoL, _⟩ := id hn
    refine h _ ⟨I.ok, I.os, I.bare, ⟨fun b o e n hb hx => ?_, fun b o e n hb hx => ?_, I.base.free, fun b o e hx => ?_, I.base.tups, I.base.frzs, I.base.tbls⟩, ⟨_, hn', fun j y v' e1 e2 e3 => ?_⟩, fun y c e => ?_, I.free, I.freeC, fun p hp => ?_, tracked ⟨oL, hoL, I.free⟩ hs, by simpa using I.len⟩ ⟨_, hs, .inl rfl⟩
    · exact (hs.2 b (Nat.ne_of_lt (Nat.lt_of_lt_of_le (Heap.lt_size e) I.ok.above))).trans (I.base.keep b o e n hb hx)
    · obtain ⟨sl, e1⟩ := I.base.slot b o e n hb hx
      exact ⟨sl, (hs.2 b (Nat.ne_of_lt (Nat.lt_of_lt_of_le (Heap.lt_size e) I.ok.above))).trans e1⟩
    · obtain ⟨o', e1⟩ := I.base.there b o e hx
      exact ⟨o', (hs.2 b (Nat.ne_of_lt (Nat.lt_of_lt_of_le (Heap.lt_size e) I.ok.above))).trans e1⟩
    · by_cases hj : j = i
      · subst hj
        rw [hi] at e1; cases e1
        rw [List.getElem?_set_self hiσ] at e2
        cases e2
        exact ⟨u, r, .inl ⟨hk, by simp⟩⟩
      · rw [List.getElem?_set_ne (Ne.symm hj)] at e2
        obtain ⟨u', r', q⟩ := hl j y v' e1 e2 e3
        refine ⟨u', r', ?_⟩
        rcases q with ⟨k, e⟩ | ⟨k, c, e, z⟩
        · refine .inl ⟨k, ?_⟩
          have : y ≠ x := fun e => hj (qf3_ hN e1 (e ▸ hi))
          simp [this, e]
        · exact .inr ⟨k, c, e, z.sameBut hs (cne y c e)⟩
    · obtain ⟨w', z⟩ := I.cell y c e
      exact ⟨w', z.sameBut hs (cne y c e)⟩
    · obtain ⟨e, n, ne, nf, d⟩ := I.pin p hp
      exact ⟨(hs.2 p.1 ne).trans e, n, ne, nf, d⟩
  · have hfn : X.fn x = true := by
      rcases hf with z | z
      · exact z
      · rw [z] at hk; cases hk
    obtain ⟨c, hc⟩ := I.ok.has x (.inl hk)
    obtain ⟨w', z⟩ := I.cell x c hc
    refine wpAny_storeName_cell I.ok.kind hk hc z (fun h' hc' hs => ?_)
    obtain ⟨oc, hoc, hocd⟩ := id z
    refine h { s with heap := h' } ⟨I.ok, I.os, I.bare, ⟨fun b o e n hb hx => ?_, fun b o e n hb hx => ?_, I.base.free, fun b o e hx => ?_, I.base.tups, I.base.frzs, I.base.tbls⟩, ⟨m, hn.sameBut hs (Ne.symm (cne x c hc)), fun j y v' e1 e2 e3 => ?_⟩, fun y c' e => ?_, I.free, I.freeC, fun p hp => ?_, tracked ⟨oc, hoc, I.freeC x c hc⟩ hs, by simpa using I.len⟩ ⟨c, hs, .inr hc⟩
    · exact (hs.2 b (Nat.ne_of_lt (Nat.lt_of_lt_of_le (Heap.lt_size e) (I.ok.cab x c hfn hc)))).trans (I.base.keep b o e n hb hx)
    · obtain ⟨sl, e1⟩ := I.base.slot b o e n hb hx
      exact ⟨sl, (hs.2 b (Nat.ne_of_lt (Nat.lt_of_lt_of_le (Heap.lt_size e) (I.ok.cab x c hfn hc)))).trans e1⟩
    · obtain ⟨o', e1⟩ := I.base.there b o e hx
      exact ⟨o', (hs.2 b (Nat.ne_of_lt (Nat.lt_of_lt_of_le (Heap.lt_size e) (I.ok.cab x c hfn hc)))).trans e1⟩
    · by_cases hj : j = i
      · subst hj
        rw [hi] at e1; cases e1
        rw [List.getElem?_set_self hiσ] at e2
        cases e2
        exact ⟨u, r, .inr ⟨.inl hk, c, hc, hc'⟩⟩
      · rw [List.getElem?_set_ne (Ne.symm hj)] at e2
        obtain ⟨u', r', q⟩ := hl j y v' e1 e2 e3
        refine ⟨u', r', ?_⟩
        rcases q with q | ⟨k, c', e, z'⟩
        · exact .inl q
        · refine .inr ⟨k, c', e, z'.sameBut hs ?_⟩
          rintro rfl
          exact hj (qf3_ hN e1 (I.ok.inj _ _ _ e hc ▸ hi))
    · by_cases hcc : c' = c
      · subst hcc; exact ⟨_, hc'⟩
      · obtain ⟨w2, z2⟩ := I.cell y c' e
        exact ⟨w2, z2.sameBut hs hcc⟩
    · obtain ⟨e, n, ne, nf, d⟩ := I.pin p hp
      refine ⟨(hs.2 p.1 ?_).trans e, n, ne, nf, d⟩
      intro q
      rw [q, hoc] at e
      have q' : oc = p.2 := Option.some.inj e
      exact d w' (by rw [← q']; exact hocd)
theorem qdw_ {M : Model} {A : Around} {E : Value → Shared → Prop} {i : Nat} {x : Str} {v : V} {u : Value} {Q : Unit → Shared → Prop} (I : Inv X pins σ H s) (hN : X.N.Nodup) (hi : X.N[i]? = some x) (hx : Loc X.env.scope x) (r : RelV v u)
    (h : ∀ s', Inv X pins (σ.set i (some v)) H s' → Q () s') (hf : X.fn x = true ∨ X.env.scope.names.lookup x = some .local := by first | exact .inl rfl | exact .inr rfl | assumption) : wpAny M A (storeName X.env x u) Q E s :=
  qg0_ I hN hi hx r (fun s' I' _ => h s' I') hf
theorem Inv.call' {s' : Shared} {ch : List Addr} (I : Inv X pins σ H s) (ho : s'.os = s.os) (u : Un (frs X.stack) ch H H' s.heap s'.heap) (hok : HOk X.prog X.w H' s'.heap) (hg : AllBare s'.gens)
    (hch : ∀ b ∈ ch, (b ∈ X.ex ∨ X.s₀.heap.objs.size ≤ b) ∧ b ≠ X.env.locals ∧ (∀ x c, X.env.cells.lookup x = some c → c ≠ b) ∧ ∀ p ∈ X.pn ++ pins, p.1 ≠ b) : Inv X pins σ H' s' := by
  obtain ⟨h', g', d', t', o'⟩ := s'
  have e : o' = s.os := ho
  subst e
  exact I.call (g' := g') (t' := t') (d' := d') u hok hg hch
end
abbrev XK := Value → Option Addr → Hp → Prop
abbrev St := List (Option V)
abbrev VK := V → Hp → Prop
abbrev TE := St → Hp → VK → Prop
abbrev TT := St → Hp → (Bool → Hp → Prop) → Prop
abbrev TA := St → Hp → (List V → Hp → Prop) → Prop
structure Ends where
  nx : St → Hp → Prop
  rt : VK
  bk : St → Hp → Prop := fun _ _ => False
  ct : St → Hp → Prop := fun _ _ => False
abbrev TS := Ends → St → Hp → Prop
def EP (X : Cx) (pins : List (Addr × Obj)) (σ : St) (Q : VK) (u : Value) (s' : Shared) : Prop := ∃ v H', Inv X pins σ H' s' ∧ RelV v u ∧ Q v H'
def TP (X : Cx) (pins : List (Addr × Obj)) (σ : St) (Q : Bool → Hp → Prop) (b : Bool) (s' : Shared) : Prop := ∃ H', Inv X pins σ H' s' ∧ Q b H'
def AP (X : Cx) (pins : List (Addr × Obj)) (σ : St) (Q : List V → Hp → Prop) (us : List Value) (s' : Shared) : Prop := ∃ vs H', Inv X pins σ H' s' ∧ Vals vs us ∧ Q vs H'
def SP (X : Cx) (pins : List (Addr × Obj)) (D : Ends) (f : Flow) (s' : Shared) : Prop :=
  match f with
  | .next => ∃ σ' H', Inv X pins σ' H' s' ∧ D.nx σ' H'
  | .brk => ∃ σ' H', Inv X pins σ' H' s' ∧ D.bk σ' H'
  | .cont => ∃ σ' H', Inv X pins σ' H' s' ∧ D.ct σ' H'
  | .ret u => ∃ v σ' H', Inv X pins σ' H' s' ∧ RelV v u ∧ D.rt v H'
def PE (X : Cx) (e : Expr) (t : TE) : Prop :=
  ∀ (pins : List (Addr × Obj)) (s : Shared) (σ : St) (H : Hp) (Q : VK), Inv X pins σ H s → t σ H Q → wpAny (model X.prog X.w) X.A (eval e X.env) (EP X pins σ Q) X.xe s
def PT (X : Cx) (e : Expr) (t : TT) : Prop :=
  ∀ (pins : List (Addr × Obj)) (s : Shared) (σ : St) (H : Hp) (Q : Bool → Hp → Prop), Inv X pins σ H s → t σ H Q → wpAny (model X.prog X.w) X.A (isTrue e X.env (eval e X.env)) (TP X pins σ Q) X.xe s
def PW (X : Cx) (e : Expr) (t : TT) : Prop :=
  ∀ (whole : Sem Value) (pins : List (Addr × Obj)) (s : Shared) (σ : St) (H : Hp) (Q : Bool → Hp → Prop), Inv X pins σ H s → t σ H Q → wpAny (model X.prog X.w) X.A (isTrue e X.env whole) (TP X pins σ Q) X.xe s
theorem PW.pt {X : Cx} {e : Expr} {t : TT} (h : PW X e t) : PT X e t := h _
def PA (X : Cx) (es : List Expr) (t : TA) : Prop :=
  ∀ (pos : Pos) (pins : List (Addr × Obj)) (s : Shared) (σ : St) (H : Hp) (Q : List V → Hp → Prop), Inv X pins σ H s → t σ H Q → wpAny (model X.prog X.w) X.A (spliced (backTo pos (starEach es X.env))) (AP X pins σ Q) X.xe s
def PS (X : Cx) (st : Stmt) (t : TS) : Prop :=
  ∀ (pins : List (Addr × Obj)) (s : Shared) (σ : St) (H : Hp) (D : Ends), Inv X pins σ H s → t D σ H → wpAny (model X.prog X.w) X.A (exec st X.env) (SP X pins D) X.xe s
def PSs (X : Cx) (st : List Stmt) (t : TS) : Prop :=
  ∀ (pins : List (Addr × Obj)) (s : Shared) (σ : St) (H : Hp) (D : Ends), Inv X pins σ H s → t D σ H → wpAny (model X.prog X.w) X.A (execs st X.env) (SP X pins D) X.xe s
theorem thn {α : Type} {t : Sem α} {Q Q' : α → Shared → Prop} {M : Model} {A : Around} {E : Value → Shared → Prop} {s : Shared} (h : wpAny M A t Q E s) (hQ : ∀ a s, Q a s → Q' a s) : wpAny M A t Q' E s := wpAny_mono h hQ fun _ _ x => x
end L2
namespace L2
open PySem PySem.Spec PyProof.Rows
section
variable {X : Cx}
def tVar (i : Nat) : TE := fun σ H Q => ∃ v, σ[i]? = some (some v) ∧ Q v H
def tC (v : V) : TE := fun _ H Q => Q v H
theorem qsr_ {i : Nat} {x : Str} {pos : Pos} (hN : X.N[i]? = some x) (hv : Vis X.env.scope x) (hd : (x == ("__debug__" : Str)) = false := by decide) (hcd : (x == ("__classdict__" : Str)) = false := by decide) : PE X (.Name x pos) (tVar i) := by
  intro pins s σ H Q I h
  obtain ⟨v, e, h⟩ := h
  obtain ⟨m, hn, hl⟩ := I.loc
  obtain ⟨u, r, l⟩ := hl i x v hN e hv
  have fin : EP X pins σ Q u s := ⟨v, H, I, r, h⟩
  rcases l with ⟨hk, hm⟩ | ⟨hk, c, hc, hcell⟩
  · exact wpAny_Name (wpAny_loadName_local I.ok.kind hk hn hm fin) hd
  · rcases hk with hk | hk
    · exact wpAny_Name (wpAny_loadName_cell I.ok.kind hk hc hcell fin) hd
    · exact wpAny_Name (wpAny_loadName_free I.ok.kind hk hc hcell fin hcd) hd
theorem qdl_ {i j pos} : PE X (.Constant (.int i) j pos) (tC (.int i)) := fun _ _ _ H _ I h => wpAny_Constant_int ⟨.int i, H, I.tok _, ⟨_, rfl⟩, h⟩
theorem qu2_ {b j pos} : PE X (.Constant (.bool b) j pos) (tC (.bl b)) := fun _ _ _ H _ I h => Constant_bool ⟨.bl b, H, I, rfl, h⟩
theorem qoc_ {j pos} : PE X (.Constant .none j pos) (tC .non) := fun _ _ _ H _ I h => Constant_none ⟨.non, H, I, rfl, h⟩
theorem qbu_ {x j pos} : PE X (.Constant (.str x) j pos) (tC (.str x)) := fun _ _ _ H _ I h => Calls.Constant_str ⟨.str x, H, I.tok _, ⟨_, rfl⟩, h⟩
def Gl (X : Cx) (x : Str) : Prop := X.env.kindOf x = some .globalImplicit
theorem qe1_ {E : Value → Shared → Prop} {pins : List (Addr × Obj)} {s : Shared} {σ : St} {H : Hp} {x : Str} {u : Value} {pos : Pos} {Q : Value → Shared → Prop} (I : Inv X pins σ H s) (hg : Gl X x) (hm : X.mg x = some u) (h : Q u s)
    (hd : (x == ("__debug__" : Str)) = false := by decide) : wpAny (model X.prog X.w) X.A (eval (.Name x pos) X.env) Q E s :=
  Calls.Name_function_global I.ok.kind hg (Calls.loadGlobal_global (by rw [I.ok.glob]; exact I.mod.glob.keeps I.bk) hm h) hd
theorem qcc_ {E : Value → Shared → Prop} {pins : List (Addr × Obj)} {s : Shared} {σ : St} {H : Hp} {x : Str} {u : Value} {pos : Pos} {Q : Value → Shared → Prop} (I : Inv X pins σ H s) (hg : Gl X x) (hm : X.mg x = none) (hv : bootBuiltins x = some u) (h : Q u s)
    (hn : x ≠ "__name__" := by decide) (hd : (x == ("__debug__" : Str)) = false := by decide) : wpAny (model X.prog X.w) X.A (eval (.Name x pos) X.env) Q E s := by
  obtain ⟨mb, h1, h2⟩ := I.mod.blt
  exact Calls.Name_function_global I.ok.kind hg (Calls.loadGlobal_builtin (by rw [I.ok.glob]; exact I.mod.glob.keeps I.bk) hm (by rw [I.ok.blt]; exact h1.keeps I.bk) ((h2 x hn).trans hv) h) hd
theorem qkn_ {x : Str} {v : V} {u : Value} {pos : Pos} (hg : Gl X x) (hm : X.mg x = some u) (r : RelV v u) (hd : (x == ("__debug__" : Str)) = false := by decide) : PE X (.Name x pos) (tC v) :=
  fun _ _ _ H _ I h => qe1_ I hg hm ⟨v, H, I, r, h⟩ hd
theorem qlk_ {x : Str} {v : V} {u : Value} {pos : Pos} (hg : Gl X x) (hm : X.mg x = none) (hv : bootBuiltins x = some u) (r : RelV v u) (hn : x ≠ "__name__" := by decide) (hd : (x == ("__debug__" : Str)) = false := by decide) : PE X (.Name x pos) (tC v) :=
  fun _ _ _ H _ I h => qcc_ I hg hm hv ⟨v, H, I, r, h⟩ hn hd
variable {a b : Expr} {ta tb : TE} {pos : Pos}
def tB (t : TE) : TT := fun σ H Q => t σ H fun x H1 => ∃ c, x = .bl c ∧ Q c H1
theorem qos_ {e : Expr} {t : TE} (h : PE X e t) (he : ∀ whole, isTrue e X.env whole = (do let v ← whole; standAt e.pos; holding [v] (truthy v)) := by intro _; rfl) : PT X e (tB t) := by
  intro pins s σ H Q I hw
  refine isTrue_plain (thn (h pins s σ H _ I hw) fun v s1 zz7 => e23 zz7 fun x H1 I1 r1 q1 => ?_) (he _)
  obtain ⟨d, rfl, q⟩ := q1
  cases r1
  exact wpAny_truthy_bool ⟨H1, I1, q⟩
variable {tA tB' : TT} {rest : List Expr}
def tAnd (t u : TT) : TT := fun σ H Q => t σ H fun c H1 => if c = true then u σ H1 Q else Q false H1
def tOr (t u : TT) : TT := fun σ H Q => t σ H fun c H1 => if c = true then Q true H1 else u σ H1 Q
def tNot (t : TT) : TT := fun σ H Q => t σ H fun c H1 => Q (!c) H1
theorem qpp_ (ha : PT X a tA) : PW X (.BoolOp .And [a] pos) tA := by
  intro wh pins s σ H Q I h
  refine isTrue_and (thn (ha pins s σ H Q I h) fun c s1 e => ?_)
  cases c with
  | true => exact isTrue_and_nil e
  | false => exact e
theorem qso_ (ha : PT X a tA) : PW X (.BoolOp .Or [a] pos) tA := by
  intro wh pins s σ H Q I h
  refine isTrue_or (thn (ha pins s σ H Q I h) fun c s1 e => ?_)
  cases c with
  | false => exact isTrue_or_nil e
  | true => exact e
theorem qtn_ (ha : PT X a tA) (hb : PW X (.BoolOp .And (b :: rest) pos) tB') : PW X (.BoolOp .And (a :: b :: rest) pos) (tAnd tA tB') := by
  intro wh pins s σ H Q I h
  refine isTrue_and (thn (ha pins s σ H _ I h) fun c s1 zz8 => e12 zz8 fun H1 I1 q1 => ?_)
  cases c with
  | true => exact hb wh pins s1 σ H1 Q I1 q1
  | false => exact ⟨H1, I1, q1⟩
theorem qu6_ (ha : PT X a tA) (hb : PW X (.BoolOp .Or (b :: rest) pos) tB') : PW X (.BoolOp .Or (a :: b :: rest) pos) (tOr tA tB') := by
  intro wh pins s σ H Q I h
  refine isTrue_or (thn (ha pins s σ H _ I h) fun c s1 zz9 => e12 zz9 fun H1 I1 q1 => ?_)
  cases c with
  | true => exact ⟨H1, I1, q1⟩
  | false => exact hb wh pins s1 σ H1 Q I1 q1
theorem qol_ (ha : PT X a tA) : PT X (.UnaryOp .Not a pos) (tNot tA) := by
  intro pins s σ H Q I h
  exact isTrue_not (ha pins s σ H (fun c H1 => Q (!c) H1) I h)
def qv1_ (ta tb : TE) : TE := fun σ H Q => ta σ H fun x H1 => ∃ c, x = .bl c ∧ if c = true then tb σ H1 Q else Q (.bl false) H1
def qvq_ (ta : TE) : TE := fun σ H Q => ta σ H fun x H1 => ∃ c, x = .bl c ∧ Q (.bl (!c)) H1
theorem qst_ {op} {t : TE} (h : PE X a t) : PE X (.BoolOp op [a] pos) t := fun pins s σ H Q I hw => BoolOp_one (h pins s σ H Q I hw)
theorem qr6_ (ha : PE X a ta) (hb : PE X (.BoolOp .And (b :: rest) pos) tb) : PE X (.BoolOp .And (a :: b :: rest) pos) (qv1_ ta tb) := by
  intro pins s σ H Q I h
  refine BoolOp_and (thn (ha pins s σ H _ I h) fun v s1 zz10 => e23 zz10 fun x H1 I1 r1 q1 => ?_)
  obtain ⟨c, rfl, q1⟩ := q1
  cases r1
  refine wpAny_truthy_bool ?_
  cases c with
  | true => exact hb pins s1 σ H1 Q I1 q1
  | false => exact ⟨.bl false, H1, I1, rfl, q1⟩
theorem qs8_ (ha : PE X a ta) : PE X (.UnaryOp .Not a pos) (qvq_ ta) := by
  intro pins s σ H Q I h
  refine UnaryOp_ (thn (ha pins s σ H _ I h) fun v s1 zz12 => e23 zz12 fun x H1 I1 r1 q1 => ?_)
  obtain ⟨c, rfl, q1⟩ := q1
  cases r1
  exact not_of (wpAny_truthy_bool ⟨.bl (!c), H1, I1, rfl, q1⟩)
end
end L2
namespace L2
open PySem PySem.Spec PyProof.Rows
def SqL (K : PySem.W.Frag) (H : Hp) (a : Addr) (xs : List V) : Prop :=
  Rd H a (.lst xs) ∨
    ∃ (o : Obj) (its : Array Value) (n : Nat), K.lookup a = some o ∧ o.cls = .type "list" ∧ o.dict = none ∧ o.data = .seq its n ∧ its.size ≤ sizeLine ∧ Vals xs its.toList
def SqT (K : PySem.W.Frag) (H : Hp) (a : Addr) (xs : List V) : Prop :=
  Rd H a (.tup xs) ∨
    ∃ (o : Obj) (its : Array Value) (n : Nat), K.lookup a = some o ∧ o.cls = .type "tuple" ∧ o.data = .seq its n ∧ its.size ≤ sizeLine ∧ Vals xs its.toList
def absV : Value → Option V
  | .none => some .non
  | .bool b => some (.bl b)
  | .int i _ => some (.int i)
  | .str x _ => some (.str x)
  | .bytes b _ => some (.byt b)
  | .float b _ => some (.flt b)
  | .ref a => some (.ref a)
  | .type n => some (.ty n)
  | _ => none
theorem RelV.abs {x : V} {u : Value} (r : RelV x u) : absV u = some x := by
  cases x with
  | non => cases r; rfl
  | bl _ => cases r; rfl
  | int _ => obtain ⟨t, rfl⟩ := r; rfl
  | str _ => obtain ⟨t, rfl⟩ := r; rfl
  | byt _ => obtain ⟨t, rfl⟩ := r; rfl
  | flt _ => obtain ⟨t, rfl⟩ := r; rfl
  | ref _ => cases r; rfl
  | ty _ => cases r; rfl
theorem RelV.inj {x y : V} {u : Value} (r : RelV x u) (q : RelV y u) : x = y := Option.some.inj (r.abs.symm.trans q.abs)
theorem Vals.inj : ∀ {xs ys : List V} {us : List Value}, Vals xs us → Vals ys us → xs = ys
  | _, _, _, .nil, .nil => rfl
  | _, _, _, .cons r t, .cons r' t' => by rw [r.inj r', Vals.inj t t']
section
variable {X : Cx} {pins : List (Addr × Obj)} {σ : St} {H : Hp} {s : Shared} {a : Addr} {xs ys : List V}
theorem SqL.of {K : PySem.W.Frag} (h : H a = some (.lst xs)) : SqL K H a xs := .inl (.inl h)
theorem SqT.of {K : PySem.W.Frag} (h : H a = some (.tup xs)) : SqT K H a xs := .inl (.inl h)
theorem Inv.list (I : Inv X pins σ H s) (h : SqL X.K H a xs) : ∃ its : List Value, Vals xs its ∧ PlainL s.heap a its.toArray ∧ xs.length ≤ sizeLine := by
  rcases h with h | ⟨o, its, n, hk, hc, hd, hs, hz, r⟩
  · obtain ⟨z, its, n, r, e⟩ := h.ok I.hok
    exact ⟨its, r, ⟨_, n, e, rfl, rfl, rfl⟩, z⟩
  · refine ⟨its.toList, r, ⟨o, n, I.kIn a o hk, hc, hd, by simpa using hs⟩, ?_⟩
    have e := r.length
    simp only [Array.length_toList] at e
    omega
theorem Inv.tuple (I : Inv X pins σ H s) (h : SqT X.K H a xs) : ∃ its : List Value, Vals xs its ∧ IsTup s.heap a its.toArray ∧ xs.length ≤ sizeLine := by
  rcases h with h | ⟨o, its, n, hk, hc, hs, hz, r⟩
  · obtain ⟨z, its, r, p⟩ := h.ok I.hok
    exact ⟨its, r, p, z⟩
  · refine ⟨its.toList, r, ⟨o, I.kIn a o hk, hc, n, by simpa using hs⟩, ?_⟩
    have e := r.length
    simp only [Array.length_toList] at e
    omega
theorem Inv.list_inj (I : Inv X pins σ H s) (h : SqL X.K H a xs) (h' : SqL X.K H a ys) : xs = ys := by
  obtain ⟨its, r, ⟨o, n, e, _, _, d⟩, _⟩ := I.list h
  obtain ⟨its', r', ⟨o', n', e', _, _, d'⟩, _⟩ := I.list h'
  rw [e] at e'; cases e'
  rw [d] at d'
  injection d' with d1 _
  have : its = its' := by simpa using congrArg Array.toList d1
  subst this
  exact r.inj r'
theorem Inv.tuple_inj (I : Inv X pins σ H s) (h : SqT X.K H a xs) (h' : SqT X.K H a ys) : xs = ys := by
  obtain ⟨its, r, ⟨o, e, _, n, d⟩, _⟩ := I.tuple h
  obtain ⟨its', r', ⟨o', e', _, n', d'⟩, _⟩ := I.tuple h'
  rw [e] at e'; cases e'
  rw [d] at d'
  injection d' with d1 _
  have : its = its' := by simpa using congrArg Array.toList d1
  subst this
  exact r.inj r'
end
abbrev Cx.wish (X : Cx) (E : Value → Shared → Prop) : Cx := { X with xe := E }
abbrev Cx.nox (X : Cx) : Cx := X.wish fun _ _ => False
theorem Cx.Ok.wish {X : Cx} (ok : X.Ok) (E : Value → Shared → Prop) : (X.wish E).Ok :=
  ⟨ok.mod, ok.kind, ok.glob, ok.blt, ok.above, ok.inj, ok.has, ok.cab, ok.hd, ok.frames, ok.stk, ok.exf, ok.bs, ok.bsz, ok.noex, ok.exfs, ok.funs, ok.frf⟩
theorem Cx.Ok.unwish {X : Cx} {E : Value → Shared → Prop} (ok : (X.wish E).Ok) : X.Ok :=
  ⟨ok.mod, ok.kind, ok.glob, ok.blt, ok.above, ok.inj, ok.has, ok.cab, ok.hd, ok.frames, ok.stk, ok.exf, ok.bs, ok.bsz, ok.noex, ok.exfs, ok.funs, ok.frf⟩
section
variable {X : Cx} {pins : List (Addr × Obj)} {σ : St} {H : Hp} {s : Shared} {E : Value → Shared → Prop}
theorem Inv.wish (I : Inv X pins σ H s) (E : Value → Shared → Prop) : Inv (X.wish E) pins σ H s := ⟨I.ok.wish E, I.os, I.bare, I.base, I.loc, I.cell, I.free, I.freeC, I.pin, I.hok, I.len⟩
theorem Inv.unwish (I : Inv (X.wish E) pins σ H s) : Inv X pins σ H s := ⟨I.ok.unwish, I.os, I.bare, I.base, I.loc, I.cell, I.free, I.freeC, I.pin, I.hok, I.len⟩
theorem SP.unwish {D : Ends} {f : Flow} {s' : Shared} (h : SP (X.wish E) pins D f s') : SP X pins D f s' := by
  cases f with
  | next => obtain ⟨σ', H', I, q⟩ := h; exact ⟨σ', H', I.unwish, q⟩
  | brk => obtain ⟨σ', H', I, q⟩ := h; exact ⟨σ', H', I.unwish, q⟩
  | cont => obtain ⟨σ', H', I, q⟩ := h; exact ⟨σ', H', I.unwish, q⟩
  | ret u => obtain ⟨v, σ', H', I, r, q⟩ := h; exact ⟨v, σ', H', I.unwish, r, q⟩
theorem PT.nox {e : Expr} {t : TT} (h : PT X.nox e t) : PT X e t := fun pins s σ H Q I hw =>
  wpAny_mono (h pins s σ H Q (I.wish _) hw) (fun _ _ zz15 => e12 zz15 fun H' I' q => ⟨H', I'.unwish, q⟩) fun _ _ z => False.elim z
theorem PSs.nox {st : List Stmt} {t : TS} (h : PSs X.nox st t) : PSs X st t := fun pins s σ H D I hw =>
  wpAny_mono (h pins s σ H D (I.wish _) hw) (fun _ _ q => q.unwish) fun _ _ z => False.elim z
end
section
variable {X : Cx} {st : Stmt} {rest : List Stmt} {t u : TS} {e : Expr} {te : TE} {pos : Pos}
def qva_ : TS := fun D σ H => D.nx σ H
def tSeq (t u : TS) : TS := fun D σ H => t { D with nx := u D } σ H
theorem qhw_ : PSs X [] qva_ := fun _ _ σ H _ I h => wpAny_execs_nil ⟨σ, H, I, h⟩
theorem qbs_ (h1 : PS X st t) (h2 : PSs X rest u) : PSs X (st :: rest) (tSeq t u) := by
  intro pins s σ H D I h
  refine wpAny_execs_cons (thn (h1 pins s σ H { D with nx := u D } I h) fun f s1 q => ?_)
  cases f with
  | next =>
    obtain ⟨σ', H', I', q⟩ := q
    exact h2 pins s1 σ' H' D I' q
  | ret v => exact q
  | brk => exact q
  | cont => exact q
theorem qe5_ (h1 : PS X st t) : PSs X [st] t := by
  intro pins s σ H D I h
  refine wpAny_execs_cons (thn (h1 pins s σ H D I h) fun f s1 q => ?_)
  cases f with
  | next => exact wpAny_execs_nil q
  | ret v => exact q
  | brk => exact q
  | cont => exact q
theorem Inv.quiet {pins : List (Addr × Obj)} {σ : St} {H : Hp} {s : Shared} (I : Inv X pins σ H s) : interactive X.env = false := by simp [interactive, I.ok.kind]
def qrm_ (te : TE) : TS := fun D σ H => te σ H fun _ H1 => D.nx σ H1
theorem qgm_ (he : PE X e te) (hs : swapsWith e none pos.line X.env = pure false := by rfl) : PS X (.Expr e pos) (qrm_ te) := by
  intro pins s σ H D I h
  exact wpAny_Expr_any (thn (he pins s σ H _ I h) fun v s1 zz16 => e23 zz16 fun x H1 I1 r1 q1 => ⟨σ, H1, I1, q1⟩) I.quiet hs
def tRet (te : TE) : TS := fun D σ H => te σ H D.rt
theorem qg7_ (he : PE X e te) : PS X (.Return (some e) pos) (tRet te) := by
  intro pins s σ H D I h
  exact wpAny_Return_some (thn (he pins s σ H _ I h) fun v s1 zz17 => e23 zz17 fun x H1 I1 r1 q1 => ⟨x, σ, H1, I1, r1, q1⟩)
def tIfS (c : TT) (t u : TS) : TS := fun D σ H => c σ H fun b H1 => if b = true then t D σ H1 else u D σ H1
theorem qqs_ {c : Expr} {a b : List Stmt} {tc : TT} (hc : PT X c tc) (ha : PSs X a t) (hb : PSs X b u) : PS X (.If c a b pos) (tIfS tc t u) := by
  intro pins s σ H D I h
  refine wpAny_If (thn (hc pins s σ H _ I h) fun d s1 zz18 => e12 zz18 fun H1 I1 q1 => ?_)
  cases d with
  | true => exact ha pins s1 σ H1 D I1 q1
  | false => exact hb pins s1 σ H1 D I1 q1
def qse_ : TS := fun _ _ _ => False
theorem qns_ : PS X st qse_ := fun _ _ _ _ _ _ h => h.elim
end
abbrev TG := V → St → Hp → (St → Hp → Prop) → Prop
abbrev TGs := List V → St → Hp → (St → Hp → Prop) → Prop
def PG (X : Cx) (target : Expr) (t : TG) : Prop :=
  ∀ (pins : List (Addr × Obj)) (s : Shared) (σ : St) (H : Hp) (v : V) (u : Value) (Q : St → Hp → Prop), Inv X pins σ H s → RelV v u → t v σ H Q →
    wpAny (model X.prog X.w) X.A (assign target X.env u) (fun _ s' => ∃ σ' H', Inv X pins σ' H' s' ∧ Q σ' H') X.xe s
def PGs (X : Cx) (ts : List Expr) (t : TGs) : Prop :=
  ∀ (pins : List (Addr × Obj)) (s : Shared) (σ : St) (H : Hp) (vs : List V) (us : List Value) (Q : St → Hp → Prop), Inv X pins σ H s → Vals vs us → t vs σ H Q →
    wpAny (model X.prog X.w) X.A (assignInOrder ((assignEach ts X.env).map (·.2)) us) (fun _ s' => ∃ σ' H', Inv X pins σ' H' s' ∧ Q σ' H') X.xe s
abbrev TSet := V → V → V → Hp → (Hp → Prop) → Prop
def PSet (X : Cx) (t : TSet) : Prop :=
  ∀ (pins : List (Addr × Obj)) (s : Shared) (σ : St) (H : Hp) (o i v : V) (ov iv u : Value) (Q : Hp → Prop), Inv X pins σ H s → RelV o ov → RelV i iv → RelV v u → t o i v H Q →
    wpAny (model X.prog X.w) X.A (setItem ov iv u) (fun _ s' => ∃ H', Inv X pins σ H' s' ∧ Q H') X.xe s
section
variable {X : Cx} {pos : Pos}
def qms_ (i : Nat) : TG := fun v σ H Q => Q (σ.set i (some v)) H
theorem qpk_ {i : Nat} {x : Str} (hN : X.N.Nodup) (hi : X.N[i]? = some x) (hx : Loc X.env.scope x) (hf : X.fn x = true ∨ X.env.scope.names.lookup x = some .local := by first | exact .inl rfl | exact .inr rfl | assumption) : PG X (.Name x pos) (qms_ i) := by
  intro pins s σ H v u Q I r h
  exact wpAny_assign_Name (qdw_ I hN hi hx r (fun s' I' => ⟨_, H, I', h⟩) hf)
def gNil : TGs := fun vs σ H Q => vs = [] ∧ Q σ H
def quz_ (t : TG) (u : TGs) : TGs := fun vs σ H Q => ∃ v r, vs = v :: r ∧ t v σ H fun σ' H' => u r σ' H' Q
theorem qpd_ : PGs X [] gNil := by
  intro pins s σ H vs us Q I r h
  obtain ⟨e, h⟩ := h
  subst e
  cases r
  exact assignInOrder_nil ⟨σ, H, I, h⟩
theorem qmi_ {e : Expr} {es : List Expr} {t : TG} {u : TGs} (h1 : PG X e t) (h2 : PGs X es u)
    (hs : (assignEach (e :: es) X.env).map (·.2) = assign e X.env :: (assignEach es X.env).map (·.2) := by rfl) : PGs X (e :: es) (quz_ t u) := by
  intro pins s σ H vs us Q I r h
  obtain ⟨v, vr, e1, h⟩ := h
  subst e1
  cases r with
  | cons r rr =>
    rw [hs]
    refine assignInOrder_cons (thn (h1 pins s σ H _ _ _ I r h) fun _ s1 zz19 => e22 zz19 fun σ1 H1 I1 q1 => ?_)
    exact h2 pins s1 σ1 H1 _ _ Q I1 rr q1
def gTup (K : PySem.W.Frag) (n : Nat) (t : TGs) : TG := fun v σ H Q => ∃ a xs, v = .ref a ∧ SqT K H a xs ∧ xs.length = n ∧ t xs σ H Q
theorem qtp_ {es : List Expr} {k : Nat} {t : TGs} {n : Nat} (hc : X.calm = true) (h : PGs X es t)
    (hn : (assignEach es X.env).length = n := by rfl) (hst : (assignEach es X.env).findIdx? (·.1) = none := by rfl) : PG X (.Tuple es k pos) (gTup X.K n t) := by
  intro pins s σ H v u Q I r hw
  obtain ⟨a, xs, e1, hq, hl, hw⟩ := hw
  subst e1
  cases r
  obtain ⟨its, rv, ht, hz⟩ := I.tuple hq
  refine assign_Tuple_tuple (I.ok.hd hc) ht (by simp [hn, ← hl, rv.length]) hst fun h' hx => ?_
  have I1 : Inv X pins σ H { s with heap := h' } := I.kept (t' := s.toks) fun b o e => hx b o (Nat.ne_of_lt (Heap.lt_size e)) e
  exact h pins _ σ H xs _ Q I1 (by simpa using rv) hw
def gSub (to ti : TE) (t : TSet) : TG := fun v σ H Q => to σ H fun o H1 => ti σ H1 fun i H2 => t o i v H2 fun H3 => Q σ H3
theorem qs7_ {o i : Expr} {to ti : TE} {t : TSet} (ho : PE X o to) (hi : PE X i ti) (hs : PSet X t)
    (ha : ∀ v, assign (.Subscript o i pos) X.env v = (do
      let ov ← holding [v] (eval o X.env)
      let iv ← holding [v, ov] (eval i X.env)
      standAt pos
      holding [v, ov, iv] (setItem ov iv v)
      release [v, ov, iv] []) := by intro _; rfl) : PG X (.Subscript o i pos) (gSub to ti t) := by
  intro pins s σ H v u Q I r h
  rw [ha]
  refine wpAny_bind (wpAny_holding (thn (ho pins s σ H _ I h) fun ov s1 zz20 => e23 zz20 fun x H1 I1 r1 q1 => ?_))
  refine wpAny_bind (wpAny_holding (thn (hi pins s1 σ H1 _ I1 q1) fun iv s2 zz21 => e23 zz21 fun y H2 I2 r2 q2 => ?_))
  refine wpAny_bind (wpAny_standAt (wpAny_bind (wpAny_holding (thn (hs pins s2 σ H2 x y v ov iv u _ I2 r1 r2 r q2) fun _ s3 zz22 => e12 zz22 fun H3 I3 q3 => ?_))))
  exact wpAny_release ⟨σ, H3, I3, q3⟩
def tAsg (te : TE) (g : TG) : TS := fun D σ H => te σ H fun x H1 => g x σ H1 D.nx
theorem qoz_ {tg e : Expr} {te : TE} {g : TG} (he : PE X e te) (hg : PG X tg g) (hs : swapsWithSole [tg] e pos.line X.env = pure false := by rfl) (hw : swappedStores [tg] e X.env = pure none := by rfl)
    (h1 : (assignEach [tg] X.env).map (·.2) = [assign tg X.env] := by rfl) : PS X (.Assign [tg] e pos) (tAsg te g) := by
  intro pins s σ H D I h
  refine wpAny_Assign_stores (thn (he pins s σ H _ I h) fun v s1 zz23 => e23 zz23 fun x H1 I1 r1 q1 => ?_) hs hw
  rw [h1]
  exact thn (hg pins s1 σ H1 x v _ I1 r1 q1) fun _ s2 q => q
theorem qd3_ {i : Nat} {x : Str} {e : Expr} {te : TE} {pos' : Pos} (hN : X.N.Nodup) (hi : X.N[i]? = some x) (hx : Loc X.env.scope x) (he : PE X e te) (hs : swapsWith e (some (.Name x pos')) pos.line X.env = pure false := by rfl) (hf : X.fn x = true ∨ X.env.scope.names.lookup x = some .local := by first | exact .inl rfl | exact .inr rfl | assumption) :
    PS X (.Assign [.Name x pos'] e pos) (tAsg te (qms_ i)) := by
  intro pins s σ H D I h
  refine wpAny_Assign_Name (thn (he pins s σ H _ I h) fun v s1 zz24 => e23 zz24 fun y H1 I1 r1 q1 => ?_) hs
  exact qdw_ I1 hN hi hx r1 (fun s2 I2 => ⟨_, H1, I2, q1⟩) hf
def tPar (i j : Nat) (ta : TA) : TS := fun D σ H => ta σ H fun vs H1 => ∃ v w, vs = [v, w] ∧ D.nx ((σ.set i (some v)).set j (some w)) H1
theorem qsi_ {i j : Nat} {x y : Str} {a b : Expr} {ta : TA} {px py pt : Pos} {kt k2 pt2} (hc : X.calm = true) (hN : X.N.Nodup) (hi : X.N[i]? = some x) (hj : X.N[j]? = some y) (hij : i ≠ j)
    (hx : X.env.scope.names.lookup x = some .local) (hy : X.env.scope.names.lookup y = some .local) (ha : PA X [a, b] ta)
    (hw : swappedStores [.Tuple [.Name x px, .Name y py] kt pt] (.Tuple [a, b] k2 pt2) X.env = pure (some [x, y]))
    (hs : swapsWithSole [.Tuple [.Name x px, .Name y py] kt pt] (.Tuple [a, b] k2 pt2) pos.line X.env = pure false := by rfl) :
    PS X (.Assign [.Tuple [.Name x px, .Name y py] kt pt] (.Tuple [a, b] k2 pt2) pos) (tPar i j ta) := by
  intro pins s σ H D I h
  rw [exec_Assign_arm]
  refine wpAny_bind (wpAny_standAt ?_)
  rw [hs]
  refine wpAny_bind (wpAny_pure ?_)
  rw [if_neg (by decide)]
  refine wpAny_bind (Tuple_ (thn (ha _ pins s σ H _ I h) fun us s1 zz25 => e23 zz25 fun vs H1 I1 r1 q1 => ?_))
  obtain ⟨v, w, e1, q1⟩ := q1
  subst e1
  obtain ⟨u1, u2, rfl, rv, rw'⟩ : ∃ u1 u2, us = [u1, u2] ∧ RelV v u1 ∧ RelV w u2 := by
    cases r1 with
    | cons p q =>
      cases q with
      | cons p' q' =>
        cases q'
        exact ⟨_, _, rfl, p, p'⟩
  refine wpAny_newObj_type ?_ (by show 2 ≤ sizeLine; decide)
  have I2 : Inv X pins σ H1 { s1 with heap := s1.heap.push { cls := .type "tuple", data := .seq [u1, u2].toArray } } := I1.kept (t' := s1.toks) fun b o e => Heap.get?_push_of_some _ e
  rw [hw]
  refine wpAny_bind (wpAny_pure ?_)
  show wpAny (model X.prog X.w) X.A (do rule "assign.swapped-stores"; let items ← unpackItems (.ref s1.heap.objs.size) 2 none; assignInOrder [fun v => bindName X.env y v, fun v => bindName X.env x v] items.reverse; pure Flow.next) _ _ _
  refine wpAny_bind (wpAny_rule (wpAny_bind (unpackItems_tuple (items := #[u1, u2]) (I.ok.hd hc) (IsTup.new s1.heap _) fun h' hx' => ?_)))
  have I3 := I2.kept (h' := h') (t' := s1.toks) fun b o e => hx' b o (Nat.ne_of_lt (Heap.lt_size e)) e
  show wpAny _ _ (assignInOrder [fun v => bindName X.env y v, fun v => bindName X.env x v] [u2, u1] >>= fun _ => pure Flow.next) _ _ _
  refine wpAny_bind (assignInOrder_cons (wpAny_bindName (qdw_ I3 hN hj (.inl hy) rw' (fun s2 I4 => ?_) (.inr hy))))
  refine assignInOrder_cons (wpAny_bindName (qdw_ I4 hN hi (.inl hx) rv (fun s3 I5 => assignInOrder_nil (wpAny_pure ?_)) (.inr hx)))
  rw [List.set_comm _ _ (Ne.symm hij)] at I5
  exact ⟨_, H1, I5, q1⟩
end
section
variable {X : Cx} {pos : Pos}
def qsh_ (c : TT) (tb : TS) : TS := fun D σ H => ∃ W : Nat → St → Hp → Prop, (∃ m, W m σ H) ∧ ∀ m σ H, W m σ H →
  c σ H fun b H1 => if b = true then ∃ N : St → Hp → Prop, (∀ σ' H', N σ' H' → ∃ m', m' < m ∧ W m' σ' H') ∧ tb { D with nx := N, ct := N, bk := D.nx } σ H1 else D.nx σ H1
theorem qmy_ {c : Expr} {body : List Stmt} {tc : TT} {tb : TS} (hp : PassesOwn (model X.prog X.w) X.A X.env X.xe) (hc : PT X c tc) (hb : PSs X body tb) : PS X (.While c body [] pos) (qsh_ tc tb) := by
  intro pins s σ H D I h
  obtain ⟨W, ⟨m0, w0⟩, turn⟩ := h
  refine wpAny_While (codeAny_whileLoop (fun n s' => ∃ σ' H', Inv X pins σ' H' s' ∧ W n σ' H') ?_ m0 ⟨σ, H, I, w0⟩)
  rintro n s1 ⟨σ1, H1, I1, w1⟩
  refine wpAny_passesOwn hp (thn (hc pins s1 σ1 H1 _ I1 (turn n σ1 H1 w1)) fun b s2 zz34 => e12 zz34 fun H2 I2 q2 => ?_)
  cases b with
  | true =>
    obtain ⟨N, hN, q2⟩ := q2
    rw [if_pos rfl]
    refine wpAny_passesOwn hp (thn (hb pins s2 σ1 H2 _ I2 q2) fun f s3 q3 => ?_)
    cases f with
    | next =>
      obtain ⟨σ3, H3, I3, n3⟩ := q3
      obtain ⟨m', hm, w3⟩ := hN σ3 H3 n3
      exact ⟨m', hm, σ3, H3, I3, w3⟩
    | cont =>
      obtain ⟨σ3, H3, I3, n3⟩ := q3
      obtain ⟨m', hm, w3⟩ := hN σ3 H3 n3
      exact ⟨m', hm, σ3, H3, I3, w3⟩
    | brk => exact q3
    | ret v => exact q3
  | false =>
    rw [if_neg Bool.false_ne_true]
    exact wpAny_execs_nil ⟨σ1, H2, I2, q2⟩
end
structure It where
  go : Nat → Hp → Prop
  yld : Nat → Hp → V → Hp → Prop
  stop : Nat → Hp → Prop
def FpOk (X : Cx) (pins : List (Addr × Obj)) (H : Hp) (b : Addr) : Prop :=
  H b = none ∧ b ≠ X.env.locals ∧ b ∉ X.fs ∧ (b ∈ X.ex ∨ X.s₀.heap.objs.size ≤ b) ∧ (∀ x c, X.env.cells.lookup x = some c → c ≠ b) ∧ ∀ p ∈ X.pn ++ pins, p.1 ≠ b
theorem Inv.fpOk {X : Cx} {pins : List (Addr × Obj)} {σ : St} {H H' : Hp} {s : Shared} {b : Addr} (I : Inv X pins σ H s) (hb : s.heap.objs.size ≤ b) (hn : H' b = none) : FpOk X pins H' b := by
  refine ⟨hn, Nat.ne_of_gt (Nat.lt_of_lt_of_le I.lt hb), I.nofs hb, .inr (Nat.le_trans I.sz hb), fun x c e z => ?_, fun p hp z => ?_⟩
  · obtain ⟨v, q⟩ := I.cell x c e
    exact absurd (Nat.lt_of_lt_of_le q.lt (by rw [z]; exact hb)) (Nat.lt_irrefl _)
  · exact absurd (Nat.lt_of_lt_of_le (Heap.lt_size (I.pin p hp).1) (by rw [z]; exact hb)) (Nat.lt_irrefl _)
structure Turn (P : Program) (w : World) (K : PySem.W.Frag) (tg : Expr) (J : It) (fp : List Addr) (it : Addr) (tn : Nat → Heap → Prop) : Prop where
  mem : it ∈ fp
  obj : ∀ i h, tn i h → ∀ b ∈ fp, ∃ o, h.get? b = some o ∧ ∀ v, o.data ≠ .cell v
  keep : ∀ i h h', tn i h → (∀ b ∈ fp, ∀ o, h.get? b = some o → h'.get? b = some o) → tn i h'
  item : ∀ (X : Cx), X.prog = P → X.w = w → X.K = K → X.calm = true → ∀ (i : Nat) (pins : List (Addr × Obj)) (s : Shared) (σ : St) (H : Hp) (E : Value → Shared → Prop), Inv X pins σ H s → (∀ b ∈ fp, FpOk X pins H b) → tn i s.heap → J.go i H →
    wpAny (model P w) X.A (pyNext (.ref it)) (fun r s1 => ∃ u, r = some u ∧
      wpAny (model P w) X.A (letOwnedTupleGo tg (.ref it) u) (fun _ s2 => ∃ x H', Inv X pins σ H' s2 ∧ RelV x u ∧ J.yld i H x H' ∧ tn (i + 1) s2.heap ∧ ∀ b ∈ fp, H' b = none) E s1) E s
  done : ∀ (X : Cx), X.prog = P → X.w = w → X.K = K → X.calm = true → ∀ (i : Nat) (pins : List (Addr × Obj)) (s : Shared) (σ : St) (H : Hp) (E : Value → Shared → Prop), Inv X pins σ H s → (∀ b ∈ fp, FpOk X pins H b) → tn i s.heap → J.stop i H →
    wpAny (model P w) X.A (pyNext (.ref it)) (fun r s1 => r = none ∧ Inv X pins σ H s1) E s
  self : ∀ (A : Around) (i : Nat) (s : Shared) (Q : Value → Shared → Prop) (E : Value → Shared → Prop), tn i s.heap → Q (.ref it) s → wpAny (model P w) A (pyIter (.ref it)) Q E s
abbrev TI := St → Hp → (It → Hp → Prop) → Prop
def PIE (X : Cx) (pins : List (Addr × Obj)) (σ : St) (tg : Expr) (R : It → Hp → Prop) (itv : Value) (s2 : Shared) : Prop :=
  ∃ (it : Addr) (fp : List Addr) (tn : Nat → Heap → Prop) (J : It) (H' : Hp), itv = .ref it ∧ Inv X pins σ H' s2 ∧ Turn X.prog X.w X.K tg J fp it tn ∧ tn 0 s2.heap ∧ (∀ b ∈ fp, FpOk X pins H' b) ∧ R J H'
def PI (X : Cx) (tg iter : Expr) (wi : TI) : Prop :=
  ∀ (pins : List (Addr × Obj)) (s : Shared) (σ : St) (H : Hp) (R : It → Hp → Prop), Inv X pins σ H s → wi σ H R →
    wpAny (model X.prog X.w) X.A (eval iter X.env) (fun v s1 => wpAny (model X.prog X.w) X.A (pyIter v) (PIE X pins σ tg R) X.xe s1) X.xe s
theorem qm7_ {M : Model} {A : Around} {E : Value → Shared → Prop} {s : Shared} {tg : Expr} {it : Addr} {u : Value} {o : Obj} {n : String} {vs : Array Value} {Q : Unit → Shared → Prop} (ho : s.heap.get? it = some o) (hc : o.cls = .type n) (hd : o.data = .fields vs)
    (hn : ["enumerate", "zip", "dict_itemiterator", "dict_reverseitemiterator", "odict_iterator", "itertools.zip_longest", "itertools.pairwise"].contains n = false) (hQ : Q () s) : wpAny M A (letOwnedTupleGo tg (.ref it) u) Q E s := by
  unfold letOwnedTupleGo
  cases tg <;> first
    | exact wpAny_pure hQ
    | (cases u <;> first
        | exact wpAny_pure hQ
        | (refine wpAny_bind (wpAny_load ho ?_)
           rw [hc, hd]
           show wpAny M A (if (["enumerate", "zip", "dict_itemiterator", "dict_reverseitemiterator", "odict_iterator", "itertools.zip_longest", "itertools.pairwise"].contains n && vs[0]? == some (rawInt _)) = true then _ else _) Q E s
           rw [if_neg (by intro h; rw [hn, Bool.false_and] at h; cases h)]
           exact wpAny_pure hQ))
def Itl (K : PySem.W.Frag) (a : Addr) : It :=
  ⟨fun i H => ∃ xs x, SqL K H a xs ∧ xs[i]? = some x, fun i H x H' => H' = H ∧ ∀ xs, SqL K H a xs → xs[i]? = some x, fun i H => ∃ xs, SqL K H a xs ∧ xs.length ≤ i⟩
def Itt (K : PySem.W.Frag) (a : Addr) : It :=
  ⟨fun i H => ∃ xs x, SqT K H a xs ∧ xs[i]? = some x, fun i H x H' => H' = H ∧ ∀ xs, SqT K H a xs → xs[i]? = some x, fun i H => ∃ xs, SqT K H a xs ∧ xs.length ≤ i⟩
def Itr (lo : Int) (n : Nat) : It := ⟨fun i _ => i < n, fun i H x H' => H' = H ∧ x = .int (lo + i), fun i _ => n ≤ i⟩
theorem qk9_ {P : Program} {w : World} {K : PySem.W.Frag} {tg : Expr} (a it : Addr) : Turn P w K tg (Itl K a) [it] it (fun i h => h.IsListIter it a i) where
  mem := by simp
  obj := fun i h st b hb => by
    have e : b = it := by simpa using hb
    subst e
    obtain ⟨o, e, c, d⟩ := st
    exact ⟨o, e, fun v z => by rw [d] at z; cases z⟩
  keep := fun i h h' st k => st.at fun o e => k it (by simp) o e
  item := by
    intro X hP hw hK hc i pins s σ H E I hf st hg
    subst hP hw hK
    obtain ⟨xs, x, hq, hx⟩ := hg
    obtain ⟨its, rv, p, hz⟩ := I.list hq
    obtain ⟨u, hu, ru⟩ := rv.get hx
    obtain ⟨f0, f1, f2, f3, f4, f5⟩ := hf it (by simp)
    refine wpAny_pyNext_list_item st p.isList (x := u) (by simpa using hu) fun h' st' sb => ?_
    have I1 : Inv X pins σ H { s with heap := h' } := I.turned (t' := s.toks) (fun b o hb e => (sb.2 b hb).trans e) f0 f1 f3 f4 f5
    obtain ⟨o, e, c, d⟩ := id st'
    exact ⟨u, rfl, qm7_ (s := { s with heap := h' }) e c d (by decide) ⟨x, H, I1, ru, ⟨rfl, fun ys hy => by rw [I.list_inj hy hq]; exact hx⟩, st', fun b hb => (hf b hb).1⟩⟩
  done := by
    intro X hP hw hK hc i pins s σ H E I hf st hg
    subst hP hw hK
    obtain ⟨xs, hq, hx⟩ := hg
    obtain ⟨its, rv, p, hz⟩ := I.list hq
    obtain ⟨f0, f1, f2, f3, f4, f5⟩ := hf it (by simp)
    have hl := rv.length
    exact wpAny_pyNext_list_end (I.ok.hd hc) st p.isList (by simp; omega) fun h' eb => ⟨rfl, I.turned (t' := s.toks) (fun b o hb e => eb b o hb e) f0 f1 f3 f4 f5⟩
  self := fun _ _ _ _ _ st h => wpAny_pyIter_listiter st h
theorem qjo_ {P : Program} {w : World} {K : PySem.W.Frag} {tg : Expr} (a it : Addr) : Turn P w K tg (Itt K a) [it] it (fun i h => h.IsTupleIter it a i) where
  mem := by simp
  obj := fun i h st b hb => by
    have e : b = it := by simpa using hb
    subst e
    obtain ⟨o, e, c, d⟩ := st
    exact ⟨o, e, fun v z => by rw [d] at z; cases z⟩
  keep := fun i h h' st k => st.at fun o e => k it (by simp) o e
  item := by
    intro X hP hw hK hc i pins s σ H E I hf st hg
    subst hP hw hK
    obtain ⟨xs, x, hq, hx⟩ := hg
    obtain ⟨its, rv, p, hz⟩ := I.tuple hq
    obtain ⟨u, hu, ru⟩ := rv.get hx
    obtain ⟨f0, f1, f2, f3, f4, f5⟩ := hf it (by simp)
    refine wpAny_pyNext_tuple_item st (show s.heap.IsTuple a its.toArray from p) (x := u) (by simpa using hu) fun h' st' sb => ?_
    have I1 : Inv X pins σ H { s with heap := h' } := I.turned (t' := s.toks) (fun b o hb e => (sb.2 b hb).trans e) f0 f1 f3 f4 f5
    obtain ⟨o, e, c, d⟩ := id st'
    exact ⟨u, rfl, qm7_ (s := { s with heap := h' }) e c d (by decide) ⟨x, H, I1, ru, ⟨rfl, fun ys hy => by rw [I.tuple_inj hy hq]; exact hx⟩, st', fun b hb => (hf b hb).1⟩⟩
  done := by
    intro X hP hw hK hc i pins s σ H E I hf st hg
    subst hP hw hK
    obtain ⟨xs, hq, hx⟩ := hg
    obtain ⟨its, rv, p, hz⟩ := I.tuple hq
    obtain ⟨f0, f1, f2, f3, f4, f5⟩ := hf it (by simp)
    have hl := rv.length
    exact wpAny_pyNext_tuple_end (I.ok.hd hc) st (show s.heap.IsTuple a its.toArray from p) (by simp; omega) fun h' eb => ⟨rfl, I.turned (t' := s.toks) (fun b o hb e => eb b o hb e) f0 f1 f3 f4 f5⟩
  self := fun _ _ _ _ _ st h => wpAny_pyIter_tupleiter st h
theorem qj0_ {P : Program} {w : World} {K : PySem.W.Frag} {tg : Expr} (it : Addr) (lo : Int) (n : Nat) : Turn P w K tg (Itr lo n) [it] it (fun i h => IsRangeIter h it (lo + (i : Nat) * 1) ((n : Int) - (i : Nat)) 1) where
  mem := by simp
  obj := fun i h st b hb => by
    have e : b = it := by simpa using hb
    subst e
    exact ⟨_, st, fun v z => by
      have z' : Data.fields _ = Data.cell v := z
      cases z'⟩
  keep := fun i h h' st k => k it (by simp) _ st
  item := by
    intro X hP hw hK hc i pins s σ H E I hf st hg
    subst hP hw hK
    obtain ⟨f0, f1, f2, f3, f4, f5⟩ := hf it (by simp)
    have W := Walks.range (prog := X.prog) (w := X.w) (I.ok.hd hc) it lo 1 n
    refine W.item i s _ _ hg st fun v h' tk hv st' kk => ?_
    obtain ⟨t, rfl⟩ := hv
    have I1 : Inv X pins σ H { s with heap := h', toks := tk } := I.turned (fun b o hb e => kk b o (by simpa using hb) e) f0 f1 f3 f4 f5
    refine ⟨_, rfl, qm7_ (s := { s with heap := h', toks := tk }) (n := "range_iterator") st' rfl rfl (by decide) ⟨.int (lo + i), H, I1, ⟨t, ?_⟩, ⟨rfl, rfl⟩, st', fun b hb => (hf b hb).1⟩⟩
    rw [Int.mul_one]
  done := by
    intro X hP hw hK hc i pins s σ H E I hf st hg
    subst hP hw hK
    obtain ⟨f0, f1, f2, f3, f4, f5⟩ := hf it (by simp)
    exact wpAny_pyNext_range_end (I.ok.hd hc) st (by have : n ≤ i := hg; omega) fun h' eb => ⟨rfl, I.turned (t' := s.toks) (fun b o hb e => eb b o hb e) f0 f1 f3 f4 f5⟩
  self := fun _ _ _ _ _ st h => wpAny_pyIter_rangeiter st h
end L2
namespace L2
open PySem PySem.Spec PyProof.Rows
section
variable {X : Cx} {tg : Expr}
def qwe_ (K : PySem.W.Frag) (tl : TE) : TI := fun σ H R => tl σ H fun x H1 => ∃ a, x = .ref a ∧ (∃ xs, SqL K H1 a xs) ∧ R (Itl K a) H1
def iTup (K : PySem.W.Frag) (tl : TE) : TI := fun σ H R => tl σ H fun x H1 => ∃ a, x = .ref a ∧ (∃ xs, SqT K H1 a xs) ∧ R (Itt K a) H1
theorem qql_ {l : Expr} {tl : TE} (hl : PE X l tl) : PI X tg l (qwe_ X.K tl) := by
  intro pins s σ H R I h
  refine thn (hl pins s σ H _ I h) fun v s1 zz35 => e23 zz35 fun x H1 I1 r1 q1 => ?_
  obtain ⟨a, e, ⟨xs, hq⟩, q⟩ := q1
  subst e
  cases r1
  obtain ⟨its, rv, p, hz⟩ := I1.list hq
  refine wpAny_pyIter_list p.isList ?_
  refine ⟨s1.heap.objs.size, [s1.heap.objs.size], _, _, H1, rfl, I1.kept (t' := s1.toks) fun b o e => Heap.get?_push_of_some _ e, qk9_ a _, ⟨_, Heap.get?_push_size _ rfl, rfl, rfl⟩, fun b hb => ?_, q⟩
  have e : b = s1.heap.objs.size := by simpa using hb
  subst e
  exact I1.fpOk (Nat.le_refl _) (I1.hok.fresh (Nat.le_refl _))
theorem qr0_ {l : Expr} {tl : TE} (hl : PE X l tl) : PI X tg l (iTup X.K tl) := by
  intro pins s σ H R I h
  refine thn (hl pins s σ H _ I h) fun v s1 zz36 => e23 zz36 fun x H1 I1 r1 q1 => ?_
  obtain ⟨a, e, ⟨xs, hq⟩, q⟩ := q1
  subst e
  cases r1
  obtain ⟨its, rv, p, hz⟩ := I1.tuple hq
  refine wpAny_pyIter_tuple (show s1.heap.IsTuple a its.toArray from p) ?_
  refine ⟨s1.heap.objs.size, [s1.heap.objs.size], _, _, H1, rfl, I1.kept (t' := s1.toks) fun b o e => Heap.get?_push_of_some _ e, qjo_ a _, ⟨_, Heap.get?_push_size _ rfl, rfl, rfl⟩, fun b hb => ?_, q⟩
  have e : b = s1.heap.objs.size := by simpa using hb
  subst e
  exact I1.fpOk (Nat.le_refl _) (I1.hok.fresh (Nat.le_refl _))
theorem qjk_ {pins : List (Addr × Obj)} {σ : St} {H : Hp} {s : Shared} {R : It → Hp → Prop} {E : Value → Shared → Prop} {lo hi : Int} {t u v : Tok} {tk : Nat} (I : Inv X pins σ H s) (h1 : -(2 ^ 62) ≤ lo) (h2 : lo < 2 ^ 62) (h3 : -(2 ^ 62) ≤ hi) (h4 : hi < 2 ^ 62)
    (q : R (Itr lo (hi - lo).toNat) H) : wpAny (model X.prog X.w) X.A (pyIter (.ref s.heap.objs.size)) (PIE X pins σ tg R) E { s with heap := s.heap.push { cls := .type "range", data := .fields #[.int lo t, .int hi u, .int 1 v] }, toks := tk } := by
  refine wpAny_pyIter_range (IsRange.new ..) (small_one h1 h2 h3 h4) ?_
  have I1 : Inv X pins σ H { s with heap := s.heap.push { cls := .type "range", data := .fields #[.int lo t, .int hi u, .int 1 v] }, toks := tk } := I.kept fun b o e => Heap.get?_push_of_some _ e
  refine ⟨(s.heap.push { cls := .type "range", data := .fields #[.int lo t, .int hi u, .int 1 v] }).objs.size, [(s.heap.push { cls := .type "range", data := .fields #[.int lo t, .int hi u, .int 1 v] }).objs.size], _, _, H, rfl,
    I1.kept (t' := tk) fun b o e => Heap.get?_push_of_some _ e, qj0_ _ lo (hi - lo).toNat, ?_, fun b hb => ?_, q⟩
  · have e1 : lo + ((0 : Nat) : Int) * 1 = lo := by simp
    have e2 : (((hi - lo).toNat : Nat) : Int) - ((0 : Nat) : Int) = Builtin.Range.rangeSize lo hi 1 := by rw [rangeSize_one]; split <;> omega
    show IsRangeIter _ _ (lo + ((0 : Nat) : Int) * 1) ((((hi - lo).toNat : Nat) : Int) - ((0 : Nat) : Int)) 1
    rw [e1, e2]
    exact Heap.get?_push_size _ rfl
  · have e : b = (s.heap.push { cls := .type "range", data := .fields #[.int lo t, .int hi u, .int 1 v] }).objs.size := by simpa using hb
    subst e
    exact I1.fpOk (Nat.le_refl _) (I1.hok.fresh (Nat.le_refl _))
def qvc_ (ta : TA) : TI := fun σ H R => ta σ H fun vs H1 => ∃ j : Int, vs = [.int j] ∧ -(2 ^ 62) ≤ j ∧ j < 2 ^ 62 ∧ R (Itr 0 j.toNat) H1
def quu_ (ta : TA) : TI := fun σ H R => ta σ H fun vs H1 => ∃ i j : Int, vs = [.int i, .int j] ∧ (-(2 ^ 62) ≤ i ∧ i < 2 ^ 62 ∧ -(2 ^ 62) ≤ j ∧ j < 2 ^ 62) ∧ R (Itr i (j - i).toNat) H1
theorem qme_ {a : Expr} {ta : TA} {p pos : Pos} (hg : Gl X "range") (hm : X.mg "range" = none) (ha : PA X [a] ta) (hs : starEach [a] X.env = [(false, eval a X.env)] := by rfl) : PI X tg (.Call (.Name "range" p) [a] [] pos) (qvc_ ta) := by
  intro pins s σ H R I h
  refine Call_ (qcc_ I hg hm boot_range (PyProof.Rows.callWith_type1 (thn (ha pos pins s σ H _ I h) fun us s1 zz37 => e23 zz37 fun vs H1 I1 r1 q1 => ?_) hs rfl))
  obtain ⟨j, e, q1, q2, q⟩ := q1
  subst e
  cases r1 with
  | cons r rr =>
    cases rr
    obtain ⟨t, rfl⟩ := r
    exact call_range_1 (qjk_ I1 (by omega) (by omega) q1 q2 (by simpa using q))
theorem qlt_ {a b : Expr} {ta : TA} {p pos : Pos} (hg : Gl X "range") (hm : X.mg "range" = none) (ha : PA X [a, b] ta) (hs : starEach [a, b] X.env = [(false, eval a X.env), (false, eval b X.env)] := by rfl) (hs2 : starEach [b] X.env = [(false, eval b X.env)] := by rfl) :
    PI X tg (.Call (.Name "range" p) [a, b] [] pos) (quu_ ta) := by
  intro pins s σ H R I h
  refine Call_ (qcc_ I hg hm boot_range (PyProof.Rows.callWith_type1 (thn (ha pos pins s σ H _ I h) fun us s1 zz38 => e23 zz38 fun vs H1 I1 r1 q1 => ?_) (by rw [hs, hs2]) (by rw [hs2]; rfl)))
  obtain ⟨i, j, e, ⟨q1, q2, q3, q4⟩, q⟩ := q1
  subst e
  cases r1 with
  | cons r rr =>
    cases rr with
    | cons r' rr =>
      cases rr
      obtain ⟨t, rfl⟩ := r
      obtain ⟨t', rfl⟩ := r'
      exact call_range_2 (qjk_ I1 q1 q2 q3 q4 q)
def tFor (wi : TI) (g : TG) (tb : TS) : TS := fun D σ H => wi σ H fun J H1 => ∃ W : Nat → Nat → St → Hp → Prop, (∃ m, W 0 m σ H1) ∧ ∀ i m σ H, W i m σ H →
  (J.stop i H ∧ D.nx σ H) ∨ (J.go i H ∧ ∃ N : St → Hp → Prop, (∀ σ' H', N σ' H' → ∃ m', m' < m ∧ W (i + 1) m' σ' H') ∧ ∀ x H', J.yld i H x H' → g x σ H' fun σ2 H2 => tb { D with nx := N, ct := N, bk := D.nx } σ2 H2)
def qg5_ (fp : List Addr) (h : Heap) : List (Addr × Obj) := fp.filterMap fun b => (h.get? b).map fun o => (b, o)
theorem qda_ {fp : List Addr} {h : Heap} {b : Addr} {o : Obj} (hb : b ∈ fp) (e : h.get? b = some o) : (b, o) ∈ qg5_ fp h := List.mem_filterMap.mpr ⟨b, hb, by rw [e]; rfl⟩
theorem qkx_ {fp : List Addr} {h : Heap} {p : Addr × Obj} (hp : p ∈ qg5_ fp h) : p.1 ∈ fp ∧ h.get? p.1 = some p.2 := by
  obtain ⟨b, hb, e⟩ := List.mem_filterMap.mp hp
  cases q : h.get? b with
  | none => rw [q] at e; cases e
  | some o =>
    rw [q] at e
    have e' : (b, o) = p := Option.some.inj e
    subst e'
    exact ⟨hb, q⟩
theorem Inv.pinned {pins : List (Addr × Obj)} {σ : St} {H : Hp} {s : Shared} {fp : List Addr} (I : Inv X pins σ H s) (hf : ∀ b ∈ fp, FpOk X pins H b) (ho : ∀ b ∈ fp, ∃ o, s.heap.get? b = some o ∧ ∀ v, o.data ≠ .cell v) : Inv X (pins ++ qg5_ fp s.heap) σ H s :=
  I.pins_of fun p hp => (List.mem_append.mp hp).elim (fun z => I.pin p (List.mem_append_right _ z)) fun z => by
    obtain ⟨hb, e⟩ := qkx_ z
    obtain ⟨f0, f1, f2, _⟩ := hf p.1 hb
    obtain ⟨o, e', d⟩ := ho p.1 hb
    rw [e] at e'; cases e'
    exact ⟨e, f0, f1, f2, d⟩
theorem Inv.unpinned {pins pl : List (Addr × Obj)} {σ : St} {H : Hp} {s : Shared} (I : Inv X (pins ++ pl) σ H s) : Inv X pins σ H s := I.pins_of fun p hp => I.pin p (List.mem_append_right _ (List.mem_append_left _ hp))
theorem quj_ {iter : Expr} {body : List Stmt} {wi : TI} {g : TG} {tb : TS} {pos : Pos} (hp : PassesOwn (model X.prog X.w) X.A X.env X.xe) (hc : X.calm = true) (hi : PI X tg iter wi) (hg : PG X tg g) (hb : PSs X body tb)
    (hs : ∀ x, foldedSetIterable iter X.env x = pure x := by intro _; rfl) : PS X (.For tg iter body [] pos) (tFor wi g tb) := by
  intro pins s σ H D I h
  refine wpAny_For (thn (hi pins s σ H _ I h) fun v s1 h1 => thn h1 fun itv s2 h2 => ?_) hs
  obtain ⟨it, fp, tn, J, H2, e, I2, T, st2, f2, W, ⟨m0, w0⟩, turn⟩ := h2
  subst e
  -- what stays true of the iterator's objects through the loop
  have stat : ∀ {H' : Hp}, (∀ b ∈ fp, H' b = none) → ∀ b ∈ fp, FpOk X pins H' b := fun hn b hb => ⟨hn b hb, (f2 b hb).2⟩
  refine codeAny_forLoop_any (fun n s' => ∃ i σ' H', Inv X pins σ' H' s' ∧ tn i s'.heap ∧ (∀ b ∈ fp, H' b = none) ∧ W i n σ' H') ?_ m0 ⟨0, σ, H2, I2, st2, fun b hb => (f2 b hb).1, w0⟩
  rintro n s3 ⟨i, σ3, H3, I3, st3, fr3, w3⟩
  rcases turn i n σ3 H3 w3 with ⟨stop, qn⟩ | ⟨go, N, hN, step⟩
  · refine wpAny_passesOwn hp (thn (T.done X rfl rfl rfl hc i pins s3 σ3 H3 X.xe I3 (stat fr3) st3 stop) fun r s4 ⟨hr, I4⟩ => ?_)
    subst hr
    exact wpAny_execs_nil ⟨σ3, H3, I4, qn⟩
  · refine wpAny_passesOwn hp (thn (T.item X rfl rfl rfl hc i pins s3 σ3 H3 X.xe I3 (stat fr3) st3 go) fun r s4 ⟨u, hr, h4⟩ => ?_)
    subst hr
    refine wpAny_passesOwn hp (thn h4 fun _ s5 ⟨x, H5, I5, r5, y5, st5, fr5⟩ => ?_)
    have I5' := I5.pinned (stat fr5) (T.obj _ _ st5)
    refine wpAny_passesOwn hp (thn (hg _ s5 σ3 H5 x u _ I5' r5 (step x H5 y5)) fun _ s6 zz42 => e22 zz42 fun σ6 H6 I6 q6 => ?_)
    refine wpAny_passesOwn hp (thn (hb _ s6 σ6 H6 _ I6 q6) fun f s7 q7 => ?_)
    have again : ∀ {σ7 : St} {H7 : Hp}, Inv X (pins ++ qg5_ fp s5.heap) σ7 H7 s7 → N σ7 H7 → ∃ m, m < n ∧ ∃ i σ' H', Inv X pins σ' H' s7 ∧ tn i s7.heap ∧ (∀ b ∈ fp, H' b = none) ∧ W i m σ' H' := fun {σ7 H7} I7 n7 => by
      obtain ⟨m', hm, w7⟩ := hN σ7 H7 n7
      refine ⟨m', hm, i + 1, σ7, H7, I7.unpinned, T.keep _ _ _ st5 fun b hb o e => (I7.pin (b, o) (List.mem_append_right _ (List.mem_append_right _ (qda_ hb e)))).1, fun b hb => ?_, w7⟩
      obtain ⟨o, e, d⟩ := T.obj _ _ st5 b hb
      exact (I7.pin (b, o) (List.mem_append_right _ (List.mem_append_right _ (qda_ hb e)))).2.1
    cases f with
    | next => obtain ⟨σ7, H7, I7, n7⟩ := q7; exact again I7 n7
    | cont => obtain ⟨σ7, H7, I7, n7⟩ := q7; exact again I7 n7
    | brk => obtain ⟨σ7, H7, I7, q7⟩ := q7; exact ⟨σ7, H7, I7.unpinned, q7⟩
    | ret v => obtain ⟨x7, σ7, H7, I7, r7, q7⟩ := q7; exact ⟨x7, σ7, H7, I7.unpinned, r7, q7⟩
end
end L2
namespace L2
open PySem PySem.Spec PyProof.Rows
abbrev R2 := V → V → Hp → VK → Prop
def OpR (X : Cx) (f : Value → Value → Sem Value) (r : R2) : Prop :=
  ∀ (pins : List (Addr × Obj)) (s : Shared) (σ : St) (H : Hp) (x y : V) (v u : Value) (Q : VK), Inv X pins σ H s → RelV x v → RelV y u → r x y H Q →
    wpAny (model X.prog X.w) X.A (f v u) (EP X pins σ Q) X.xe s
def UnR (X : Cx) (f : Value → Sem Value) (r : V → Hp → VK → Prop) : Prop :=
  ∀ (pins : List (Addr × Obj)) (s : Shared) (σ : St) (H : Hp) (x : V) (v : Value) (Q : VK), Inv X pins σ H s → RelV x v → r x H Q →
    wpAny (model X.prog X.w) X.A (f v) (EP X pins σ Q) X.xe s
def qdt_ (X : Cx) (f : Value) (r : List V → Hp → VK → Prop) : Prop :=
  ∀ (pins : List (Addr × Obj)) (s : Shared) (σ : St) (H : Hp) (xs : List V) (us : List Value) (Q : VK), Inv X pins σ H s → Vals xs us → r xs H Q →
    wpAny (model X.prog X.w) X.A (call f us) (EP X pins σ Q) X.xe s
def tOp (r : R2) (ta tb : TE) : TE := fun σ H Q => ta σ H fun x H1 => tb σ H1 fun y H2 => r x y H2 Q
def tUn (r : V → Hp → VK → Prop) (ta : TE) : TE := fun σ H Q => ta σ H fun x H1 => r x H1 Q
def rI (C : Int → Int → Prop) (g : Int → Int → V) : R2 := fun x y H Q => ∃ i j, x = .int i ∧ y = .int j ∧ C i j ∧ Q (g i j) H
def rI0 (g : Int → Int → V) : R2 := fun x y H Q => ∃ i j, x = .int i ∧ y = .int j ∧ Q (g i j) H
def rU (g : Int → V) : V → Hp → VK → Prop := fun x H Q => ∃ i, x = .int i ∧ Q (g i) H
section
variable {X : Cx} {a b c : Expr} {ta tb tc : TE} {pos : Pos}
theorem binT (ha : PE X a ta) (hb : PE X b tb) {pins : List (Addr × Obj)} {s : Shared} {σ : St} {H : Hp} {R : V → V → Hp → Prop} (I : Inv X pins σ H s)
    (h : ta σ H fun x H1 => tb σ H1 fun y H2 => R x y H2) {Q : Value → Shared → Prop} {f : Value → Value → Sem Value}
    (hf : ∀ v u s2 x y H2, Inv X pins σ H2 s2 → RelV x v → RelV y u → R x y H2 → wpAny (model X.prog X.w) X.A (f v u) Q X.xe s2) :
    wpAny (model X.prog X.w) X.A (eval a X.env) (fun v s₁ => wpAny (model X.prog X.w) X.A (eval b X.env) (fun u s₂ => wpAny (model X.prog X.w) X.A (f v u) Q X.xe s₂) X.xe s₁) X.xe s := by
  refine thn (ha pins s σ H _ I h) fun v s1 zz44 => e23 zz44 fun x H1 I1 r1 q1 => ?_
  refine thn (hb pins s1 σ H1 _ I1 q1) fun u s2 zz45 => e23 zz45 fun y H2 I2 r2 q2 => ?_
  exact hf v u s2 x y H2 I2 r1 r2 q2
theorem qdk_ {op : Operator} {r : R2} (ho : OpR X (binaryOp op) r) (ha : PE X a ta) (hb : PE X b tb) : PE X (.BinOp a op b pos) (tOp r ta tb) := by
  intro pins s σ H Q I h
  exact wpAny_BinOp (binT ha hb I h fun v u s2 x y H2 I2 rx ry q => ho pins s2 σ H2 x y v u Q I2 rx ry q)
theorem qv9_ {op : UnaryOp} {r : V → Hp → VK → Prop} (ho : UnR X (unaryOp op) r) (ha : PE X a ta) : PE X (.UnaryOp op a pos) (tUn r ta) := by
  intro pins s σ H Q I h
  exact UnaryOp_ (thn (ha pins s σ H _ I h) fun v s1 zz46 => e23 zz46 fun x H1 I1 r1 q1 => ho pins s1 σ H1 x v Q I1 r1 q1)
theorem opI {f : Value → Value → Sem Value} {C : Int → Int → Prop} {g : Int → Int → Int}
    (rule : ∀ (i j : Int) (t u : Tok) (s : Shared) (Q : Value → Shared → Prop) (E : Value → Shared → Prop), C i j → Q (.int (g i j) s.toks) { s with toks := s.toks + 1 } → wpAny (model X.prog X.w) X.A (f (.int i t) (.int j u)) Q E s) :
    OpR X f (rI C fun i j => .int (g i j)) := by
  intro pins s σ H x y v u Q I rx ry h
  obtain ⟨i, j, rfl, rfl, hc, q⟩ := h
  obtain ⟨t, rfl⟩ := rx
  obtain ⟨t', rfl⟩ := ry
  exact rule i j t t' s _ _ hc ⟨.int (g i j), H, I.tok _, ⟨_, rfl⟩, q⟩
theorem opI0 {f : Value → Value → Sem Value} {g : Int → Int → Int}
    (rule : ∀ (i j : Int) (t u : Tok) (s : Shared) (Q : Value → Shared → Prop) (E : Value → Shared → Prop), Q (.int (g i j) s.toks) { s with toks := s.toks + 1 } → wpAny (model X.prog X.w) X.A (f (.int i t) (.int j u)) Q E s) :
    OpR X f (rI0 fun i j => .int (g i j)) := by
  intro pins s σ H x y v u Q I rx ry h
  obtain ⟨i, j, rfl, rfl, q⟩ := h
  obtain ⟨t, rfl⟩ := rx
  obtain ⟨t', rfl⟩ := ry
  exact rule i j t t' s _ _ ⟨.int (g i j), H, I.tok _, ⟨_, rfl⟩, q⟩
theorem opB0 {f : Value → Value → Sem Value} {g : Int → Int → Bool}
    (rule : ∀ (i j : Int) (t u : Tok) (s : Shared) (Q : Value → Shared → Prop) (E : Value → Shared → Prop), Q (.bool (g i j)) s → wpAny (model X.prog X.w) X.A (f (.int i t) (.int j u)) Q E s) :
    OpR X f (rI0 fun i j => .bl (g i j)) := by
  intro pins s σ H x y v u Q I rx ry h
  obtain ⟨i, j, rfl, rfl, q⟩ := h
  obtain ⟨t, rfl⟩ := rx
  obtain ⟨t', rfl⟩ := ry
  exact rule i j t t' s _ _ ⟨.bl (g i j), H, I, rfl, q⟩
def CPow (i j : Int) : Prop := 0 ≤ j ∧ j ≤ 1000000 ∧ i.natAbs < 2 ^ 64
def CMul (i j : Int) : Prop := (-(2 ^ 64) < i ∧ i < 2 ^ 64) ∨ (-(2 ^ 64) < j ∧ j < 2 ^ 64)
theorem CMul.ok {i j : Int} (h : CMul i j) : IntMulOk i j := by
  rcases h with ⟨h1, h2⟩ | ⟨h1, h2⟩
  · exact .of_left (intBits_le_64 h1 h2)
  · exact .of_right (intBits_le_64 h1 h2)
theorem qjc_ : OpR X (binaryOp .Add) (rI0 fun i j => .int (i + j)) := opI0 fun _ _ _ _ _ _ _ q => add_int q
theorem qsb_ : OpR X (binaryOp .Sub) (rI0 fun i j => .int (i - j)) := opI0 fun _ _ _ _ _ _ _ q => sub_int q
theorem qr8_ : OpR X (binaryOp .Mult) (rI CMul fun i j => .int (i * j)) := opI fun _ _ _ _ _ _ _ hc q => mul_int q hc.ok
theorem qdo_ : OpR X (binaryOp .Mod) (rI (fun _ j => j ≠ 0) fun i j => .int (i.fmod j)) := opI fun _ _ _ _ _ _ _ hc q => mod_int' hc q
theorem qs1_ : OpR X (binaryOp .Pow) (rI CPow fun i j => .int (i ^ j.toNat)) := opI fun _ _ _ _ _ _ _ hc q => pow_int_small hc.1 hc.2.1 hc.2.2 q
theorem unI {f : Value → Sem Value} {g : Int → Int}
    (rule : ∀ (i : Int) (t : Tok) (s : Shared) (Q : Value → Shared → Prop) (E : Value → Shared → Prop), Q (.int (g i) s.toks) { s with toks := s.toks + 1 } → wpAny (model X.prog X.w) X.A (f (.int i t)) Q E s) :
    UnR X f (rU fun i => .int (g i)) := by
  intro pins s σ H x v Q I rx h
  obtain ⟨i, rfl, q⟩ := h
  obtain ⟨t, rfl⟩ := rx
  exact rule i t s _ _ ⟨.int (g i), H, I.tok _, ⟨_, rfl⟩, q⟩
theorem qty_ : UnR X (unaryOp .USub) (rU fun i => .int (-i)) := unI fun _ _ _ _ _ q => neg_int q
end
section
variable {X : Cx} {a b c : Expr} {ta tb tc : TE} {pos : Pos}
theorem qob_ {pins : List (Addr × Obj)} {σ : St} {H : Hp} {s : Shared} {Q : VK} {k k' : Bool} (I : Inv X pins σ H s) (q : Q (.bl k) H) (e : k = k') : EP X pins σ Q (.bool k') s := by
  subst e
  exact ⟨.bl k, H, I, rfl, q⟩
theorem qsl_ : OpR X (compareOp .Lt) (rI0 fun i j => .bl (decide (i < j))) := opB0 fun _ _ _ _ _ _ _ q => lt_int q
theorem qtk_ : OpR X (compareOp .Gt) (rI0 fun i j => .bl (decide (j < i))) := opB0 fun _ _ _ _ _ _ _ q => gt_int q
theorem qn7_ : OpR X (compareOp .Is) (fun x y H Q => y = .non ∧ Q (.bl (decide (x = .non))) H) := by
  intro pins s σ H x y v u Q I rx ry h
  obtain ⟨rfl, q⟩ := h
  cases ry
  refine is_none_gen (qob_ I q ?_)
  cases x <;> first
    | (cases rx; rfl)
    | (obtain ⟨t, rfl⟩ := rx; rfl)
theorem qpo_ : OpR X (compareOp .IsNot) (fun x y H Q => y = .non ∧ Q (.bl (!decide (x = .non))) H) := by
  intro pins s σ H x y v u Q I rx ry h
  obtain ⟨rfl, q⟩ := h
  cases ry
  refine isnot_none_gen (qob_ I q ?_)
  cases x <;> first
    | (cases rx; rfl)
    | (obtain ⟨t, rfl⟩ := rx; rfl)
theorem qdm_ (b : Expr) {op : CmpOp} (h : op ≠ .In := by decide) (h2 : op ≠ .NotIn := by decide) : behindInMarks op b = false := by
  have e1 : (op == CmpOp.In) = false := by cases op <;> first | rfl | exact absurd rfl h
  have e2 : (op == CmpOp.NotIn) = false := by cases op <;> first | rfl | exact absurd rfl h2
  cases b <;> simp [behindInMarks, e1, e2]
theorem qqg_ {op : CmpOp} {r : R2} (ho : OpR X (compareOp op) r) (ha : PE X a ta) (hb : PE X b tb) (hm : behindInMarks op b = false) : PE X (.Compare a [op] [b] pos) (tOp r ta tb) := by
  intro pins s σ H Q I h
  exact wpAny_Compare1 (binT ha hb I h fun v u s2 x y H2 I2 rx ry q => ho pins s2 σ H2 x y v u Q I2 rx ry q) hm
def qv6_ (t : TE) : TT := fun σ H Q => t σ H fun x H' => ∃ k, x = .bl k ∧ Q k H'
theorem qkw_ {op : CmpOp} {r : R2} (ho : OpR X (compareOp op) r) (ha : PE X a ta) (hb : PE X b tb) (hm : behindInMarks op b = false) : PT X (.Compare a [op] [b] pos) (qv6_ (tOp r ta tb)) := by
  intro pins s σ H Q I h
  refine wpAny_isTrue_Compare1 (thn (ha pins s σ H _ I h) fun v s1 zz47 => e23 zz47 fun x H1 I1 r1 q1 => thn (hb pins s1 σ H1 _ I1 q1) fun u s2 zz48 => e23 zz48 fun y H2 I2 r2 q2 =>
    thn (ho pins s2 σ H2 x y v u _ I2 r1 r2 q2) fun c s3 ⟨z, H3, I3, r3, k, e, q3⟩ => ?_) hm
  subst e
  cases r3
  exact wpAny_truthy_bool ⟨H3, I3, q3⟩
theorem qg9_ : (sizeLine : Nat) < 2 ^ 63 := by rw [sizeLine_eq]; decide
theorem qfx_ {x : V} {us : List Value} (r : Vals [x] us) : ∃ u, us = [u] ∧ RelV x u := by
  cases r with
  | cons r1 r2 => cases r2; exact ⟨_, rfl, r1⟩
theorem qhn_ {x y : V} {us : List Value} (r : Vals [x, y] us) : ∃ u w', us = [u, w'] ∧ RelV x u ∧ RelV y w' := by
  cases r with
  | cons r1 r2 =>
    cases r2 with
    | cons r3 r4 => cases r4; exact ⟨_, _, rfl, r1, r3⟩
theorem qm8_ : qdt_ X (.builtin "abs") (fun xs H Q => ∃ i, xs = [.int i] ∧ Q (.int (if i < 0 then -i else i)) H) := by
  intro pins s σ H xs us Q I r h
  obtain ⟨i, rfl, q⟩ := h
  obtain ⟨u, rfl, t, rfl⟩ := qfx_ r
  exact call_abs_int fun u tk => ⟨.int (if i < 0 then -i else i), H, I.tok _, ⟨_, rfl⟩, q⟩
theorem ql3_ (hc : X.calm = true) : qdt_ X (.builtin "max") (fun xs H Q => ∃ i j, xs = [.int i, .int j] ∧ Q (.int (if j > i then j else i)) H) := by
  intro pins s σ H xs us Q I r h
  obtain ⟨i, j, rfl, q⟩ := h
  obtain ⟨u, w', rfl, ⟨t, rfl⟩, ⟨t', rfl⟩⟩ := qhn_ r
  refine max_two_ints (I.ok.hd hc) fun h' tk k => ⟨_, H, I.kept k, ?_, q⟩
  by_cases hj : j > i
  · rw [if_pos hj, if_pos hj]; exact ⟨_, rfl⟩
  · rw [if_neg hj, if_neg hj]; exact ⟨_, rfl⟩
theorem qki_ (hc : X.calm = true) : qdt_ X (.builtin "min") (fun xs H Q => ∃ i j, xs = [.int i, .int j] ∧ Q (.int (if j < i then j else i)) H) := by
  intro pins s σ H xs us Q I r h
  obtain ⟨i, j, rfl, q⟩ := h
  obtain ⟨u, w', rfl, ⟨t, rfl⟩, ⟨t', rfl⟩⟩ := qhn_ r
  refine min_two_ints (I.ok.hd hc) fun h' tk k => ⟨_, H, I.kept k, ?_, q⟩
  by_cases hj : j < i
  · rw [if_pos hj, if_pos hj]; exact ⟨_, rfl⟩
  · rw [if_neg hj, if_neg hj]; exact ⟨_, rfl⟩
theorem qlz_ : qdt_ X (.type "int") (fun xs H Q => (∃ i, xs = [.int i] ∧ Q (.int i) H) ∨ ∃ k, xs = [.bl k] ∧ Q (.int (if k then 1 else 0)) H) := by
  intro pins s σ H xs us Q I r h
  rcases h with ⟨i, rfl, q⟩ | ⟨k, rfl, q⟩
  · obtain ⟨u, rfl, t, rfl⟩ := qfx_ r
    exact call_int_int ⟨.int i, H, I, ⟨_, rfl⟩, q⟩
  · obtain ⟨u, rfl, r1⟩ := qfx_ r
    cases r1
    exact call_int_bool ⟨.int (if k then 1 else 0), H, I.tok _, ⟨_, rfl⟩, q⟩
end
end L2
namespace L2
open PySem PySem.Spec PyProof.Rows
structure ObjM (h : Heap) (x dx C : Addr) (mA : Str → Option Value) : Prop where
  obj : h.get? x = some (PySem.W.instObj C dx)
  ns : h.Ns1 dx mA
  ne : dx ≠ x
theorem qj6_ {h : Heap} {dx : Addr} {mA : Str → Option Value} (n : h.Ns1 dx mA) : ∃ od, h.get? dx = some od ∧ ∀ name, PySem.W.lookIn name od = some (mA name) := by
  obtain ⟨o, es, ep, ho, hd, hk, _, hm⟩ := n
  refine ⟨o, ho, fun name => ?_⟩
  have e := hm name
  unfold nsFind findBy at e
  rw [← Array.find?_toList] at e
  unfold PySem.W.lookIn
  rw [hd]
  dsimp only
  split
  · rename_i y q
    rw [q] at e
    exact congrArg some e
  · rename_i q
    rw [q] at e
    have a : es.toList.any (·.refKey) = false := by
      rw [List.any_eq_false]
      intro y hy
      obtain ⟨z, t, hkey⟩ := hk y (Array.mem_toList_iff.mp hy)
      simp [DictEntry.refKey, hkey]
    have a' : ¬ es.toList.any (·.refKey) = true := by rw [a]; exact Bool.false_ne_true
    rw [if_neg a']
    exact congrArg some e
theorem ObjM.look {h : Heap} {x dx C : Addr} {mA : Str → Option Value} (I : ObjM h x dx C mA) : ∃ od, PySem.W.InstAt h x (PySem.W.instObj C dx) C (some od) ∧ ∀ name, PySem.W.lookIn name od = some (mA name) :=
  let ⟨od, ho, hl⟩ := qj6_ I.ns
  ⟨od, ⟨I.obj, rfl, rfl, ho⟩, hl⟩
section
variable {prog : Program} {w : World} {A : Around} {E : Value → Shared → Prop} {s : Shared} {K : PySem.W.Frag} {x dx C f : Addr} {mA : Str → Option Value} {name : Str} {v : Value}
end
theorem RelO.some_of {v : V} {o : Option Value} (r : RelO (some v) o) : ∃ u, o = some u ∧ RelV v u := by
  cases o with
  | none => exact (show False from r).elim
  | some u => exact ⟨u, rfl, r⟩
section
variable {P : Program} {w : World} {H H' : Hp} {h h' : Heap} {a C dx : Addr} {fs fs' : List (Str × V)}
theorem qpu_ (hok : HOk P w H h) (e : H a = some (.ins C dx fs)) : ∃ mA, ObjM h a dx C mA ∧ (∀ f, RelO (fs.lookup f) (mA f)) ∧ PySem.Within mA (fs.map (·.1)) ∧ fs.length ≤ 1000 ∧ H dx = some (.own a) := by
  obtain ⟨d, z, ne, ob, mA, n, r, q⟩ := (show ObjOk P w H h a (.ins C dx fs) from hok a _ e)
  exact ⟨mA, ⟨ob, n, ne⟩, r, q, z, d⟩
end
structure Cls (K : PySem.W.Frag) (C : Addr) : Prop where
  pg : PySem.W.plainGet K C Str.empty = true
  hd : PySem.W.hasDictIn K C = true
  po : PySem.W.plainOver K C = true
  sa : PySem.W.findIn K (.ref C) "__setattr__" = some (some (.builtin "object.__setattr__"))
theorem Cls.get {K : PySem.W.Frag} {C : Addr} (c : Cls K C) (f : Str) : PySem.W.plainGet K C f = true := c.pg
section
variable {X : Cx} {pins : List (Addr × Obj)} {σ : St} {H : Hp} {s : Shared} {a C dx : Addr} {fs : List (Str × V)} {f : Str} {v : V} {A : Around} {E : Value → Shared → Prop}
end
section
variable {X : Cx} {o e value : Expr} {f : Str} {pos pos' tpos : Pos} {ta tv : TE}
end
section
variable {X : Cx} {pins : List (Addr × Obj)} {σ : St} {H : Hp} {s : Shared} {A : Around} {E : Value → Shared → Prop} {Q : Value → Shared → Prop} {c : Value} {b : Bool}
inductive TyOf (K : PySem.W.Frag) (H : Hp) : V → Value → Prop where
  | non : TyOf K H .non (.type "NoneType")
  | bl (x : Bool) : TyOf K H (.bl x) (.type "bool")
  | int (i : Int) : TyOf K H (.int i) (.type "int")
  | str (x : Str) : TyOf K H (.str x) (.type "str")
  | flt (x : UInt64) : TyOf K H (.flt x) (.type "float")
  | lst {a : Addr} {xs : List V} (e : H a = some (.lst xs)) : TyOf K H (.ref a) (.type "list")
  | frz {a : Addr} {o : Obj} {xs : List V} (e : H a = some (.frz o (.lst xs))) : TyOf K H (.ref a) (.type "list")
  | tup {a : Addr} {xs : List V} (e : H a = some (.tup xs)) : TyOf K H (.ref a) (.type "tuple")
  | dK {a : Addr} {kvs : List (Key × V)} (e : H a = some (.dK kvs)) : TyOf K H (.ref a) (.type "dict")
  | dT {a : Addr} {kvs : List (List Key × V)} (e : H a = some (.dT kvs)) : TyOf K H (.ref a) (.type "dict")
  | ins {a C dx : Addr} {fs : List (Str × V)} (e : H a = some (.ins C dx fs)) (cl : Cls K C) (ha : PySem.W.findIn K (.ref C) "__class__" = some (some (.builtin "object.__class__")))
      (hn : PySem.W.specialIn K (.builtin "object.__class__") "__get__" = some (some (.builtin "getset_descriptor.__get__"))) (htk : PySem.W.takesIn K (.builtin "object.__class__") = some true)
      (hm : PySem.W.mroIn K C (.type "object") = some true) : TyOf K H (.ref a) (.ref C)
theorem qd0_ {x : V} {u t : Value} (I : Inv X pins σ H s) (rx : RelV x u) (ty : TyOf X.K H x t) (e : PySem.W.kitOne X.K t c = some b) (h : ∀ tk, Q (.bool b) { s with toks := tk }) :
    wpAny (model X.prog X.w) A (call (.builtin "isinstance") [u, c]) Q E s := by
  cases ty with
  | non => cases (show u = Value.none from rx); exact PySem.W.kia_one PySem.W.kitx_none I.kIn True.intro e (fun z => nomatch z) h
  | bl y => cases (show u = Value.bool y from rx); exact PySem.W.kia_one PySem.W.kitx_bool I.kIn True.intro e (fun z => nomatch z) h
  | int i => obtain ⟨t, q⟩ := (show ∃ t, u = Value.int i t from rx); cases q; exact PySem.W.kia_one PySem.W.kitx_int I.kIn True.intro e (fun z => nomatch z) h
  | str y => obtain ⟨t, q⟩ := (show ∃ t, u = Value.str y t from rx); cases q; exact PySem.W.kia_one PySem.W.kitx_str I.kIn True.intro e (fun z => nomatch z) h
  | flt y => obtain ⟨t, q⟩ := (show ∃ t, u = Value.float y t from rx); cases q; exact PySem.W.kia_one PySem.W.kitx_float I.kIn True.intro e (fun z => nomatch z) h
  | @lst a xs ea =>
    cases (show u = Value.ref a from rx)
    obtain ⟨_, _, n, _, h1⟩ := (show ObjOk X.prog X.w H s.heap a (.lst xs) from I.hok a _ ea)
    exact PySem.W.kia_one PySem.W.kitx_list I.kIn ⟨_, h1, rfl⟩ e (fun z => nomatch z) h
  | @frz a ob xs ea =>
    cases (show u = Value.ref a from rx)
    obtain ⟨_, _, _, n, _, h1⟩ := (show ObjOk X.prog X.w H s.heap a (.frz ob (.lst xs)) from I.hok a _ ea)
    exact PySem.W.kia_one PySem.W.kitx_list I.kIn ⟨_, h1, rfl⟩ e (fun z => nomatch z) h
  | @tup a xs ea =>
    cases (show u = Value.ref a from rx)
    obtain ⟨_, _, _, p⟩ := (show ObjOk X.prog X.w H s.heap a (.tup xs) from I.hok a _ ea)
    obtain ⟨o, h1, h2, _⟩ := p
    exact PySem.W.kia_one PySem.W.kitx_tuple I.kIn ⟨o, h1, h2⟩ e (fun z => nomatch z) h
  | @dK a kvs ea =>
    cases (show u = Value.ref a from rx)
    obtain ⟨_, _, vs, _, p⟩ := (show ObjOk X.prog X.w H s.heap a (.dK kvs) from I.hok a _ ea)
    obtain ⟨o, es, ep, h1, h2, _⟩ := p
    exact PySem.W.kia_one PySem.W.kitx_dict I.kIn ⟨o, h1, h2.1⟩ e (fun z => nomatch z) h
  | @dT a kvs ea =>
    cases (show u = Value.ref a from rx)
    obtain ⟨_, _, xs, _, o, es, ep, h1, h2, _⟩ := (show ObjOk X.prog X.w H s.heap a (.dT kvs) from I.hok a _ ea)
    exact PySem.W.kia_one PySem.W.kitx_dict I.kIn ⟨o, h1, h2.1⟩ e (fun z => nomatch z) h
  | @ins a C dx fs ea cl ha hn htk hm =>
    cases (show u = Value.ref a from rx)
    obtain ⟨mA, O, _⟩ := qpu_ I.hok ea
    obtain ⟨od, J, _⟩ := O.look
    exact PySem.W.kia_one (PySem.W.kitx_own (cl.get _) cl.hd ha hn htk hm) I.kIn J e (fun z => nomatch z) h
end
end L2
namespace L2
open PySem PySem.Spec PyProof.Rows
structure Room (k : Nat) (A : Around) : Prop where
  hd : A.handled = none
  dp : A.depth + 3 * k + 5 < recursionLimit
  un : A.units + 16 * k + 200 < cLine
theorem Room.mono {j k : Nat} {A : Around} (r : Room k A) (h : j ≤ k) : Room j A := ⟨r.hd, by have := r.dp; omega, by have := r.un; omega⟩
theorem Room.deeper {k : Nat} {A : Around} (r : Room (k + 1) A) (env : Env) : Room k (A.deeper env) :=
  ⟨r.hd, by have := r.dp; show A.depth + 1 + 3 * k + 5 < _; omega, by have := r.un; show A.units + 3 + 16 * k + 200 < _; omega⟩
theorem Room.depth {k : Nat} {A : Around} (r : Room k A) : A.depth < recursionLimit := by have := r.dp; omega
def tNil : TA := fun _ H Q => Q [] H
def qqh_ (ta : TE) (tr : TA) : TA := fun σ H Q => ta σ H fun x H1 => tr σ H1 fun xs H2 => Q (x :: xs) H2
section
variable {X : Cx} {e : Expr} {es : List Expr} {te : TE} {t : TA} {pos : Pos}
theorem qd9_ : PA X [] tNil := fun _ _ _ _ H Q I h => Calls.spliced_nil ⟨[], H, I, .nil, h⟩
theorem q4_ (ha : PE X e te) (hr : PA X es t) (hs : starEach (e :: es) X.env = (false, eval e X.env) :: starEach es X.env := by rfl) : PA X (e :: es) (qqh_ te t) := by
  intro pos pins s σ H Q I h
  rw [hs]
  show wpAny _ _ (spliced ((false, eval e X.env) :: backTo pos (starEach es X.env))) _ _ s
  refine Calls.spliced_cons (thn (ha pins s σ H _ I h) fun u s1 zz68 => e23 zz68 fun x H1 I1 r1 q1 => ?_)
  exact thn (hr pos pins s1 σ H1 _ I1 q1) fun us s2 zz69 => e23 zz69 fun xs H2 I2 r2 q2 => ⟨x :: xs, H2, I2, .cons r1 r2, q2⟩
def tTup (t : TA) : TE := fun σ H Q => t σ H fun xs H1 => xs.length ≤ sizeLine ∧ ∀ p, H1 p = none → Q (.ref p) (upd H1 p (.tup xs))
def tLst (t : TA) : TE := fun σ H Q => t σ H fun xs H1 => xs.length ≤ sizeLine ∧ ∀ p, H1 p = none → Q (.ref p) (upd H1 p (.lst xs))
theorem qo1_ {x1} (h : PA X es t) : PE X (.Tuple es x1 pos) (tTup t) := by
  intro pins s σ H Q I hq
  refine wpAny_Tuple_spliced (thn (h pos pins s σ H _ I hq) fun us s1 zz70 => e24 zz70 fun xs H1 I1 r z q => ⟨by rw [← r.length]; exact z, ?_⟩)
  have hf : H1 s1.heap.objs.size = none := I1.hok.fresh (Nat.le_refl _)
  refine ⟨.ref s1.heap.objs.size, upd H1 s1.heap.objs.size (.tup xs), I1.laid (t' := s1.toks) (fun b u e => Heap.get?_push_of_some _ e) (Nat.le_refl _) ?_, rfl, q _ hf⟩
  exact ⟨z, us, r, ⟨_, Heap.get?_push_size _ rfl, rfl, _, rfl⟩⟩
theorem qt5_ (h : PA X es t) : PE X (.List es pos) (tLst t) := by
  intro pins s σ H Q I hq
  refine wpAny_List_spliced (thn (h pos pins s σ H _ I hq) fun us s1 zz71 => e24 zz71 fun xs H1 I1 r z q => ⟨by rw [← r.length]; exact z, ?_⟩)
  have hf : H1 s1.heap.objs.size = none := I1.hok.fresh (Nat.le_refl _)
  refine ⟨.ref s1.heap.objs.size, upd H1 s1.heap.objs.size (.lst xs), I1.laid (t' := s1.toks) (fun b u e => Heap.get?_push_of_some _ e) (Nat.le_refl _) ?_, rfl, q _ hf⟩
  exact ⟨z, us, 0, r, Heap.get?_push_size _ rfl⟩
end
abbrev Sp := List V → Hp → VK → XK → Prop
abbrev CXT := List Env → Hp → Shared → XK → Value → Shared → Prop
structure Env0 (P : Program) (w : World) (K : PySem.W.Frag) (mg : Str → Option Value) (base : Heap) (A : Around) (outer : List Env) (s : Shared) (H : Hp) : Prop where
  frames : A.frames = some outer
  mod : Mod K mg base
  bs : ∀ b o, base.get? b = some o → s.heap.get? b = some o ∧ H b = none
  bsz : base.objs.size ≤ s.heap.objs.size
  funs : s.heap.FunFrames base outer
  frf : ∀ b ∈ frs outer, H b = none
  hok : HOk P w H s.heap
  bare : AllBare s.gens
def CE (outer : List Env) (P : Program) (w : World) (H : Hp) (s : Shared) (Q : VK) (u : Value) (s' : Shared) : Prop :=
  ∃ v H', s'.os = s.os ∧ AllBare s'.gens ∧ Un (frs outer) [] H H' s.heap s'.heap ∧ HOk P w H' s'.heap ∧ RelV v u ∧ Q v H'
def CR (CX : CXT) (outer : List Env) (P : Program) (w : World) (H : Hp) (s : Shared) (Q : VK) (E : XK) (r : Result) (s' : Shared) : Prop :=
  match r with
  | .ok (.ret u) => CE outer P w H s Q u s'
  | .ok _ => False
  | .error e => CX outer H s E e s'
structure FnOk (P : Program) (w : World) (K : PySem.W.Frag) (mg : Str → Option Value) (base : Heap) (CX : CXT) (k : Nat) (f : Addr) (fd : FuncData) (ps : List Str) (sp : Sp) : Prop where
  len : ∀ vs H Q E, sp vs H Q E → vs.length = ps.length
  run : ∀ (A : Around) (outer : List Env) (s : Shared) (H : Hp) (args : Args) (us : List Value) (vs : List V) (Q : VK) (E : XK), Room k A → Env0 P w K mg base A outer s H → BindsTo s fd args (ps.zip us) → Vals vs us → sp vs H Q E →
    codeAny (model P w) A (.call (.ref f) args) (CR CX outer P w H s Q E) s
theorem FnOk.imp {P : Program} {w : World} {K : PySem.W.Frag} {mg : Str → Option Value} {base : Heap} {CX : CXT} {k : Nat} {f : Addr} {fd : FuncData} {ps : List Str} {sp sp' : Sp} (F : FnOk P w K mg base CX k f fd ps sp)
    (h : ∀ vs H Q E, sp' vs H Q E → sp vs H Q E) : FnOk P w K mg base CX k f fd ps sp' :=
  ⟨fun vs H Q E q => F.len vs H Q E (h _ _ _ _ q), fun A outer s H args us vs Q E hr he hb hv hs => F.run A outer s H args us vs Q E hr he hb hv (h _ _ _ _ hs)⟩
section
variable {X : Cx} {pins : List (Addr × Obj)} {σ : St} {H : Hp} {s s' : Shared}
theorem Inv.env0 (I : Inv X pins σ H s) : Env0 X.prog X.w X.K X.mg X.base X.A X.stack s H :=
  ⟨I.ok.frames, I.ok.mod, I.bs, Nat.le_trans I.ok.bsz I.sz, I.stack, I.stkFree, I.hok, I.bare⟩
theorem Inv.after {Q : VK} {u : Value} (I : Inv X pins σ H s) (h : CE X.stack X.prog X.w H s Q u s') : EP X pins σ Q u s' := by
  obtain ⟨v, H', os, bare, un, hok, r, q⟩ := h
  obtain ⟨hh, g, d, t, os'⟩ := s'
  obtain rfl : os' = s.os := os
  exact ⟨v, H', I.call (h' := hh) (g' := g) (d' := d) (t' := t) (ch := []) un hok bare (fun b z => absurd z (by simp)), r, q⟩
end
def que_ (sp : Sp) (dvs : List V) (E : XK) (t : TA) : TE := fun σ H Q => t σ H fun vs H1 => sp (vs ++ dvs) H1 Q E
def Binds (K : PySem.W.Frag) (fd : FuncData) (ps : List Str) (ds : List Value) : Prop :=
  ∀ (s : Shared) (us : List Value), K.In s.heap → (us ++ ds).length = ps.length → BindsTo s fd ⟨us, []⟩ (ps.zip (us ++ ds))
theorem Binds.all {K : PySem.W.Frag} {fd : FuncData} {ps : List Str} (h : ∀ us : List Value, us.length = ps.length → bindArgs fd ⟨us, []⟩ = pure (ps.zip us)) : Binds K fd ps [] := fun s us _ hl => by
  rw [List.append_nil] at hl ⊢
  exact .of_eq (h us hl)
def qjf_ (CX : CXT) (X : Cx) (E : XK) : Prop := ∀ (pins : List (Addr × Obj)) (σ : St) (H : Hp) (s : Shared) (e : Value) (s' : Shared), Inv X pins σ H s → CX X.stack H s E e s' → X.xe e s'
section
variable {X : Cx} {CX : CXT} {k : Nat} {f C : Addr} {fd : FuncData} {ps : List Str} {sp : Sp} {dvs : List V} {ds : List Value} {E : XK} {x m : Str} {p pos apos : Pos} {e o : Expr} {es : List Expr} {ta : TE} {t : TA}
theorem qsm_ {pins : List (Addr × Obj)} {σ : St} {H : Hp} {s : Shared} {Q : VK} {us : List Value} {vs : List V} (F : FnOk X.prog X.w X.K X.mg X.base CX k f fd ps sp) (hr : Room k X.A) (hb : Binds X.K fd ps ds) (hd : Vals dvs ds) (hx : qjf_ CX X E)
    (I : Inv X pins σ H s) (r : Vals vs us) (h : sp (vs ++ dvs) H Q E) : wpAny (model X.prog X.w) X.A (call (.ref f) us) (EP X pins σ Q) X.xe s := by
  have r2 : Vals (vs ++ dvs) (us ++ ds) := r.append hd
  have hl : (us ++ ds).length = ps.length := by rw [← r2.length]; exact F.len _ _ _ _ h
  refine wpAny_call (codeAny_mono (F.run X.A X.stack s H ⟨us, []⟩ (us ++ ds) (vs ++ dvs) Q E hr I.env0 (hb s us I.kIn hl) r2 h) fun r s' hq => ?_)
  cases r with
  | error e => exact hx pins σ H s e s' I hq
  | ok fl =>
    cases fl with
    | ret u => exact I.after hq
    | next => exact False.elim hq
    | brk => exact False.elim hq
    | cont => exact False.elim hq
theorem qqc_ (F : FnOk X.prog X.w X.K X.mg X.base CX k f fd ps sp) (hr : Room k X.A) (hg : Gl X x) (hm : X.mg x = some (.ref f)) (hk : PySem.W.keepIn X.K (.ref f) = true) (hb : Binds X.K fd ps ds) (hd : Vals dvs ds) (hx : qjf_ CX X E)
    (ha : PA X (e :: es) t) (hdb : (x == ("__debug__" : Str)) = false := by decide) (he : starEach (e :: es) X.env = (false, eval e X.env) :: starEach es X.env := by rfl) (hpl : (backTo pos (starEach es X.env)).any (·.1) = false := by rfl) :
    PE X (.Call (.Name x p) (e :: es) [] pos) (que_ sp dvs E t) := by
  intro pins s σ H Q I h
  refine wpAny_Call_Name_kw (qe1_ I hg hm ?_ hdb)
  refine PySem.W.callWith_K (h₀ := X.base) I.ok.mod.kin hk (thn (ha pos pins s σ H _ I h) fun us s1 zz72 => e23 zz72 fun vs H1 I1 r q => ⟨I1.kIn, ?_⟩) he hpl
  exact qsm_ F hr hb hd hx I1 r q
end
section
variable {X : Cx} {CX : CXT} {k : Nat} {f C : Addr} {fd : FuncData} {ps ks : List Str} {sp : Sp} {E : XK} {x m : Str} {p pos apos kpos : Pos} {e o : Expr} {es : List Expr} {kws : List Keyword} {te ta : TE} {t tk : TA} {nm : Option Str}
variable {g : List Value → List Value → List Value} {gV : List V → List V → List V}
end
structure FnScope (N P : List Str) (sc : Scope) : Prop where
  kind : sc.kind = .function
  co : sc.isCoroutine = false
  gen : sc.isGenerator = false
  nd : N.Nodup
  pre : N.take P.length = P
  par : ∀ x ∈ P, sc.names.lookup x = some .local ∨ sc.names.lookup x = some .cell
  nofree : ∀ y ∈ sc.names, y.2 ≠ .free
theorem qg4_ {kindOf : Str → Option NameKind} {x : Str} : ∀ {binds : List (Str × Value)} {m : Str → Option Value}, (∀ v, (x, v) ∉ binds) → bindL kindOf binds m x = m x
  | [], _, _ => rfl
  | (n, v) :: r, m, h => by
    unfold bindL
    rw [qg4_ fun w hw => h w (List.mem_cons_of_mem _ hw)]
    split
    · have : x ≠ n := by rintro rfl; exact h v List.mem_cons_self
      simp [this]
    · rfl
theorem qhi_ {kindOf : Str → Option NameKind} {x : Str} : ∀ {binds : List (Str × Value)} {m : Str → Option Value}, (∀ v, (x, v) ∉ binds) → bindC kindOf binds m x = m x
  | [], _, _ => rfl
  | (n, v) :: r, m, h => by
    unfold bindC
    rw [qhi_ fun w hw => h w (List.mem_cons_of_mem _ hw)]
    split
    · rfl
    · have : x ≠ n := by rintro rfl; exact h v List.mem_cons_self
      simp [this]
theorem qhb_ {kindOf : Str → Option NameKind} {x : Str} {v : Value} : ∀ {P : List Str} {vs : List Value} {i : Nat} {m : Str → Option Value}, P.Nodup → P[i]? = some x → vs[i]? = some v → kindOf x = some .local →
    bindL kindOf (P.zip vs) m x = some v
  | [], _, _, _, _, h, _, _ => by simp at h
  | _ :: _, [], _, _, _, _, h, _ => by simp at h
  | p :: P, w :: vs, 0, m, nd, h1, h2, hk => by
    simp at h1 h2; subst h1; subst h2
    show bindL kindOf ((p, w) :: P.zip vs) m p = _
    unfold bindL
    rw [qg4_ fun v hv => (List.nodup_cons.mp nd).1 (List.of_mem_zip hv).1, if_pos hk]
    simp
  | p :: P, w :: vs, i + 1, m, nd, h1, h2, hk => by
    show bindL kindOf ((p, w) :: P.zip vs) m x = _
    unfold bindL
    exact qhb_ (i := i) (List.nodup_cons.mp nd).2 (by simpa using h1) (by simpa using h2) hk
theorem qgz_ {kindOf : Str → Option NameKind} {x : Str} {v : Value} : ∀ {P : List Str} {vs : List Value} {i : Nat} {m : Str → Option Value}, P.Nodup → P[i]? = some x → vs[i]? = some v → kindOf x ≠ some .local →
    bindC kindOf (P.zip vs) m x = some v
  | [], _, _, _, _, h, _, _ => by simp at h
  | _ :: _, [], _, _, _, _, h, _ => by simp at h
  | p :: P, w :: vs, 0, m, nd, h1, h2, hk => by
    simp at h1 h2; subst h1; subst h2
    show bindC kindOf ((p, w) :: P.zip vs) m p = _
    unfold bindC
    rw [qhi_ fun v hv => (List.nodup_cons.mp nd).1 (List.of_mem_zip hv).1, if_neg hk]
    simp
  | p :: P, w :: vs, i + 1, m, nd, h1, h2, hk => by
    show bindC kindOf ((p, w) :: P.zip vs) m x = _
    unfold bindC
    exact qgz_ (i := i) (List.nodup_cons.mp nd).2 (by simpa using h1) (by simpa using h2) hk
def start (N : List Str) (vs : List V) : St := vs.map some ++ List.replicate (N.length - vs.length) none
def cxOf (CX : CXT) (P : Program) (w : World) (K : PySem.W.Frag) (mg : Str → Option Value) (base : Heap) (N : List Str) (qual : Str) (scope : Scope) (f : Addr) (cd : Value) (A : Around) (outer : List Env) (s : Shared) (H : Hp) (E : XK) : Cx where
  prog := P
  w := w
  K := K
  mg := mg
  base := base
  A := A.deeper (envOfC qual scope s.heap.objs.size f cd)
  N := N
  s₀ := s
  H₀ := H
  env := envOfC qual scope s.heap.objs.size f cd
  outer := outer
  stack := envOfC qual scope s.heap.objs.size f cd :: outer
  ex := []
  calm := true
  fn := fun _ => true
  pn := []
  xe := fun e s' => wpAny (model P w) (A.deeper (envOfC qual scope s.heap.objs.size f cd)) (leaving (envOfC qual scope s.heap.objs.size f cd) e) (fun _ s'' => CX outer H s E e s'') (fun e' s'' => CX outer H s E e' s'') s'
theorem qit_ {sc : Scope} {n : Nat} {x : Str} (h : sc.names.lookup x = some .cell) : ∃ c, (cellsFrom n sc.names []).lookup x = some c := by
  have q := PySem.W.cellsFrom_some sc.names n [] (.inl h)
  exact Option.isSome_iff_exists.mp q
theorem qlc_ {CX : CXT} {P : Program} {w : World} {K : PySem.W.Frag} {mg : Str → Option Value} {base : Heap} {N ps : List Str} {qual : Str} {scope : Scope} {f : Addr} {cd : Value} {A : Around} {outer : List Env} {s s1 : Shared} {H : Hp} {E : XK} {us : List Value} {vs : List V}
    (S : FnScope N ps scope) (hd : A.handled = none) (e0 : Env0 P w K mg base A outer s H) (hl : vs.length = ps.length) (r : Vals vs us)
    (x : InCallC s s.heap.objs.size (bindL (envOfC qual scope s.heap.objs.size f cd).kindOf (ps.zip us) fun _ => none) (cellsFrom (s.heap.objs.size + 1) scope.names []) (bindC (envOfC qual scope s.heap.objs.size f cd).kindOf (ps.zip us) fun _ => none) s1) :
    Inv (cxOf CX P w K mg base N qual scope f cd A outer s H E) [] (start N vs) H s1 := by
  have hpl : ps.length ≤ N.length := by have := congrArg List.length S.pre; rw [List.length_take] at this; omega
  obtain ⟨h1, tk, rfl, hk⟩ := x.done
  have noA : ∀ b : Addr, b ∉ (cxOf CX P w K mg base N qual scope f cd A outer s H E).ex := fun b z => absurd (show b ∈ ([] : List Addr) from z) (by simp)
  refine ⟨⟨e0.mod, S.kind, rfl, rfl, Nat.le_refl _, fun y z c h1 h2 => ?_, fun y hy => ?_, fun y c _ h => ?_, fun _ => hd, Around.frames_deeper e0.frames, .inr ⟨rfl, rfl⟩, fun b z => absurd z (noA b), e0.bs, e0.bsz, fun b _ _ => noA b, fun b z => absurd z (noA b), e0.funs, e0.frf⟩,
    rfl, e0.bare, Un.kept hk, ⟨_, x.toInCall.ns, fun i y v h1 h2 h3 => ?_⟩, fun y c h => ⟨_, x.cell y c h⟩, e0.hok.fresh (Nat.le_refl _), fun y c h => ?_, fun p hp => absurd (show p ∈ ([] : List (Addr × Obj)) from hp) (by simp), e0.hok.kept hk, ?_⟩
  · exact name_of_addr x.apart (PySem.mem_of_lookup h1) (PySem.mem_of_lookup h2)
  · have hy : scope.names.lookup y = some .cell ∨ scope.names.lookup y = some .free := hy
    rcases hy with hy | hy
    · exact qit_ hy
    · exact absurd rfl (S.nofree _ (PySem.mem_of_lookup hy))
  · exact Nat.le_of_lt (x.above y c (PySem.mem_of_lookup h))
  · have hi : i < vs.length := by
      unfold start at h2
      by_cases hi : i < vs.length
      · exact hi
      · rw [List.getElem?_append_right (by simpa using hi)] at h2
        rw [List.getElem?_replicate] at h2
        split at h2 <;> cases h2
    have ha : vs[i]? = some v := by
      unfold start at h2
      rw [List.getElem?_append_left (by simpa using hi), List.getElem?_map] at h2
      cases e : vs[i]? with
      | none => rw [e] at h2; cases h2
      | some a => rw [e] at h2; cases h2; rfl
    obtain ⟨u, hu, rv⟩ := r.get ha
    have hp : ps[i]? = some y := by
      rw [← S.pre, List.getElem?_take_of_lt (by omega)]; exact h1
    have ndP : ps.Nodup := by rw [← S.pre]; exact S.nd.sublist (List.take_sublist _ _)
    refine ⟨u, rv, ?_⟩
    rcases S.par y (List.mem_of_getElem? hp) with k | k
    · exact .inl ⟨k, qhb_ ndP hp hu k⟩
    · obtain ⟨c, e⟩ := qit_ (n := s.heap.objs.size + 1) k
      refine .inr ⟨.inl k, c, e, ?_⟩
      have q := x.cell y c e
      rw [qgz_ ndP hp hu (by show scope.names.lookup y ≠ _; rw [k]; decide)] at q
      exact q
  · exact e0.hok.fresh (Nat.le_of_lt (x.above y c (PySem.mem_of_lookup h)))
  · unfold start
    show _ = N.length
    rw [List.length_append, List.length_map, List.length_replicate]
    omega
theorem quh_ {CX : CXT} {P : Program} {w : World} {K : PySem.W.Frag} {mg : Str → Option Value} {base : Heap} {k : Nat} {f : Addr} {name qual : Str} {params : Arguments} {body : List Stmt} {scope : Scope} {dV kV doc pm cdv ct oc : Value} {an od : Option Addr}
    {osl : Array (Option Value)} {N ps : List Str} {sp : Sp} (lk : K.lookup f = some ⟨oc, od, .func (PySem.W.fnOf name qual params body scope dV kV doc pm an cdv ct), osl⟩) (hcd : PySem.W.codeIn K cdv qual = true) (S : FnScope N ps scope)
    (len : ∀ vs H Q E, sp vs H Q E → vs.length = ps.length)
    (hbody : ∀ (A : Around) (outer : List Env) (s : Shared) (H : Hp) (vs : List V) (Q : VK) (E : XK), Room k (A.deeper (envOfC qual scope s.heap.objs.size f cdv)) → sp vs H Q E →
      ∃ t, PSs (cxOf CX P w K mg base N qual scope f cdv A outer s H E) body t ∧ t { nx := fun _ H' => Q .non H', rt := Q } (start N vs) H) :
    FnOk P w K mg base CX (k + 1) f (PySem.W.fnOf name qual params body scope dV kV doc pm an cdv ct) ps sp := by
  refine ⟨len, fun A outer s H args us vs Q E hr e0 hb r hsp => ?_⟩
  have hl := len _ _ _ _ hsp
  have KX : K.In s.heap := e0.mod.kin.keeps fun b o e => (e0.bs b o e).1
  have lim : s.heap.NoLimit := e0.mod.nolimit.keeps fun b o e => (e0.bs b o e).1
  have hkind : ∀ y ∈ ps.zip us, scope.names.lookup y.1 = some .local ∨ (scope.names.lookup y.1 = some .cell ∧ ((cellsFrom (s.heap.objs.size + 1) scope.names []).lookup y.1).isSome = true) := fun ⟨n, v⟩ hy => by
    rcases S.par n (List.of_mem_zip hy).1 with q | q
    · exact .inl q
    · exact .inr ⟨q, PySem.W.cellsFrom_some _ _ _ (.inl q)⟩
  refine codeAny_call_function hr.depth (KX _ _ lk) rfl S.co S.gen rfl (PySem.W.codeRec_of KX hcd) (hb _ _ _ _ ?_)
  refine wpAny_newFunctionEnv_cells S.kind hkind fun env he s1 x => ?_
  subst he
  refine ⟨lim.keeps x.toInCall.keep, codeAny_func ?_⟩
  obtain ⟨t, ht, hq⟩ := hbody A outer s H vs Q E (hr.deeper _) hsp
  have I : Inv (cxOf CX P w K mg base N qual scope f cdv A outer s H E) [] (start N vs) H s1 := qlc_ S hr.hd e0 hl r x
  refine wpAny_mono (ht [] s1 (start N vs) H _ I hq) (fun fl s' hs => ?_) fun e s' hs => hs
  have fin : ∀ {σ' : St} {H' : Hp} {v : V} {u : Value}, Inv (cxOf CX P w K mg base N qual scope f cdv A outer s H E) [] σ' H' s' → RelV v u → Q v H' → CE outer P w H s Q u s' :=
    fun {σ' H' v u} J rv q => ⟨v, H', J.os, J.bare, J.base, J.hok, rv, q⟩
  cases fl with
  | ret u =>
    obtain ⟨v, σ', H', J, rv, q⟩ := hs
    exact fin J rv q
  | next =>
    obtain ⟨σ', H', J, q⟩ := hs
    exact fin (v := V.non) (u := Value.none) J rfl q
  | brk =>
    obtain ⟨_, _, _, q⟩ := hs
    exact False.elim q
  | cont =>
    obtain ⟨_, _, _, q⟩ := hs
    exact False.elim q
end L2
namespace L2
open PySem PySem.Spec PyProof.Rows
section
variable {X : Cx} {x : Str} {p pos : Pos} {e : Expr} {es : List Expr} {t : TA} {id T : String} {r : List V → Hp → VK → Prop}
def tCB (r : List V → Hp → VK → Prop) (t : TA) : TE := fun σ H Q => t σ H fun vs H1 => r vs H1 Q
theorem qdi_ (hc : qdt_ X (.builtin id) r) (hg : Gl X x) (hm : X.mg x = none) (hv : bootBuiltins x = some (.builtin id)) (ha : PA X (e :: es) t) (hn : x ≠ "__name__" := by decide) (hdb : (x == ("__debug__" : Str)) = false := by decide)
    (he : starEach (e :: es) X.env = (false, eval e X.env) :: starEach es X.env := by rfl) (hpl : (backTo pos (starEach es X.env)).any (·.1) = false := by rfl) : PE X (.Call (.Name x p) (e :: es) [] pos) (tCB r t) := by
  intro pins s σ H Q I h
  refine wpAny_Call_Name_kw (qcc_ I hg hm hv ?_ hn hdb)
  exact PyProof.Rows.callWith_builtin1 (thn (ha pos pins s σ H _ I h) fun us s1 zz81 => e23 zz81 fun vs H1 I1 r1 q1 => hc pins s1 σ H1 vs us Q I1 r1 q1) he hpl
theorem qgv_ (hc : qdt_ X (.type T) r) (hg : Gl X x) (hm : X.mg x = none) (hv : bootBuiltins x = some (.type T)) (ha : PA X (e :: es) t) (hn : x ≠ "__name__" := by decide) (hdb : (x == ("__debug__" : Str)) = false := by decide)
    (he : starEach (e :: es) X.env = (false, eval e X.env) :: starEach es X.env := by rfl) (hpl : (backTo pos (starEach es X.env)).any (·.1) = false := by rfl) : PE X (.Call (.Name x p) (e :: es) [] pos) (tCB r t) := by
  intro pins s σ H Q I h
  refine wpAny_Call_Name_kw (qcc_ I hg hm hv ?_ hn hdb)
  exact PyProof.Rows.callWith_type1 (thn (ha pos pins s σ H _ I h) fun us s1 zz82 => e23 zz82 fun vs H1 I1 r1 q1 => hc pins s1 σ H1 vs us Q I1 r1 q1) he hpl
end
end L2
namespace HT
open PySem PyProof.Rows
section
open PySem.SeqAt
open PySem.AutoSeq1 (wpAny_loadPart')
open PySem.MeetsSeq PySem.MeetsSeq2 PySem.MeetsSeq3
end
section
variable {prog : Program} {w : World} {A : Around} {E : Value → Shared → Prop} {s : Shared}
def sIx (n d : Nat) : Option Int → Nat
  | none => d
  | some v => if v < 0 then (v + (n : Int)).toNat else min v.toNat n
end
end HT
namespace L2
open PySem PySem.Spec PyProof.Rows
abbrev TO := St → Hp → (Option Int → Hp → Prop) → Prop
def PO (X : Cx) (e : Option Expr) (t : TO) : Prop :=
  ∀ (pins : List (Addr × Obj)) (s : Shared) (σ : St) (H : Hp) (Q : Option Int → Hp → Prop), Inv X pins σ H s → t σ H Q →
    wpAny (model X.prog X.w) X.A (evalPart e X.env) (fun u s' => ∃ o H', Inv X pins σ H' s' ∧ IsPart u o ∧ Q o H') X.xe s
def qqz_ : TO := fun _ H Q => Q none H
def qwc_ (t : TE) : TO := fun σ H Q => t σ H fun x H1 => ∃ i, x = .int i ∧ Q (some i) H1
section
variable {X : Cx} {e : Expr} {te : TE} {lo hi : Option Expr} {tl th : TO} {pos p2 : Pos}
theorem qo5_ : PO X none qqz_ := by
  intro pins s σ H Q I h
  rw [evalPart_none]
  exact wpAny_pure ⟨none, H, I, .none, h⟩
theorem qq4_ (h : PE X e te) : PO X (some e) (qwc_ te) := by
  intro pins s σ H Q I hw
  rw [evalPart_some]
  refine thn (h pins s σ H _ I hw) fun u s1 zz83 => e23 zz83 fun x H1 I1 r1 q1 => ?_
  obtain ⟨i, rfl, q⟩ := q1
  obtain ⟨t, rfl⟩ := r1
  exact ⟨some i, H1, I1, .int i t, q⟩
def SlR (X : Cx) (r : V → Option Int → Option Int → Hp → VK → Prop) : Prop :=
  ∀ (pins : List (Addr × Obj)) (s : Shared) (σ : St) (H : Hp) (x : V) (v vl vu : Value) (lo hi : Option Int) (sl : Addr) (Q : VK), Inv X pins σ H s → RelV x v → s.heap.IsSliceOf sl vl vu .none → IsPart vl lo → IsPart vu hi → r x lo hi H Q →
    ∃ T id, typeLookup (.type T) "__getitem__" = pure (some (.builtin id)) ∧ s.TypeIs v T ∧ wpAny (model X.prog X.w) X.A (getItem v (.ref sl)) (EP X pins σ Q) X.xe s
def tSl (r : V → Option Int → Option Int → Hp → VK → Prop) (te : TE) (tl th : TO) : TE := fun σ H Q => te σ H fun x H1 => tl σ H1 fun l H2 => th σ H2 fun u H3 => r x l u H3 Q
theorem qmx_ {r : V → Option Int → Option Int → Hp → VK → Prop} (hr : SlR X r) (he : PE X e te) (hl : PO X lo tl) (hu : PO X hi th) : PE X (.Subscript e (.Slice lo hi none p2) pos) (tSl r te tl th) := by
  intro pins s σ H Q I h
  refine Subscript_ (thn (he pins s σ H _ I h) fun v s1 zz84 => e23 zz84 fun x H1 I1 r1 q1 => ?_)
  refine wpAny_Slice (thn (hl pins s1 σ H1 _ I1 q1) fun vl s2 zz85 => e23 zz85 fun l H2 I2 pl q2 => thn (hu pins s2 σ H2 _ I2 q2) fun vu s3 zz86 => e23 zz86 fun u H3 I3 pu q3 => ?_)
  rw [evalPart_none]
  refine wpAny_pure ?_
  have I4 : Inv X pins σ H3 { s3 with heap := s3.heap.push { cls := .type "slice", data := .fields #[vl, vu, .none] } } := I3.kept (t' := s3.toks) fun b ob q => Heap.get?_push_of_some _ q
  obtain ⟨T, id, hT, ht, hg⟩ := hr pins { s3 with heap := s3.heap.push { cls := .type "slice", data := .fields #[vl, vu, .none] } } σ H3 x v vl vu l u s3.heap.objs.size Q I4 r1 (Heap.IsSliceOf.new ..) pl pu q3
  show wpAny (model X.prog X.w) X.A (subscriptTail e (.Slice lo hi none p2) v (.ref s3.heap.objs.size)) (EP X pins σ Q) X.xe { s3 with heap := s3.heap.push { cls := .type "slice", data := .fields #[vl, vu, .none] } }
  exact tail_any (ops := [.ref s3.heap.objs.size, v]) ht hT hg (by with_unfolding_all rfl)
def cutV (xs : List V) (lo hi : Option Int) : List V := (xs.drop (HT.sIx xs.length 0 lo)).take (HT.sIx xs.length xs.length hi - HT.sIx xs.length 0 lo)
theorem qh8_ (xs : List V) (lo hi : Option Int) : (cutV xs lo hi).length ≤ xs.length := by
  unfold cutV
  rw [List.length_take, List.length_drop]
  omega
end
end L2
namespace L2
open PySem PySem.Spec PyProof.Rows
def ixN (n : Nat) (i : Int) : Option Nat := if 0 ≤ i then (if i < n then some i.toNat else none) else if -(n : Int) ≤ i then some (i + n).toNat else none
def atI {α : Type} (xs : List α) (i : Int) : Option α := (ixN xs.length i).bind fun j => xs[j]?
theorem ql9_ {n : Nat} {i : Int} {j : Nat} (h : ixN n i = some j) : seqIndex? i n = some j ∧ j < n ∧ -(n : Int) ≤ i ∧ i < n := by
  unfold ixN at h
  by_cases h0 : 0 ≤ i
  · rw [if_pos h0] at h
    by_cases h1 : i < n
    · rw [if_pos h1] at h
      have e : i.toNat = j := Option.some.inj h
      exact ⟨by rw [seqIndex_of h0 h1, e], by omega, by omega, h1⟩
    · rw [if_neg h1] at h; cases h
  · rw [if_neg h0] at h
    by_cases h1 : -(n : Int) ≤ i
    · rw [if_pos h1] at h
      have e : (i + n).toNat = j := Option.some.inj h
      exact ⟨by rw [seqIndex_neg (by omega) h1, e], by omega, h1, by omega⟩
    · rw [if_neg h1] at h; cases h
theorem qh0_ {α : Type} {xs : List α} {i : Int} {v : α} (h : atI xs i = some v) : ∃ j, seqIndex? i xs.length = some j ∧ xs[j]? = some v ∧ j < xs.length ∧ -(xs.length : Int) ≤ i ∧ i < xs.length := by
  unfold atI at h
  cases e : ixN xs.length i with
  | none => rw [e] at h; cases h
  | some j =>
    rw [e] at h
    obtain ⟨h1, h2, h3, h4⟩ := ql9_ e
    exact ⟨j, h1, h, h2, h3, h4⟩
def qe8_ (b : Expr) : Prop := ∀ o i, subscripted b false o i = operate [o, i] (getItem o i)
def IxR (X : Cx) (r : R2) : Prop :=
  ∀ (value slice : Expr) (pins : List (Addr × Obj)) (s : Shared) (σ : St) (H : Hp) (x y : V) (v u : Value) (Q : VK), Inv X pins σ H s → RelV x v → RelV y u → r x y H Q →
    subscripted slice false v u = operate [v, u] (getItem v u) → wpAny (model X.prog X.w) X.A (subscriptTail value slice v u) (EP X pins σ Q) X.xe s
def MtR (X : Cx) (id : String) (r : V → List V → Hp → VK → Prop) : Prop :=
  ∀ (pins : List (Addr × Obj)) (s : Shared) (σ : St) (H : Hp) (x : V) (xs : List V) (v : Value) (us : List Value) (Q : VK), Inv X pins σ H s → RelV x v → Vals xs us → r x xs H Q →
    wpAny (model X.prog X.w) X.A (call (.builtin id) (v :: us)) (EP X pins σ Q) X.xe s
section
variable {X : Cx} {a b : Expr} {ta tb : TE} {pos : Pos}
theorem IxR.or {r r' : R2} (h : IxR X r) (h' : IxR X r') : IxR X (fun x y H Q => r x y H Q ∨ r' x y H Q) := by
  intro value slice pins s σ H x y v u Q I rx ry q hs
  rcases q with q | q
  · exact h value slice pins s σ H x y v u Q I rx ry q hs
  · exact h' value slice pins s σ H x y v u Q I rx ry q hs
theorem qnp_ {r : R2} (hr : IxR X r) (ha : PE X a ta) (hb : PE X b tb) (hs : qe8_ b) : PE X (.Subscript a b pos) (tOp r ta tb) := by
  intro pins s σ H Q I h
  exact Subscript_ (binT ha hb I h fun v u s2 x y H2 I2 rx ry q => hr a b pins s2 σ H2 x y v u Q I2 rx ry q (hs _ _))
def rIxL (K : PySem.W.Frag) : R2 := fun x y H Q => ∃ p xs i v, x = .ref p ∧ y = .int i ∧ SqL K H p xs ∧ atI xs i = some v ∧ Q v H
def rIxT (K : PySem.W.Frag) : R2 := fun x y H Q => ∃ p xs i v, x = .ref p ∧ y = .int i ∧ SqT K H p xs ∧ atI xs i = some v ∧ Q v H
def rIxS : R2 := fun x y H Q => ∃ z i c, x = .str z ∧ y = .int i ∧ z.length ≤ sizeLine ∧ atI z.cps.toList i = some c ∧ Q (.str ⟨#[c]⟩) H
theorem ix_list : IxR X (rIxL X.K) := by
  intro value slice pins s σ H x y v u Q I rx ry h hs
  obtain ⟨p, xs, i, z, rfl, rfl, hq, he, q⟩ := h
  cases rx
  obtain ⟨t, rfl⟩ := ry
  obtain ⟨its, r, pl, hz⟩ := I.list hq
  obtain ⟨j, h1, h2, h3, h4, h5⟩ := qh0_ he
  obtain ⟨w, ew, rw'⟩ := r.get h2
  have hl := r.length
  have hn := qg9_
  have fin : EP X pins σ Q w s := ⟨z, H, I, rw', q⟩
  by_cases h0 : 0 ≤ i
  · have hj : i.toNat = j := by
      rw [seqIndex_of h0 h5] at h1
      exact Option.some.inj h1
    exact item_listR pl.isList h0 (by omega) (by rw [hj]; simpa using ew) fin hs
  · have hj : (i + (its.toArray.size : Int)).toNat = j := by
      rw [seqIndex_neg (by omega) h4] at h1
      rw [List.size_toArray, ← hl]
      exact Option.some.inj h1
    exact subscriptTail_builtinR (x := w) pl.isList.typeIs slot_list_getitem.lookup
      (wpAny_getItem_list_neg (Q := fun r s' => r = w ∧ EP X pins σ Q r s') pl.isList (by omega) (by rw [List.size_toArray] <;> omega) (by omega) (by rw [hj]; simpa using ew) ⟨rfl, fin⟩) hs
theorem ix_tup : IxR X (rIxT X.K) := by
  intro value slice pins s σ H x y v u Q I rx ry h hs
  obtain ⟨p, xs, i, z, rfl, rfl, hq, he, q⟩ := h
  cases rx
  obtain ⟨t, rfl⟩ := ry
  obtain ⟨its, r, pl, hz⟩ := I.tuple hq
  obtain ⟨j, h1, h2, h3, h4, h5⟩ := qh0_ he
  obtain ⟨w, ew, rw'⟩ := r.get h2
  have hl := r.length
  have hn := qg9_
  have fin : EP X pins σ Q w s := ⟨z, H, I, rw', q⟩
  exact subscriptTail_builtinR (x := w) pl.typeIs slot_tuple_getitem.lookup
    (getItem_tuple (j := j) (Q := fun r s' => r = w ∧ EP X pins σ Q r s') pl (by omega) (by omega) (by rw [List.size_toArray, ← hl]; exact h1) (by simpa using ew) ⟨rfl, fin⟩) hs
theorem qtb_ : IxR X rIxS := by
  intro value slice pins s σ H x y v u Q I rx ry h hs
  obtain ⟨z, i, c, rfl, rfl, hz, he, q⟩ := h
  obtain ⟨t, rfl⟩ := rx
  obtain ⟨t', rfl⟩ := ry
  obtain ⟨j, h1, h2, h3, h4, h5⟩ := qh0_ he
  have hl : z.cps.toList.length = z.length := by simp [Str.length]
  rw [hl] at h1 h4 h5
  have hn := qg9_
  exact tail_any (typeIs_str s z t) slot_str_getitem.lookup (getItem_str (c := c) (by
    have e1 : decide (i < -(2 ^ 63 : Int)) = false := decide_eq_false (by omega)
    have e2 : decide (i ≥ 2 ^ 63) = false := decide_eq_false (by omega)
    rw [e1, e2, Bool.or_false]) (by rw [h1]; simpa using h2) ⟨.str ⟨#[c]⟩, H, I.tok _, ⟨_, rfl⟩, q⟩) hs
def rIx (K : PySem.W.Frag) : R2 := fun x y H Q => rIxL K x y H Q ∨ rIxT K x y H Q ∨ rIxS x y H Q
theorem qil_ : IxR X (rIx X.K) := ix_list.or (ix_tup.or qtb_)
theorem qjs_ (its : List Value) (n j : Nat) (u : Value) : Obj.mapSeq (·.setIfInBounds j u) { cls := .type "list", data := .seq its.toArray n } = { cls := .type "list", data := .seq (its.set j u).toArray n } := by
  simp [Obj.mapSeq]
theorem Inv.lst {pins : List (Addr × Obj)} {σ : St} {H : Hp} {s : Shared} {p : Addr} {xs : List V} (I : Inv X pins σ H s) (h : H p = some (.lst xs)) :
    ∃ (its : List Value) (n : Nat), Vals xs its ∧ s.heap.get? p = some { cls := .type "list", data := .seq its.toArray n } ∧ xs.length ≤ sizeLine := by
  obtain ⟨z, its, n, r, e⟩ := I.hok p _ h
  exact ⟨its, n, r, e, z⟩
theorem Inv.lstUpd {pins : List (Addr × Obj)} {σ : St} {H : Hp} {s : Shared} {p : Addr} {xs ys : List V} {its its' : List Value} {n n' : Nat} {f : Obj → Obj} (I : Inv X pins σ H s) (h : H p = some (.lst xs))
    (ho : s.heap.get? p = some { cls := .type "list", data := .seq its.toArray n }) (hf : f { cls := .type "list", data := .seq its.toArray n } = { cls := .type "list", data := .seq its'.toArray n' }) (r : Vals ys its') (hz : ys.length ≤ sizeLine) (t : Nat) :
    Inv X pins σ (upd H p (.lst ys)) { s with heap := s.heap.update p f, toks := t } := by
  have e : (s.heap.update p f).get? p = some { cls := .type "list", data := .seq its'.toArray n' } := by
    rw [Heap.get?_update_self f ho (by rw [hf] <;> rfl), hf]
  refine I.write (x := p) (e := p) (by rw [h]; trivial) (.inl rfl) (fun b u hb q => (Heap.get?_update_other _ _ (Ne.symm hb)).trans q) ⟨_, e⟩ ?_
  exact ⟨hz, its', n', r, e⟩
def qud_ : V → V → V → Hp → (Hp → Prop) → Prop := fun o i v H Q => ∃ p xs k j, o = .ref p ∧ i = .int k ∧ H p = some (.lst xs) ∧ ixN xs.length k = some j ∧ Q (upd H p (.lst (xs.set j v)))
theorem qna_ : PSet X qud_ := by
  intro pins s σ H o i v ov iv u Q I ro ri rv h
  obtain ⟨p, xs, k, j, rfl, rfl, hp, hj, q⟩ := h
  cases ro
  obtain ⟨t, rfl⟩ := ri
  obtain ⟨its, n, r, ho, hz⟩ := I.lst hp
  obtain ⟨h1, h2, h3, h4⟩ := ql9_ hj
  have hl := r.length
  have hn := qg9_
  have I' : Inv X pins σ (upd H p (.lst (xs.set j v))) { s with heap := s.heap.update p (Obj.mapSeq (·.setIfInBounds j u)) } :=
    I.lstUpd hp ho (qjs_ its n j u) (r.set rv j) (by rw [List.length_set]; exact hz) s.toks
  by_cases h0 : 0 ≤ k
  · have hk : k.toNat = j := by
      rw [seqIndex_of h0 h4] at h1
      exact Option.some.inj h1
    exact PySem.W.ki_setAt ho h0 (by omega) (by rw [List.size_toArray, ← hl]; exact h4) (by rw [hk]; exact ⟨_, I', q⟩)
  · have hk : (k + (its.toArray.size : Int)).toNat = j := by
      rw [seqIndex_neg (by omega) h3] at h1
      rw [List.size_toArray, ← hl]
      exact Option.some.inj h1
    exact PySem.W.ki_setBack ho (by omega) (by rw [List.size_toArray, ← hl]; exact h3) (by omega) (by rw [hk]; exact ⟨_, I', q⟩)
theorem qg3_ (lo hi : Option Int) (n : Nat) : (sliceBounds lo hi none n).1 = ((HT.sIx n 0 lo : Nat) : Int) ∧ (sliceBounds lo hi none n).2.1 = ((HT.sIx n n hi : Nat) : Int) ∧ (sliceBounds lo hi none n).2.2 = 1 := by
  refine ⟨?_, ?_, rfl⟩
  · cases lo with
    | none => simp [sliceBounds, HT.sIx]
    | some i =>
      simp only [sliceBounds, HT.sIx, Option.getD_none, show (1 : Int) > 0 by decide, if_true]
      by_cases h : i < 0
      · simp only [h, if_true] <;> omega
      · simp only [h, if_false] <;> omega
  · cases hi with
    | none => simp [sliceBounds, HT.sIx]
    | some i =>
      simp only [sliceBounds, HT.sIx, Option.getD_none, show (1 : Int) > 0 by decide, if_true]
      by_cases h : i < 0
      · simp only [h, if_true] <;> omega
      · simp only [h, if_false] <;> omega
theorem qf6_ (its : List Value) (lo hi : Option Int) : slicePick its.toArray lo hi none = ((its.drop (HT.sIx its.length 0 lo)).take (HT.sIx its.length its.length hi - HT.sIx its.length 0 lo)).toArray := by
  obtain ⟨h1, h2, h3⟩ := qg3_ lo hi its.toArray.size
  unfold slicePick
  rw [h1, h2, h3]
  simp only [sliceRange_one, pick_run, List.size_toArray] <;> rfl
def rSlL (K : PySem.W.Frag) : V → Option Int → Option Int → Hp → VK → Prop := fun x lo hi H Q => ∃ a xs, x = .ref a ∧ SqL K H a xs ∧ ∀ p, H p = none → Q (.ref p) (upd H p (.lst (cutV xs lo hi)))
theorem qpj_ : SlR X (rSlL X.K) := by
  intro pins s σ H x v vl vu lo hi sl Q I rx hs pl pu h
  obtain ⟨a, xs, rfl, hx, q⟩ := h
  cases rx
  obtain ⟨its, r, ht, hz⟩ := I.list hx
  have hlen := r.length
  refine ⟨"list", _, slot_list_getitem.lookup, ht.isList.typeIs, ?_⟩
  refine wpAny_getItem_list_slice ht.isList hs pl pu .none (by simp) ?_ (by rw [List.size_toArray] <;> omega)
  rw [qf6_, ← hlen]
  refine ⟨.ref s.heap.objs.size, _, I.laid (t' := s.toks) (o := .lst (cutV xs lo hi)) (fun b ob q => Heap.get?_push_of_some _ q) (Nat.le_refl _) ?_, rfl, q _ (I.hok.fresh (Nat.le_refl _))⟩
  exact ⟨Nat.le_trans (qh8_ xs lo hi) hz, _, 0, (r.drop (HT.sIx xs.length 0 lo)).take (HT.sIx xs.length xs.length hi - HT.sIx xs.length 0 lo), Heap.get?_push_size _ rfl⟩
theorem qc2_ : qdt_ X (.builtin "len") (fun xs H Q => ∃ p ys, xs = [.ref p] ∧ (SqL X.K H p ys ∨ SqT X.K H p ys) ∧ Q (.int ys.length) H) := by
  intro pins s σ H xs us Q I r h
  obtain ⟨p, ys, rfl, hq, q⟩ := h
  obtain ⟨u, rfl, rx⟩ := qfx_ r
  cases rx
  have hn := qg9_
  rcases hq with hq | hq
  · obtain ⟨its, r', pl, hz⟩ := I.list hq
    have hlen := r'.length
    exact Calls.call_len_list pl.isList (by simp only [List.size_toArray] <;> omega) ⟨.int ys.length, H, I.tok _, ⟨s.toks + 1, by rw [List.size_toArray, hlen]⟩, q⟩
  · obtain ⟨its, r', pl, hz⟩ := I.tuple hq
    have hlen := r'.length
    exact len_tuple pl (by simp only [List.size_toArray] <;> omega) ⟨.int ys.length, H, I.tok _, ⟨s.toks + 1, by rw [List.size_toArray, hlen]⟩, q⟩
theorem qgx_ : qdt_ X (.type "list") (fun xs H Q => ∃ p ys, xs = [.ref p] ∧ (SqL X.K H p ys ∨ SqT X.K H p ys) ∧ ∀ l, H l = none → Q (.ref l) (upd H l (.lst ys))) := by
  intro pins s σ H xs us Q I r h
  obtain ⟨p, ys, rfl, hq, q⟩ := h
  obtain ⟨u, rfl, rx⟩ := qfx_ r
  cases rx
  have fin : ∀ (its : List Value), Vals ys its → ys.length ≤ sizeLine → ∀ (h' : Heap) (c' : Nat), (∀ b o', s.heap.get? b = some o' → h'.get? b = some o') →
      h'.get? s.heap.objs.size = some { cls := .type "list", dict := none, data := .seq its.toArray c', slots := #[] } → EP X pins σ Q (.ref s.heap.objs.size) { s with heap := h' } := fun its r' hz h' c' kp e =>
    ⟨.ref s.heap.objs.size, _, I.laid (t' := s.toks) kp (Nat.le_refl _) (show ObjOk X.prog X.w _ h' _ (.lst ys) from ⟨hz, its, c', r', e⟩), rfl, q _ (I.hok.fresh (Nat.le_refl _))⟩
  rcases hq with hq | hq
  · obtain ⟨its, r', pl, hz⟩ := I.list hq
    have hlen := r'.length
    obtain ⟨o, ho, hc, n, hd⟩ := pl.isList
    exact call_list_seq p (.inl rfl) ho hc hd (fun h' c' kp e => fin its r' hz h' c' kp e) (by simp only [List.size_toArray] <;> omega)
  · obtain ⟨its, r', pl, hz⟩ := I.tuple hq
    have hlen := r'.length
    obtain ⟨o, ho, hc, n, hd⟩ := pl
    exact call_list_seq p (.inr rfl) ho hc hd (fun h' c' kp e => fin its r' hz h' c' kp e) (by simp only [List.size_toArray] <;> omega)
theorem qf0_ : qdt_ X (.type "tuple") (fun xs H Q => ∃ p ys, xs = [.ref p] ∧ ((SqL X.K H p ys ∧ ∀ l, H l = none → Q (.ref l) (upd H l (.tup ys))) ∨ (SqT X.K H p ys ∧ Q (.ref p) H))) := by
  intro pins s σ H xs us Q I r h
  obtain ⟨p, ys, rfl, h⟩ := h
  obtain ⟨u, rfl, rx⟩ := qfx_ r
  cases rx
  rcases h with ⟨hq, q⟩ | ⟨hq, q⟩
  · obtain ⟨its, r', pl, hz⟩ := I.list hq
    have hlen := r'.length
    refine call_tuple_list pl.isList (fun h' kp => ?_) (by simp only [List.size_toArray] <;> omega)
    have I1 : Inv X pins σ H { s with heap := h' } := I.kept (t' := s.toks) kp
    have I2 : Inv X pins σ (upd H h'.objs.size (.tup ys)) { s with heap := h'.push { cls := .type "tuple", data := .seq its.toArray } } :=
      I1.laid (t' := s.toks) (fun b o e => Heap.get?_push_of_some _ e) (Nat.le_refl _) (show ObjOk X.prog X.w _ _ _ (.tup ys) from ⟨hz, its, r', IsTup.new _ _⟩)
    exact ⟨.ref h'.objs.size, _, I2, rfl, q _ (I1.hok.fresh (Nat.le_refl _))⟩
  · obtain ⟨its, r', pl, hz⟩ := I.tuple hq
    exact call_tuple_same pl ⟨.ref p, H, I, rfl, q⟩
def tyV (K : PySem.W.Frag) (T : String) (x : V) (H : Hp) : Prop := match x with
  | .str _ => T = "str"
  | .int _ => T = "int"
  | .ref p => (T = "list" ∧ ∃ xs, SqL K H p xs) ∨ (T = "tuple" ∧ ∃ o, K.lookup p = some o ∧ o.cls = .type "tuple" ∧ o.dict = none) ∨
      (T = "dict" ∧ ((∃ kvs, H p = some (.dK kvs)) ∨ ∃ kvs, H p = some (.dT kvs))) ∨ (T = "set" ∧ ∃ S n, H p = some (.set S n))
  | _ => False
theorem qt1_ {pins : List (Addr × Obj)} {σ : St} {H : Hp} {s : Shared} {T : String} {x : V} {v : Value} (I : Inv X pins σ H s) (r : RelV x v) (ty : tyV X.K T x H) :
    s.TypeIs v T ∧ ∀ a, v = .ref a → ∃ ob, s.heap.get? a = some ob ∧ ob.dict = none := by
  cases x with
  | str z =>
    obtain ⟨t, rfl⟩ := r
    cases (show T = "str" from ty)
    exact ⟨typeIs_str s z t, fun _ e => nomatch e⟩
  | int i =>
    obtain ⟨t, rfl⟩ := r
    cases (show T = "int" from ty)
    exact ⟨typeIs_int s i t, fun _ e => nomatch e⟩
  | ref p =>
    cases r
    rcases ty with ⟨rfl, xs, hq⟩ | ⟨rfl, o, hk, hc, hd⟩ | ⟨rfl, hk⟩ | ⟨rfl, S, n, hk⟩
    · obtain ⟨its, _, pl, _⟩ := I.list hq
      refine ⟨pl.isList.typeIs, fun a e => ?_⟩
      cases e
      obtain ⟨o, n, e, c, hd, _⟩ := pl
      exact ⟨o, e, hd⟩
    · refine ⟨⟨o, I.kIn p o hk, hc⟩, fun a e => ?_⟩
      cases e
      exact ⟨o, I.kIn _ o hk, hd⟩
    · have z : ∃ o, s.heap.get? p = some o ∧ o.ExactDict := by
        rcases hk with ⟨kvs, hk⟩ | ⟨kvs, hk⟩
        · obtain ⟨_, _, _, _, o, _, _, e, ex, _⟩ := I.hok p _ hk
          exact ⟨o, e, ex⟩
        · obtain ⟨_, _, _, _, o, _, _, e, ex, _⟩ := I.hok p _ hk
          exact ⟨o, e, ex⟩
      obtain ⟨o, e, ex⟩ := z
      refine ⟨⟨o, e, ex.1⟩, fun a e2 => ?_⟩
      cases e2
      exact ⟨o, e, ex.2.1⟩
    · obtain ⟨o, _, _, _, e, ex, _⟩ := I.hok p _ hk
      refine ⟨⟨o, e, ex.1⟩, fun a e2 => ?_⟩
      cases e2
      exact ⟨o, e, ex.2.1⟩
  | _ => exact False.elim ty
def tBM (K : PySem.W.Frag) (T : String) (r : V → List V → Hp → VK → Prop) (to : TE) (t : TA) : TE := fun σ H Q => to σ H fun x H1 => tyV K T x H1 ∧ t σ H1 fun xs H2 => r x xs H2 Q
variable {o e : Expr} {es : List Expr} {to : TE} {t : TA} {name : Str} {apos cpos : Pos} {T id : String} {r : V → List V → Hp → VK → Prop}
theorem qp0_ (pa : PlainAttrs T) (slot : Slot T name id) (hty : typeOf (.builtin id) = pure (.type "method_descriptor")) (hm : MtR X id r) (ho : PE X o to) (ha : PA X (e :: es) t)
    (hbase : attributeBase o name X.env (eval o X.env) = eval o X.env := by rfl)
    (hfew : ((backTo cpos (starEach (e :: es) X.env)).all (fun x => !x.1) && (backToKw cpos (keywordEach [] X.env)).all (fun x => x.1.isSome)
      && decide ((e :: es).length + ([] : List Keyword).length + (if ([] : List Keyword).isEmpty then 0 else 1) < 30)) = true := by rfl)
    (hline : (apos.endLine == cpos.line) = true := by rfl) (hs : starEach (e :: es) X.env = (false, eval e X.env) :: starEach es X.env := by rfl) (hplain : (backTo cpos (starEach es X.env)).any (·.1) = false := by rfl) :
    PE X (.Call (.Attribute o name apos) (e :: es) [] cpos) (tBM X.K T r to t) := by
  intro pins s σ H Q I h
  refine wpAny_Call_method_late hbase hfew hline rfl (thn (ho pins s σ H _ I h) fun v s1 zz88 => e24 zz88 fun x H1 I1 r1 ty q1 => ?_)
  obtain ⟨h1, h2⟩ := qt1_ I1 r1 ty
  refine ⟨T, id, pa, slot, hty, h1, h2, ?_⟩
  have hA := ha cpos pins s1 σ H1 _ I1 q1
  rw [hs] at hA ⊢
  refine Calls.callWith_builtin (by show (false || (backTo cpos (starEach es X.env)).any (·.1)) = false; rw [hplain] <;> rfl) (Calls.evalArgs_plain ?_)
  exact thn hA fun us s2 zz89 => e23 zz89 fun vs H2 I2 r2 q2 => hm pins s2 σ H2 x vs v us Q I2 r1 r2 q2
/- xs.append(e), list.index on a module's tuple .. are MtR facts of 06m -/
end
end L2
namespace L2
open PySem PySem.Spec PyProof.Rows
def MtM (X : Cx) (id : String) (r : V → List V → Hp → VK → Prop) : Prop :=
  ∀ (pins : List (Addr × Obj)) (s : Shared) (σ : St) (H : Hp) (x : V) (xs : List V) (v : Value) (us : List Value) (Q : VK), Inv X pins σ H s → RelV x v → Vals xs us → r x xs H Q →
    wpAny (model X.prog X.w) X.A (call (.builtin id) (v :: us)) (EP X pins σ Q) X.xe s
theorem Vals.one : ∀ {x : V} {us : List Value}, Vals [x] us → ∃ u, us = [u] ∧ RelV x u
  | _, _, .cons r .nil => ⟨_, rfl, r⟩
section
variable {X : Cx} {pins : List (Addr × Obj)} {σ : St} {H : Hp} {s : Shared} {l b : Addr} {xs ys zs : List V}
theorem Inv.lset {its its' : List Value} {n : Nat} {f : Array Value → Array Value} {t' : Nat} (I : Inv X pins σ H s) (hH : H l = some (.lst xs))
    (e : s.heap.get? l = some { cls := .type "list", data := .seq its.toArray n }) (hf : f its.toArray = its'.toArray) (hv : Vals ys its') (hz : ys.length ≤ sizeLine) :
    Inv X pins σ (upd H l (.lst ys)) { s with heap := s.heap.update l (Obj.mapSeq f), toks := t' } := by
  have q := PySem.IsL.update e f
  rw [hf] at q
  refine I.write (x := l) (e := l) (by rw [hH]; exact trivial) (.inl rfl) (fun b' u hb hu => (Heap.get?_update_other s.heap (Obj.mapSeq f) (Ne.symm hb)).trans hu) ⟨_, q⟩ ?_
  exact ⟨hz, its', _, hv, q⟩
theorem Inv.lnew {its : List Value} {t' : Nat} (I : Inv X pins σ H s) (hv : Vals ys its) (hz : ys.length ≤ sizeLine) :
    Inv X pins σ (upd H s.heap.objs.size (.lst ys)) { s with heap := s.heap.push { cls := .type "list", data := .seq its.toArray }, toks := t' } :=
  I.laid (fun _ _ q => Heap.get?_push_of_some _ q) (Nat.le_refl _) ⟨hz, its, 0, hv, Heap.get?_push_size _ rfl⟩
theorem Inv.fresh (I : Inv X pins σ H s) : H s.heap.objs.size = none := I.hok.fresh (Nat.le_refl _)
theorem Inv.lstM (I : Inv X pins σ H s) (hH : H l = some (.lst xs)) : xs.length ≤ sizeLine ∧ ∃ (its : List Value) (n : Nat), Vals xs its ∧ xs.length = its.length ∧ s.heap.get? l = some { cls := .type "list", data := .seq its.toArray n } := by
  obtain ⟨z, its, n, r, e⟩ := I.hok l _ hH
  exact ⟨z, its, n, r, r.length, e⟩
theorem qm9_ {n : Nat} (h : n ≤ sizeLine) : Builtin.List.listTooLong n = false := by
  unfold Builtin.List.listTooLong
  exact decide_eq_false (by omega)
end
section
variable {X : Cx}
def qlr_ : V → List V → Hp → VK → Prop := fun x vs H Q => ∃ l xs y, x = .ref l ∧ vs = [y] ∧ H l = some (.lst xs) ∧ xs.length < sizeLine ∧ Q .non (upd H l (.lst (xs ++ [y])))
theorem qfa_ : MtM X "list.append" qlr_ := by
  intro pins s σ H x vs v us Q I rx rv h
  obtain ⟨l, xs, y, rfl, rfl, hH, hz, q⟩ := h
  cases rx
  obtain ⟨u, rfl, ru⟩ := rv.one
  obtain ⟨z, its, n, r, hl, e⟩ := I.lstM hH
  refine call_meets F.slot_list_append ⟨_, e, rfl⟩ F.entry_list_append (F.args_list_append_2 _ _) (PySem.list_append l its.toArray n u (by rw [List.size_toArray]; omega)) ⟨e, ?_⟩
  refine ⟨.non, _, I.lset (its' := its ++ [u]) hH e (by simp) (r.append (.cons ru .nil)) ?_, rfl, q⟩
  rw [List.length_append, List.length_singleton]
  omega
def qqm_ : V → List V → Hp → VK → Prop := fun x vs H Q => ∃ l b xs zs, x = .ref l ∧ vs = [.ref b] ∧ H l = some (.lst xs) ∧ H b = some (.lst zs) ∧ xs.length + zs.length ≤ sizeLine ∧ Q .non (upd H l (.lst (xs ++ zs)))
theorem qkc_ : MtM X "list.extend" qqm_ := by
  intro pins s σ H x vs v us Q I rx rv h
  obtain ⟨l, b, xs, zs, rfl, rfl, hH, hB, hz, q⟩ := h
  cases rx
  obtain ⟨u, rfl, ru⟩ := rv.one
  cases ru
  obtain ⟨z, its, n, r, hl, e⟩ := I.lstM hH
  obtain ⟨z2, its2, n2, r2, hl2, e2⟩ := I.lstM hB
  have hsz : its.toArray.size + its2.toArray.size ≤ sizeLine := by rw [List.size_toArray, List.size_toArray]; omega
  have hlong : ¬ (!its.toArray.isEmpty && Builtin.List.listTooLong (its.toArray.size + its2.toArray.size)) = true := by
    rw [qm9_ hsz, Bool.and_false]
    exact Bool.false_ne_true
  refine call_meets F.slot_list_extend ⟨_, e, rfl⟩ F.entry_list_extend (F.args_list_extend_2 _ _)
    (AutoSeq1.list_extend_list_list_0 l its.toArray n b its2.toArray n2 hlong (by rw [List.size_toArray]; omega) (by omega)) ⟨e, e2, ?_⟩
  refine ⟨.non, _, I.lset (its' := its ++ its2) hH e (by simp) (r.append r2) ?_, rfl, q⟩
  rw [List.length_append]
  omega
end
section
variable {prog : Program} {w : World} {A : Around} {E : Value → Shared → Prop} {s : Shared}
theorem qrc_ {a c n : Nat} (hac : a ≤ c) (hc : c ≤ n) : sliceBounds (some (a : Int)) (some (c : Int)) none n = ((a : Int), (c : Int), 1) := by
  simp only [sliceBounds, Option.getD_none]
  have h1 : ¬ ((a : Int) < 0) := by omega
  have h2 : ¬ ((c : Int) < 0) := by omega
  simp only [h1, h2, if_false, show (1 : Int) > 0 by decide, if_true]
  congr 1
  · omega
  · congr 1; omega
end
section
variable {X : Cx}
end
end L2
namespace Att
open PySem PySem.W PySem.Calls PyProof.Rows
theorem qe3_ {P : Params} {h : Heap} : ∀ (ns : List Int) (vs : List Value), WellAll P h vs (ns.map WData.int) → IntsAre vs ns := by
  intro ns
  induction ns with
  | nil =>
    intro vs w
    rw [List.map_nil] at w
    cases w
    exact .nil
  | cons n ns ih =>
    intro vs w
    rw [List.map_cons] at w
    cases w with
    | cons a b =>
      cases a
      exact .cons _ _ (ih _ b)
theorem qlb_ {l : OpenLaw} {n : Nat} (hn : l.most = some n) {P : Params} {h : Heap} {args : List WData} {vals : List Value}
    (hpre : l.row.toRowW.claim.pre args = true) (hwl : WellAll P h vals args) :
    ∃ a vs ns, vals = [Value.ref a] ∧ args = [WData.list (ns.map WData.int)] ∧ h.get? a = some { cls := .type "list", data := .seq vs.toArray } ∧ IntsAre vs ns ∧ ns.length ≤ n := by
  have hsh : WShape.hasAll [] args [.list .int] = true := (pre_splitW hpre).1
  have hc : l.pre.holds [] { args := args } = true := (pre_splitW hpre).2
  obtain ⟨d, r, rfl, h1, h2⟩ := hasAllW_cons hsh
  obtain rfl := hasAllW_nil h2
  obtain ⟨xs, rfl, h3⟩ := hasW_list h1
  obtain ⟨ns, rfl⟩ := items_int h3
  have hlen : ns.length ≤ n := by
    unfold OpenLaw.pre at hc
    have h4 : (WTm.not (.lt (.lit (.int (n : Int))) (.len (.arg 0)))).holds [] { args := [.list (ns.map .int)] } = true := by
      have h4 := (holds_andW hc).1
      rw [hn] at h4
      exact h4
    have h5 := condW_of h4 (w_not (w_lt w_lit (w_len_list (w_arg rfl))))
    rw [List.length_map] at h5
    refine Nat.le_of_not_lt fun q => ?_
    have q' : (n : Int) < ((ns.length : Nat) : Int) := by omega
    first
      | (rw [decide_eq_true q'] at h5; exact absurd h5 (by decide))
      | (simp at h5; omega)
  cases hwl with
  | cons w1 w2 =>
    cases w2
    cases w1 with
    | list ho hall => exact ⟨_, _, ns, rfl, rfl, ho, qe3_ ns _ hall, hlen⟩
theorem qko_ (l : OpenLaw) (args : List WData) : l.row.toRowW.claim.post args (.bool true) args = true :=
  postW_of (r := l.row.toRowW) (X := (true == true))
    (show WShape.has [] (.bool true) .bool = true by first | rfl | decide | simp [WShape.has, WShape.arms, WShape.armsAll])
    (show (WTm.eq .res (.lit (.bool true))).value [] { args := args, res := some (.bool true), after := args } = some (.bool (true == true)) from w_eq_bool (w_res rfl) w_lit) rfl
theorem attach_call {l : OpenLaw} {n : Nat} {q : Program} {loose : List Str} {XP : (Str → Option Value) → Heap → Prop} {YP : World → Heap → Prop} {d : DefRec}
    (hn : l.most = some n) (hdf : d.params.defaults = [])
    (call : ∀ (w : World) (s₀ s₁ : Shared) (mg mb : Str → Option Value) (fa : Addr) (o : Obj) (pm cd doc : Value) (a : Addr) (vs : List Value) (ns : List Int),
      Ground q loose [] XP w s₀ mg mb s₁.heap → YP w s₁.heap →
      s₁.heap.get? fa = some o → o.data = .func (docDef d.name d.params d.body d.scope pm cd doc) → s₁.heap.CodeRec cd d.name → mg d.name = some (.ref fa) →
      s₁.heap.get? a = some { cls := .type "list", data := .seq vs.toArray } → IntsAre vs ns → ns.length ≤ n → s₁.gens = #[] →
      codeAny (model l.prog w) callerA (.call (.ref fa) ⟨[.ref a], []⟩) (fun r s' => r = .ok (.ret (.bool true)) ∧ OldK s₁.heap s'.heap ∧ s'.os = s₁.os ∧ AllBare s'.gens) s₁) :
    WalkO q loose XP YP l.row.toRowW d [] (fun f vs => PySem.call f vs) := by
  intro w s₀ s₁ mg mb G Y fa o pm cd doc dV kV ho hd hcd hD hmg hg args vals as hpre hlay hrd hwl hlo
  obtain rfl : dV = .none := Dflts.none hD hdf
  obtain rfl : kV = .none := Dflts.noKw hD
  obtain ⟨a, vs, ns, rfl, rfl, hobj, hints, hlen⟩ := qlb_ hn hpre hwl
  refine enter_call (codeAny_mono (call w s₀ s₁ mg mb fa o pm cd doc a vs ns G Y ho (fd_plain hd) hcd hmg hobj hints hlen hg) fun r s' hq => ?_)
  obtain ⟨rfl, h2, h3, h4⟩ := hq
  exact ⟨.inl ⟨.bool true, .bool true, [], rfl, fun _ => rfl, .bool true, qko_ l _, fun _ => ⟨List.Pairwise.nil, fun _ hm => (nomatch hm)⟩⟩, h2, h3, h4⟩
section
variable {prog : Program} {w : World} {A : Around} {E : Value → Shared → Prop} {s : Shared} {K : Frag}
end
end Att
namespace L2
open PySem PySem.Spec PyProof.Rows
theorem qhd_ : ∀ {vs : List Value} {ns : List Int}, IntsAre vs ns → Vals (ns.map V.int) vs
  | _, _, .nil => .nil
  | _, _, .cons n t h => .cons ⟨t, rfl⟩ (qhd_ h)
def Only (H : Hp) : Prop := ∀ b, H b = none ∨ ∃ o xs, H b = some (.frz o (.lst xs))
theorem qnw_ {P : Program} {w : World} {K : PySem.W.Frag} {mg mb : Str → Option Value} {CX : CXT} {k : Nat} {fa a : Addr} {fd : FuncData} {x : Str} {sp : Sp} {s₁ : Shared} {vs : List Value} {ns : List Int}
    (KX : K.In s₁.heap) (hns : s₁.heap.Ns mainGlobals mg) (hb : s₁.heap.Ns builtinsNs mb) (hbb : ∀ x : Str, x ≠ "__name__" → mb x = bootBuiltins x) (hlim : s₁.heap.NoLimit) (hg : s₁.gens = #[])
    (ha : s₁.heap.get? a = some { cls := .type "list", data := .seq vs.toArray }) (hi : IntsAre vs ns) (hl : ns.length ≤ sizeLine) (hr : Room k callerA)
    (F : ∀ base : Heap, K.In base → base.Ns mainGlobals mg → FnOk P w K mg base CX k fa fd [x] sp) (hbind : ∀ (s : Shared) (u : Value), BindsTo s fd ⟨[u], []⟩ [(x, u)])
    (hsp : ∀ H : Hp, Only H → SqL K H a (ns.map V.int) → sp [.ref a] H (fun v _ => v = .bl true) fun _ _ _ => False)
    (hCX : ∀ H e s', CX [] H s₁ (fun _ _ _ => False) e s' → False) :
    codeAny (model P w) callerA (.call (.ref fa) ⟨[.ref a], []⟩) (fun r s' => r = .ok (.ret (.bool true)) ∧ OldK s₁.heap s'.heap ∧ s'.os = s₁.os ∧ AllBare s'.gens) s₁ := by
  have rv := qhd_ hi
  have lenV := hi.length
  -- from an abstract heap in which nothing but the script may be tracked
  have core : ∀ H : Hp, Only H → SqL K H a (ns.map V.int) → HOk P w H s₁.heap → (∀ b, H b ≠ none → b = a) → (H a ≠ none → K.lookup a = none) →
      codeAny (model P w) callerA (.call (.ref fa) ⟨[.ref a], []⟩) (fun r s' => r = .ok (.ret (.bool true)) ∧ OldK s₁.heap s'.heap ∧ s'.os = s₁.os ∧ AllBare s'.gens) s₁ := by
    intro H hO hS hok hA hK
    have base_of : ∀ {b : Addr} {o : Obj}, s₁.heap.get? b = some o → H b = none → (hidT s₁.heap H).get? b = some o := fun e n => qnn_ e n
    have noA : ∀ {b : Addr} {o : Obj} {es : Array DictEntry} {ep : Nat}, s₁.heap.get? b = some o → o.data = .dict es ep → H b = none := fun {b o es ep} e d => by
      cases q : H b with
      | none => rfl
      | some u =>
        have e' : b = a := hA b (by rw [q]; simp)
        subst e'
        rw [ha] at e; cases e
        have d' : Data.seq vs.toArray _ = Data.dict es ep := d
        cases d'
    have nsK : ∀ {b : Addr} {m : Str → Option Value}, s₁.heap.Ns b m → (hidT s₁.heap H).Ns b m := fun {b m} ⟨o, es, ep, e, d, r⟩ => ⟨o, es, ep, base_of e (noA e d), d, r⟩
    have hKb : K.In (hidT s₁.heap H) := fun b o e => base_of (KX b o e) (by
      cases q : H b with
      | none => rfl
      | some u =>
        have e' : b = a := hA b (by rw [q]; simp)
        subst e'
        rw [hK (by rw [q]; simp)] at e; cases e)
    have hM : Mod K mg (hidT s₁.heap H) := ⟨hKb, nsK hns, ⟨mb, nsK hb, hbb⟩, let ⟨mc, h1, h2⟩ := hlim; ⟨mc, nsK h1, h2⟩⟩
    have e0 : Env0 P w K mg (hidT s₁.heap H) callerA [] s₁ H := ⟨rfl, hM, fun b o e => qqx_ e, Nat.le_of_eq (ql0_ _ _), trivial, fun b hb => absurd (show b ∈ ([] : List Addr) from hb) (by simp), hok, .of_eq hg⟩
    refine codeAny_mono ((F _ hKb (nsK hns)).run callerA [] s₁ H ⟨[.ref a], []⟩ [.ref a] [.ref a] _ _ hr e0 (hbind s₁ (.ref a)) (.cons rfl .nil) (hsp H hO hS)) fun r s' h => ?_
    cases r with
    | error e => exact (hCX H e s' h).elim
    | ok fl =>
      cases fl with
      | next => exact False.elim h
      | brk => exact False.elim h
      | cont => exact False.elim h
      | ret u =>
        obtain ⟨v, H', os, bare, un, hok', r', q⟩ := h
        have q' : v = .bl true := q
        subst q'
        obtain rfl : u = Value.bool true := r'
        refine ⟨rfl, OldK.of_keep fun b o e => ?_, os, bare⟩
        cases q : H b with
        | none => exact un.keep b o e q (by intro z; exact absurd (show b ∈ ([] : List Addr) from z) (by simp)) (by simp)
        | some u =>
          rcases hO b with z | ⟨ob, xs, z⟩
          · rw [q] at z; cases z
          · have z2 := un.frzs b ob _ z
            obtain ⟨e1, _⟩ := hok b _ z
            obtain ⟨e2, _⟩ := hok' b _ z2
            rw [e] at e1; cases e1
            exact e2
  cases hk : K.lookup a with
  | some o =>
    -- the script is one of the module's own objects
    have e := KX a o hk
    rw [ha] at e
    cases e
    refine core (fun _ => none) (fun _ => .inl rfl) (.inr ⟨_, vs.toArray, _, hk, rfl, rfl, rfl, by rw [List.size_toArray, lenV]; exact hl, by simpa using rv⟩) (fun b u z => by have z' : (none : Option HO) = some u := z; cases z') (fun b z => absurd rfl z) fun z => absurd rfl z
  | none =>
    refine core (fun b => if b = a then some (.frz { cls := .type "list", data := .seq vs.toArray } (.lst (ns.map V.int))) else none) (fun b => ?_) (.inl (.inr ⟨{ cls := .type "list", data := .seq vs.toArray }, if_pos rfl⟩)) (fun b u z => ?_) (fun b z => ?_) fun _ => hk
    · by_cases hb : b = a
      · exact .inr ⟨_, _, if_pos hb⟩
      · exact .inl (if_neg hb)
    · by_cases hb : b = a
      · have z' := (if_pos hb).symm.trans z
        cases z'
        subst hb
        exact ⟨ha, by rw [List.length_map]; exact hl, vs, _, rv, ha⟩
      · have z' := (if_neg hb).symm.trans z
        cases z'
    · by_cases hb : b = a
      · exact hb
      · exact absurd (if_neg hb) z
end L2
namespace L2
open PySem PySem.Spec PyProof.Rows
theorem walk_of {l : PySem.W.OpenLaw} {n k : Nat} {q : Program} {loose : List Str} {XP : (Str → Option Value) → Heap → Prop} {YP : World → Heap → Prop} {d : DefRec} {K : Params → PySem.W.Frag} {CX : World → CXT} {sp : World → Sp} {x : Str}
    (hn : l.most = some n) (hn2 : n ≤ sizeLine) (hdf : d.params.defaults = []) (hr : Room k callerA)
    (hY : ∀ (w : World) (h : Heap), YP w h → (K w.params).In h)
    (F : ∀ (w : World) (mg : Str → Option Value) (fa : Addr) (h : Heap), (K w.params).In h → h.Ns mainGlobals mg → mg d.name = some (.ref fa) →
      ∃ fd : FuncData, (∀ (s : Shared) (u : Value), BindsTo s fd ⟨[u], []⟩ [(x, u)]) ∧
        ∀ base : Heap, (K w.params).In base → base.Ns mainGlobals mg → FnOk l.prog w (K w.params) mg base (CX w) k fa fd [x] (sp w))
    (hsp : ∀ (w : World) (H : Hp) (a : Addr) (ns : List Int), ns.length ≤ n → Only H → SqL (K w.params) H a (ns.map V.int) → sp w [.ref a] H (fun v _ => v = .bl true) fun _ _ _ => False)
    (hCX : ∀ (w : World) (H : Hp) (s : Shared) (e : Value) (s' : Shared), CX w [] H s (fun _ _ _ => False) e s' → False) :
    PySem.W.WalkO q loose XP YP l.row.toRowW d [] (fun f vs => PySem.call f vs) := by
  refine Att.attach_call hn hdf fun w s₀ s₁ mg mb fa o pm cd doc a vs ns G Y ho hd hcd hmg hobj hints hlen hg => ?_
  have KX := hY w _ Y
  obtain ⟨fd, hb, hF⟩ := F w mg fa _ KX G.T.g hmg
  exact qnw_ KX G.T.g G.T.b G.T.builtins G.T.nolimit hg hobj hints (Nat.le_trans hlen hn2) hr hF hb (fun H hO hS => hsp w H a ns hlen hO hS) fun H e s' => hCX w H s₁ e s'
end L2
/- THE LAST THEOREM (shape; LID, My.* are yours):
   My.Adr: a structure of the addresses that your layer names (classes, functions); My.Txt K t: a structure (Prop) of the equations over K;
   My.txt_mk : {K} {implicit addresses ..} (e1 : nsIn K mainGlobals "law" = some (some (.ref f))) (e2 : K.lookup f = some ⟨oc, od, .func (fnOf "law" "law" params body scope dV kV doc pm an cdv ct), sl⟩) (e3 : codeIn K cdv "law" = true) .. : ∃ t, My.Txt K t
set_option maxRecDepth 100000 in
set_option maxHeartbeats 0 in
theorem PySem.Challenge.cw_LID_holds : PySem.Challenge.rw_LID.Holds := by
  w_on; o_law; k_head; (case hw => w_witness2)
  k_fill
  refine L2.walk_of (l := PySem.Challenge.rw_LID) (n := 63) (k := 40) (x := "script") (CX := fun w => ..) (sp := fun _ => My.sp_law) rfl (by decide) rfl ⟨rfl, by decide, by decide⟩ (fun w h Y => PySem.W.kIn_of Y) ?F ?S ?C
  case F =>
    intro w mg fa h KX G hmg
    have T : ∃ t, My.Txt (L2.KOf KX) t := by
      dsimp only [L2.KOf]                          -- K must stand as «<heap const> w.params» for k_is
      refine' My.txt_mk ?e1 ?e2 ?e3 ..
      (case e1 => PySem.W.k_is)                    -- in the order: a name -> its address -> its object -> its parts
      (case e2 => PySem.W.k_is)
      ..
    obtain ⟨t, T⟩ := T
    have e0 := hmg.symm.trans (PySem.W.mg_of KX G T.law)
    cases e0                                       -- fa is the law's own address
    exact ⟨_, fun s u => .of_eq rfl, fun base kb nb => My.law_fn T kb nb⟩     -- if «.of_eq rfl» comes too early: refine' ⟨_, ?b, fun base kb nb => My.law_fn T kb nb⟩; exact fun s u => .of_eq rfl
  case S => exact fun w H a ns hl hO hS => ..
  case C => exact ..
(the tactic k_is has no namespace: write k_is) -/
namespace L2
open PySem PySem.Spec PyProof.Rows
def qct_ (s : Stmt) : Arguments := match s with
  | .FunctionDef _ a _ _ _ _ _ _ _ _ => a
  | _ => { posonlyargs := [], args := [], vararg := none, kwonlyargs := [], kw_defaults := [], kwarg := none, defaults := [] }
def qz_ (s : Stmt) : List Stmt := match s with
  | .FunctionDef _ _ b _ _ _ _ _ _ _ => b
  | _ => []
def qd_ (s : Stmt) : Scope := match s with
  | .FunctionDef _ _ _ _ _ _ sc _ _ _ => sc
  | _ => { kind := .function, names := [], isGenerator := false, isCoroutine := false }
abbrev CX0 : CXT := fun _ _ _ _ _ _ => False
abbrev E0 : XK := fun _ _ _ => False
theorem qhm_ {X : Cx} : qjf_ CX0 X E0 := fun _ _ _ _ _ _ _ h => h.elim
structure Fun (K : PySem.W.Frag) (x qual : Str) (st : Stmt) (f : Addr) (fd : FuncData) : Prop where
  ex : ∃ (oc : Value) (od : Option Addr) (kV doc pm : Value) (an : Option Addr) (cdv ct : Value) (osl : Array (Option Value)),
    fd = PySem.W.fnOf x qual (qct_ st) (qz_ st) (qd_ st) .none kV doc pm an cdv ct ∧ K.lookup f = some ⟨oc, od, .func fd, osl⟩ ∧ PySem.W.codeIn K cdv qual = true
  kp : PySem.W.keepIn K (.ref f) = true
section
variable {P : Program} {w : World} {K : PySem.W.Frag} {mg : Str → Option Value} {base : Heap}
theorem Fun.ok {x qual : Str} {st : Stmt} {f : Addr} {fd : FuncData} {N ps : List Str} {k : Nat} {sp : Sp} (F : Fun K x qual st f fd) (S : FnScope N ps (qd_ st)) (len : ∀ vs H Q E, sp vs H Q E → vs.length = ps.length)
    (hbody : ∀ (cdv : Value) (A : Around) (outer : List Env) (s : Shared) (H : Hp) (vs : List V) (Q : VK) (E : XK), Room k (A.deeper (envOfC qual (qd_ st) s.heap.objs.size f cdv)) → sp vs H Q E →
      ∃ t, PSs (cxOf CX0 P w K mg base N qual (qd_ st) f cdv A outer s H E).nox (qz_ st) t ∧ t { nx := fun _ H' => Q .non H', rt := Q } (start N vs) H) : FnOk P w K mg base CX0 (k + 1) f fd ps sp := by
  obtain ⟨oc, od, kV, doc, pm, an, cdv, ct, osl, rfl, lk, hcd⟩ := F.ex
  refine quh_ lk hcd S len fun A outer s H vs Q E hr hsp => ?_
  obtain ⟨t, h, q⟩ := hbody cdv A outer s H vs Q E hr hsp
  exact ⟨t, h.nox, q⟩
theorem Fun.binds {x qual : Str} {st : Stmt} {f : Addr} {fd : FuncData} {ps : List Str} (F : Fun K x qual st f fd)
    (h : ∀ (kV doc pm : Value) (an : Option Addr) (cdv ct : Value) (us : List Value), us.length = ps.length → bindArgs (PySem.W.fnOf x qual (qct_ st) (qz_ st) (qd_ st) .none kV doc pm an cdv ct) ⟨us, []⟩ = pure (ps.zip us)) : Binds K fd ps [] := by
  obtain ⟨oc, od, kV, doc, pm, an, cdv, ct, osl, rfl, lk, hcd⟩ := F.ex
  exact .all (h kV doc pm an cdv ct)
theorem qhg_ {x qual : Str} {st : Stmt} {f : Addr} {oc : Value} {od an : Option Addr} {osl : Array (Option Value)} {kV doc pm cdv ct : Value} (l : K.lookup f = some ⟨oc, od, .func (PySem.W.fnOf x qual (qct_ st) (qz_ st) (qd_ st) .none kV doc pm an cdv ct), osl⟩)
    (c : PySem.W.codeIn K cdv qual = true) (k : PySem.W.keepIn K (.ref f) = true) : Fun K x qual st f (PySem.W.fnOf x qual (qct_ st) (qz_ st) (qd_ st) .none kV doc pm an cdv ct) := ⟨⟨oc, od, kV, doc, pm, an, cdv, ct, osl, rfl, l, c⟩, k⟩
end
theorem qn_ {n : Nat} (h : n ≤ 1000) : n < sizeLine := Nat.lt_of_le_of_lt h (by decide)
section
variable {X : Cx}
theorem pv (i : Nat) {x : Str} {pos : Pos} (hN : X.N[i]? = some x := by rfl) (hv : Vis X.env.scope x := by first | exact Or.inl rfl | exact Or.inr (Or.inl rfl) | exact Or.inr (Or.inr rfl)) (hd : (x == ("__debug__" : Str)) = false := by decide)
    (hcd : (x == ("__classdict__" : Str)) = false := by decide) : PE X (.Name x pos) (tVar i) := qsr_ hN hv hd hcd
end
def Same (H H' : Hp) : Prop := ∀ b o, H b = some o → H' b = some o
theorem Same.refl (H : Hp) : Same H H := fun _ _ h => h
theorem Same.trans {H H1 H2 : Hp} (a : Same H H1) (b : Same H1 H2) : Same H H2 := fun c o h => b c o (a c o h)
end L2

namespace L2
open PySem PySem.Spec PyProof.Rows
section
variable {κ : Type} [DecidableEq κ]
def valV (kvs : List (κ × V)) (k : κ) : Option V := (kvs.find? fun kv => decide (kv.1 = k)).map (·.2)
def putK (kvs : List (κ × V)) (k : κ) (v : V) : List (κ × V) :=
  if (kvs.any fun kv => decide (kv.1 = k)) = true then kvs.map (fun kv => if kv.1 = k then (kv.1, v) else kv) else kvs ++ [(k, v)]
theorem qbc_ {p : κ × V} {r : List (κ × V)} {k : κ} (e : p.1 = k) : valV (p :: r) k = some p.2 := by simp [valV, List.find?_cons, e]
theorem q8_ {p : κ × V} {r : List (κ × V)} {k : κ} (e : ¬ p.1 = k) : valV (p :: r) k = valV r k := by simp [valV, List.find?_cons, e]
theorem qei_ (k : κ) : ∀ kvs : List (κ × V), (kvs.any fun kv => decide (kv.1 = k)) = (valV kvs k).isSome
  | [] => rfl
  | p :: r => by
    rw [List.any_cons]
    by_cases e : p.1 = k
    · simp only [qbc_ e, decide_eq_true e, Bool.true_or, Option.isSome_some]
    · rw [q8_ e, decide_eq_false e, Bool.false_or]; exact qei_ k r
theorem qij_ (k j : κ) (y : V) : ∀ kvs : List (κ × V), valV (kvs.map fun kv => if kv.1 = k then (kv.1, y) else kv) j = (valV kvs j).map fun x => if j = k then y else x
  | [] => rfl
  | p :: r => by
    have ih := qij_ k j y r
    rw [List.map_cons]
    by_cases h : p.1 = k
    · rw [if_pos h]
      by_cases e : p.1 = j
      · rw [qbc_ (p := (p.1, y)) e, qbc_ e, Option.map_some, if_pos (e.symm.trans h)]
      · rw [q8_ (p := (p.1, y)) e, q8_ e, ih]
    · rw [if_neg h]
      by_cases e : p.1 = j
      · rw [qbc_ (p := p) e, qbc_ e, Option.map_some, if_neg (fun z => h (e.trans z))]
      · rw [q8_ (p := p) e, q8_ e, ih]
theorem qg1_ (k j : κ) (y : V) : ∀ kvs : List (κ × V), valV kvs k = none → valV (kvs ++ [(k, y)]) j = if j = k then some y else valV kvs j
  | [], _ => by
    by_cases e : k = j
    · rw [if_pos e.symm]; exact qbc_ (p := (k, y)) e
    · rw [if_neg (fun z => e z.symm)]; exact q8_ (p := (k, y)) e
  | p :: r, hn => by
    rw [List.cons_append]
    have hk : ¬ p.1 = k := fun z => by rw [qbc_ z] at hn; cases hn
    rw [q8_ hk] at hn
    have ih := qg1_ k j y r hn
    by_cases e : p.1 = j
    · rw [qbc_ e, qbc_ e, if_neg (fun z => hk (e.trans z))]
    · rw [q8_ e, q8_ e, ih]
theorem qbh_ (kvs : List (κ × V)) (k j : κ) (y : V) : valV (putK kvs k y) j = if j = k then some y else valV kvs j := by
  unfold putK
  by_cases a : (kvs.any fun kv => decide (kv.1 = k)) = true
  · rw [if_pos a, qij_]
    rw [qei_] at a
    by_cases e : j = k
    · obtain ⟨x, hx⟩ := Option.isSome_iff_exists.mp a
      rw [if_pos e, e, hx, Option.map_some, if_pos rfl]
    · rw [if_neg e]
      cases valV kvs j with
      | none => rfl
      | some x => rw [Option.map_some, if_neg e]
  · rw [if_neg a]
    refine qg1_ k j y kvs ?_
    rw [qei_] at a
    cases q : valV kvs k with
    | none => rfl
    | some x => rw [q] at a; exact (a rfl).elim
theorem qdp_ (kvs : List (κ × V)) (k : κ) (v : V) : (putK kvs k v).length ≤ kvs.length + 1 := by
  unfold putK
  split
  · rw [List.length_map]; omega
  · rw [List.length_append, List.length_cons, List.length_nil]; omega
theorem RelO.isSome_eq {o : Option V} {u : Option Value} (r : RelO o u) : o.isSome = u.isSome := by
  cases o with
  | none => cases u with
    | none => rfl
    | some _ => exact (show False from r).elim
  | some _ => cases u with
    | none => exact (show False from r).elim
    | some _ => rfl
theorem KV.val {kvs : List (κ × V)} {vs : List (κ × Value)} (r : KV kvs vs) (k : κ) : RelO (valV kvs k) (valueAt vs k) := by
  unfold KV at r
  induction r with
  | nil => exact True.intro
  | @cons p q ps qs h t ih =>
    obtain ⟨h1, h2⟩ := h
    by_cases e : p.1 = k
    · have e' : q.1 = k := h1.symm.trans e
      have b : valueAt (q :: qs) k = some q.2 := by simp [valueAt, List.find?_cons, e']
      rw [qbc_ e, b]; exact h2
    · have e' : ¬ q.1 = k := fun z => e (h1.trans z)
      have b : valueAt (q :: qs) k = valueAt qs k := by simp [valueAt, List.find?_cons, e']
      rw [q8_ e, b]; exact ih
theorem KV.any {kvs : List (κ × V)} {vs : List (κ × Value)} (r : KV kvs vs) (k : κ) : (kvs.any fun kv => decide (kv.1 = k)) = vs.any fun kv => decide (kv.1 = k) := by
  unfold KV at r
  induction r with
  | nil => rfl
  | cons h t ih => rw [List.any_cons, List.any_cons, ih, h.1]
theorem KV.repl {kvs : List (κ × V)} {vs : List (κ × Value)} (r : KV kvs vs) (k : κ) {y : V} {u : Value} (ry : RelV y u) :
    KV (kvs.map fun kv => if kv.1 = k then (kv.1, y) else kv) (vs.map fun kv => if kv.1 = k then (kv.1, u) else kv) := by
  unfold KV at r ⊢
  induction r with
  | nil => exact .nil
  | @cons p q ps qs h t ih =>
    rw [List.map_cons, List.map_cons]
    refine .cons ?_ ih
    obtain ⟨h1, h2⟩ := h
    by_cases e : p.1 = k
    · rw [if_pos e, if_pos (h1.symm.trans e)]; exact ⟨h1, ry⟩
    · rw [if_neg e, if_neg (fun z => e (h1.trans z))]; exact ⟨h1, h2⟩
theorem KV.put {kvs : List (κ × V)} {vs : List (κ × Value)} (r : KV kvs vs) (k : κ) {y : V} {u : Value} (ry : RelV y u) : KV (putK kvs k y) (stored vs k u) := by
  unfold putK stored
  rw [r.any k]
  by_cases e : (vs.any fun kv => decide (kv.1 = k)) = true
  · rw [if_pos e, if_pos e]; exact r.repl k ry
  · rw [if_neg e, if_neg e]; exact Paired.snoc r ⟨rfl, ry⟩
theorem KV.length {kvs : List (κ × V)} {vs : List (κ × Value)} (r : KV kvs vs) : kvs.length = vs.length := Paired.length r
end
theorem qnm_ {P : Program} {w : World} {k : Key} {u : Value} (r : RelV (kV k) u) : (q7_ P w).is k u = true := by
  cases k with
  | inl i => obtain ⟨t, e⟩ := (show ∃ t, u = Value.int i t from r); subst e; exact qih_ P w i t
  | inr x => obtain ⟨t, e⟩ := (show ∃ t, u = Value.str x t from r); subst e; exact qho_ P w x t
theorem qhf_ {P : Program} {w : World} : ∀ {ks : List Key} {us : List Value}, Vals (ks.map kV) us → ItemsAre (q7_ P w) ks us
  | [], _, r => by rw [List.map_nil] at r; cases r; exact .nil
  | k :: ks, _, r => by
    rw [List.map_cons] at r
    cases r with
    | cons h t => exact .cons (qnm_ h) (qhf_ t)
abbrev KT (H : Hp) : List (List Key × V) → List (List Key × Addr × Value) → Prop := Paired fun p q => p.1 = q.1 ∧ H q.2.1 = some (.tup (p.1.map kV)) ∧ RelV p.2 q.2.2
theorem KT.val {H : Hp} {kvs : List (List Key × V)} {xs : List (List Key × Addr × Value)} (r : KT H kvs xs) (k : List Key) : RelO (valV kvs k) ((atKey xs k).map (·.2)) := by
  induction r with
  | nil => exact True.intro
  | @cons p q ps qs h t ih =>
    obtain ⟨h1, _, h2⟩ := h
    by_cases e : p.1 = k
    · have e' : q.1 = k := h1.symm.trans e
      have b : atKey (q :: qs) k = some q.2 := by simp [atKey, List.find?_cons, e']
      rw [qbc_ e, b]; exact h2
    · have e' : ¬ q.1 = k := fun z => e (h1.trans z)
      have b : atKey (q :: qs) k = atKey qs k := by simp [atKey, List.find?_cons, e']
      rw [q8_ e, b]; exact ih
theorem KT.repl {H : Hp} {kvs : List (List Key × V)} {xs : List (List Key × Addr × Value)} (r : KT H kvs xs) (k : List Key) {y : V} {u : Value} (ry : RelV y u) :
    KT H (kvs.map fun kv => if kv.1 = k then (kv.1, y) else kv) (xs.map (putAt k u)) := by
  induction r with
  | nil => exact .nil
  | @cons p q ps qs h t ih =>
    rw [List.map_cons, List.map_cons]
    refine .cons ?_ ih
    obtain ⟨h1, h2, h3⟩ := h
    unfold putAt
    by_cases e : p.1 = k
    · rw [if_pos e, if_pos (h1.symm.trans e)]; exact ⟨h1, h2, ry⟩
    · rw [if_neg e, if_neg (fun z => e (h1.trans z))]; exact ⟨h1, h2, h3⟩
theorem KT.put {H : Hp} {kvs : List (List Key × V)} {xs : List (List Key × Addr × Value)} (r : KT H kvs xs) (k : List Key) {b : Addr} {y : V} {u : Value} (hb : H b = some (.tup (k.map kV))) (ry : RelV y u) :
    KT H (putK kvs k y) (storedH xs k b u) := by
  have e : (kvs.any fun kv => decide (kv.1 = k)) = (atKey xs k).isSome := by
    rw [qei_, (r.val k).isSome_eq, Option.isSome_map]
  unfold putK storedH
  rw [e]
  by_cases q : (atKey xs k).isSome = true
  · rw [if_pos q, if_pos q]; exact r.repl k ry
  · rw [if_neg q, if_neg q]; exact Paired.snoc r ⟨rfl, hb, ry⟩
theorem KT.keeps {H H' : Hp} {kvs : List (List Key × V)} {xs : List (List Key × Addr × Value)} (r : KT H kvs xs) (ht : ∀ b ys, H b = some (.tup ys) → H' b = some (.tup ys)) : KT H' kvs xs :=
  Paired.mapP r fun _ _ z => ⟨z.1, ht _ _ z.2.1, z.2.2⟩
section
variable {P : Program} {w : World} {H : Hp} {h : Heap} {a : Addr}
theorem qrt_ {u : HO} (ok : HOk P w H h) (e : Rd H a u) : ObjOk P w H h a u := e.ok ok
theorem qpq_ {kvs : List (Key × V)} (ok : HOk P w H h) (e : Rd H a (.dK kvs)) : kvs.length ≤ sizeLine ∧ (a == sysModules) = false ∧ ∃ vs, KV kvs vs ∧ h.DictOf (q7_ P w) a vs :=
  show ObjOk P w H h a (.dK kvs) from qrt_ ok e
theorem qsg_ {kvs : List (Key × V)} (ok : HOk P w H h) (e : H a = some (.dK kvs)) : kvs.length ≤ sizeLine ∧ (a == sysModules) = false ∧ ∃ vs, KV kvs vs ∧ h.DictOf (q7_ P w) a vs := qpq_ ok (.inl e)
theorem qlv_ {ks : List Key} (ok : HOk P w H h) (e : H a = some (.tup (ks.map kV))) : (tupleKind (q7_ P w)).is h ks a := by
  obtain ⟨_, its, r, o, h1, h2, n, h3⟩ := (show ObjOk P w H h a (.tup (ks.map kV)) from ok a _ e)
  exact ⟨o, its.toArray, n, h1, h2, h3, by simpa using qhf_ r⟩
theorem qpc_ {kvs : List (List Key × V)} (ok : HOk P w H h) (e : Rd H a (.dT kvs)) : kvs.length ≤ sizeLine ∧ (a == sysModules) = false ∧
    ∃ xs, KT H kvs xs ∧ h.DictOfH (tupleKind (q7_ P w)) a xs := by
  obtain ⟨z, y, xs, r, o, es, ep, h1, h2, h3, h4, h5⟩ := (show ObjOk P w H h a (.dT kvs) from qrt_ ok e)
  refine ⟨z, y, xs, r, o, es, ep, h1, h2, h3, h4, fun x hx => ?_, h5⟩
  have all : ∀ {l : List (List Key × V)} {m : List (List Key × Addr × Value)}, KT H l m → ∀ x ∈ m, (tupleKind (q7_ P w)).is h x.1 x.2.1 := by
    intro l m q
    induction q with
    | nil => intro x hx; exact nomatch hx
    | @cons p q ps qs hq t ih =>
      intro x hx
      rcases List.mem_cons.mp hx with e | hx
      · subst e
        exact qlv_ ok (by rw [← hq.1]; exact hq.2.1)
      · exact ih x hx
  exact all r x hx
theorem qvn_ {kvs : List (List Key × V)} (ok : HOk P w H h) (e : H a = some (.dT kvs)) : kvs.length ≤ sizeLine ∧ (a == sysModules) = false ∧
    ∃ xs, KT H kvs xs ∧ h.DictOfH (tupleKind (q7_ P w)) a xs := qpc_ ok (.inl e)
end
def DGet (H : Hp) (a : Addr) (y : V) (r : Option V) : Prop :=
  (∃ kvs k, Rd H a (.dK kvs) ∧ y = kV k ∧ r = valV kvs k) ∨ ∃ kvs k b, Rd H a (.dT kvs) ∧ y = .ref b ∧ H b = some (.tup (k.map kV)) ∧ r = valV kvs k
def DPut (H : Hp) (a : Addr) (y v : V) (H' : Hp) : Prop :=
  (∃ kvs k, H a = some (.dK kvs) ∧ y = kV k ∧ kvs.length < sizeLine ∧ H' = upd H a (.dK (putK kvs k v))) ∨
  ∃ kvs k b, H a = some (.dT kvs) ∧ y = .ref b ∧ H b = some (.tup (k.map kV)) ∧ kvs.length < sizeLine ∧ H' = upd H a (.dT (putK kvs k v))
theorem DGet.k {H : Hp} {a : Addr} {kvs : List (Key × V)} {k : Key} (e : H a = some (.dK kvs)) : DGet H a (kV k) (valV kvs k) := .inl ⟨kvs, k, .inl e, rfl, rfl⟩
theorem DPut.k {H : Hp} {a : Addr} {kvs : List (Key × V)} {k : Key} {v : V} (e : H a = some (.dK kvs)) (hl : kvs.length < sizeLine) : DPut H a (kV k) v (upd H a (.dK (putK kvs k v))) := .inl ⟨kvs, k, e, rfl, hl, rfl⟩
section
variable {X : Cx} {pins : List (Addr × Obj)} {σ : St} {H : Hp} {s : Shared} {a : Addr} {y v : V} {u r : Value} {o : Option V} {A : Around} {E : Value → Shared → Prop}
theorem Inv.big (I : Inv X pins σ H s) : sysModules < s.heap.objs.size := by
  have h : mainGlobals < s.heap.objs.size := (I.mod.glob.keeps I.bk).lt
  exact Nat.lt_trans (by decide) h
theorem ql5_ {Q : Value → Shared → Prop} (hu : A.units + 1 < cLine) (I : Inv X pins σ H s) (g : DGet H a y (some v)) (ry : RelV y u) (h : ∀ w' s', Inv X pins σ H s' → RelV v w' → Q w' s') :
    wpAny (model X.prog X.w) A (getItem (.ref a) u) Q E s := by
  rcases g with ⟨kvs, k, e, ey, l⟩ | ⟨kvs, k, b, e, ey, eb, l⟩
  · subst ey
    obtain ⟨z, hd, vs, rel, dd⟩ := qpq_ I.hok e
    obtain ⟨w', hw, rw'⟩ := RelO.some_of (v := v) (o := valueAt vs k) (by rw [l]; exact rel.val k)
    exact wpAny_getItem_of (qnm_ ry) dd.mapOf hw (h w' _ (I.tok _) rw')
  · subst ey
    cases (show u = Value.ref b from ry)
    obtain ⟨z, hd, xs, rel, dd⟩ := qpc_ I.hok e
    obtain ⟨w', hw, rw'⟩ := RelO.some_of (v := v) (o := (atKey xs k).map (·.2)) (by rw [l]; exact rel.val k)
    obtain ⟨p, hp, hp2⟩ := Option.map_eq_some_iff.mp hw
    refine wpAny_getItem_heap (tupleKind_room_in1 hu) (qlv_ I.hok eb) dd hp ?_
    rw [hp2]
    exact h w' _ (I.tok _) rw'
theorem qhz_ {h' : Heap} {t' : Nat} {ob : HO} (I : Inv X pins σ H s) (mu : Mut (H a)) (hs : Heap.SameBut a s.heap h') (he : ∃ q, h'.get? a = some q) (new : ObjOk X.prog X.w (upd H a ob) h' a ob) :
    Inv X pins σ (upd H a ob) { s with heap := h', toks := t' } :=
  I.write (x := a) (e := a) mu (.inl rfl) (fun b q hb z => (hs.2 b hb).trans z) he new
theorem qou_ {P : Program} {w : World} {H' : Hp} {h' : Heap} {kvs : List (Key × V)} {vs : List (Key × Value)} (z : kvs.length ≤ sizeLine) (hd : (a == sysModules) = false) (rel : KV kvs vs) (dd : h'.DictOf (q7_ P w) a vs) :
    ObjOk P w H' h' a (.dK kvs) := ⟨z, hd, vs, rel, dd⟩
theorem qkf_ {H' : Hp} {Q : Unit → Shared → Prop} (hu : A.units + 1 < cLine) (I : Inv X pins σ H s) (g : DPut H a y v H') (ry : RelV y u) (rv : RelV v r) (h : ∀ s', Inv X pins σ H' s' → Q () s') :
    wpAny (model X.prog X.w) A (setItem (.ref a) u r) Q E s := by
  rcases g with ⟨kvs, k, e, ey, l, eH⟩ | ⟨kvs, k, b, e, ey, eb, l, eH⟩
  · subst ey eH
    obtain ⟨z, hd, vs, rel, dd⟩ := qsg_ I.hok e
    have hz : vs.length ≤ sizeLine := by rw [← rel.length]; exact z
    have hl : (putK kvs k v).length ≤ sizeLine := by have := qdp_ kvs k v; omega
    refine wpAny_setItem_pairs (hsz := hz) (qnm_ ry) dd fun h' dd' hs => h _ ?_
    have he : ∃ q, h'.get? a = some q := let ⟨q, _, _, hq, _⟩ := dd'; ⟨q, hq⟩
    exact qhz_ I (by rw [e]; exact True.intro) hs he (qou_ hl hd (rel.put k rv) dd')
  · subst ey eH
    cases (show u = Value.ref b from ry)
    obtain ⟨z, hd, xs, rel, dd⟩ := qvn_ I.hok e
    have hz : xs.length ≤ sizeLine := by rw [← Paired.length rel]; exact z
    have hl : (putK kvs k v).length ≤ sizeLine := by have := qdp_ kvs k v; omega
    refine wpAny_setItem_heap (hsz := hz) (tupleKind_room_in1 hu) (qlv_ I.hok eb) dd fun h' dd' hs => h _ ?_
    obtain ⟨q, es, ep, hq, h2, h3, h4, _, h5⟩ := dd'
    refine qhz_ I (by rw [e]; exact True.intro) hs ⟨q, hq⟩ ⟨hl, hd, _, (rel.put k eb rv).keeps fun c ys ec => ?_, q, es, ep, hq, h2, h3, h4, h5⟩
    rw [qh_ (qu3_ ec e (fun z => nomatch z))]
    exact ec
end
section
variable {X : Cx} {pins : List (Addr × Obj)} {σ : St} {H : Hp} {s : Shared} {a : Addr} {kvs : List (Key × V)} {k : Key} {u : Value} {A : Around} {E : Value → Shared → Prop}
end
def NoSl (i : Expr) : Prop := ∀ ov iv, subscripted i false ov iv = operate [ov, iv] (getItem ov iv)
theorem qpw_ {prog : Program} {w : World} {A : Around} {E : Value → Shared → Prop} {s : Shared} {env : Env} {value slice : Expr} {pos : Pos} {T id : String} {Q : Value → Shared → Prop}
    (hl : typeLookup (.type T) "__getitem__" = pure (some (.builtin id))) (hs : NoSl slice)
    (h : wpAny (model prog w) A (eval value env) (fun o s₁ => wpAny (model prog w) A (eval slice env) (fun i s₂ => s₂.TypeIs o T ∧ wpAny (model prog w) A (getItem o i) Q E s₂) E s₁) E s) :
    wpAny (model prog w) A (eval (.Subscript value slice pos) env) Q E s := by
  refine Subscript_ (wpAny_mono h (fun o s₁ h₁ => wpAny_mono h₁ (fun i s₂ h₂ => ?_) fun _ _ x => x) fun _ _ x => x)
  obtain ⟨hT, h₂⟩ := h₂
  unfold subscriptTail
  refine wpAny_bind ?_
  rw [getitemInPython_of_ne hT.not_modules]
  refine wpAny_bind (wpAny_specialOf hT hl ?_)
  have fin : wpAny (model prog w) A (subscripted slice false o i) (fun r s₃ => wpAny (model prog w) A (letTemporaryGo value o r >>= fun _ => pure r) Q E s₃) E s₂ := by
    rw [hs o i]
    exact wpAny_operating (wpAny_mono h₂ (fun r s₃ h₃ => wpAny_bind (wpAny_letTemporaryGo (wpAny_pure h₃))) fun _ _ x => x)
  first
    | exact wpAny_pure (wpAny_bind fin)
    | exact wpAny_bind (wpAny_pure (wpAny_bind fin))
    | exact wpAny_bind fin
theorem qh4_ {X : Cx} {pins : List (Addr × Obj)} {σ : St} {H : Hp} {s : Shared} {a : Addr} {y : V} {o : Option V} (I : Inv X pins σ H s) (g : DGet H a y o) : s.TypeIs (.ref a) "dict" := by
  rcases g with ⟨kvs, k, e, _, _⟩ | ⟨kvs, k, b, e, _, _, _⟩
  · obtain ⟨_, _, vs, _, dd⟩ := qpq_ I.hok e
    exact dd.typeIs
  · obtain ⟨_, _, xs, _, dd⟩ := qpc_ I.hok e
    exact dd.typeIs
def qvj_ (td ty : TE) : TE := fun σ H Q => td σ H fun x H1 => ty σ H1 fun y H2 => ∃ a v, x = .ref a ∧ DGet H2 a y (some v) ∧ Q v H2
def qvr_ (td ty tv : TE) : TS := fun D σ H => tv σ H fun v H1 => td σ H1 fun x H2 => ty σ H2 fun y H3 => ∃ a H4, x = .ref a ∧ DPut H3 a y v H4 ∧ D.nx σ H4
section
variable {X : Cx} {o i e value : Expr} {pos pos' tpos : Pos} {td ty tv : TE}
theorem qdq_ (hu : X.A.units + 1 < cLine) (ho : PE X o td) (hi : PE X i ty) (hs : NoSl i) : PE X (.Subscript o i pos) (qvj_ td ty) := by
  intro pins s σ H Q I h
  refine qpw_ PySem.F.slot_dict_getitem.lookup hs (thn (ho pins s σ H _ I h) fun u s1 ⟨x, H1, I1, rx, q1⟩ => thn (hi pins s1 σ H1 _ I1 q1) fun iv s2 ⟨y, H2, I2, ry, a, v, ex, g, q2⟩ => ?_)
  subst ex
  obtain rfl : u = Value.ref a := rx
  exact ⟨qh4_ I2 g, ql5_ hu I2 g ry fun w' s3 I3 rw' => ⟨v, H2, I3, rw', q2⟩⟩
theorem qh3_ (hu : X.A.units + 1 < cLine) (ho : PE X o td) (hi : PE X i ty) (hv : PE X value tv) (hs : swapsWith value (some (.Subscript o i pos')) pos.line X.env = pure false) :
    PS X (.Assign [.Subscript o i pos'] value pos) (qvr_ td ty tv) := by
  intro pins s σ H D I h
  refine wpAny_Assign_Subscript (thn (hv pins s σ H _ I h) fun r s1 ⟨v, H1, I1, rv, q1⟩ => thn (ho pins s1 σ H1 _ I1 q1) fun u s2 ⟨x, H2, I2, rx, q2⟩ => thn (hi pins s2 σ H2 _ I2 q2) fun iv s3 ⟨y, H3, I3, ry, a, H4, ex, g, q3⟩ => ?_) hs
  subst ex
  obtain rfl : u = Value.ref a := rx
  exact qkf_ hu I3 g ry rv fun s4 I4 => ⟨σ, H4, I4, q3⟩
end
theorem qmz_ {P : Program} {w : World} {H : Hp} (h : Heap) (hb : sysModules < h.objs.size) : ObjOk P w H (h.push { cls := .type "dict", data := .dict #[] }) h.objs.size (.dK []) :=
  ⟨Nat.zero_le _, beq_eq_false_iff_ne.mpr (Ne.symm (Nat.ne_of_lt hb)), [], .nil, Heap.DictOf.new h⟩
section
variable {X : Cx} {pos : Pos}
end
def qli_ : List (TE × TE) → St → Hp → (List (V × V) → Hp → Prop) → Prop
  | [], _, H, Q => Q [] H
  | (tk, tv) :: r, σ, H, Q => tk σ H fun x H1 => tv σ H1 fun y H2 => qli_ r σ H2 fun ps H3 => Q ((x, y) :: ps) H3
abbrev VV : List (V × V) → List (Value × Value) → Prop := Paired fun p q => RelV p.1 q.1 ∧ RelV p.2 q.2
def PPs (X : Cx) (pos : Pos) (keys : List (Option Expr)) (values : List Expr) (trs : List (TE × TE)) : Prop :=
  ∀ (pins : List (Addr × Obj)) (s : Shared) (σ : St) (H : Hp) (Q : List (V × V) → Hp → Prop), Inv X pins σ H s → qli_ trs σ H Q →
    wpAny (model X.prog X.w) X.A (evalPairs (pairTrees keys values X.env pos)) (fun vs s' => ∃ ps H', Inv X pins σ H' s' ∧ VV ps vs ∧ Q ps H') X.xe s
theorem qpv_ {X : Cx} {pos : Pos} : PPs X pos [] [] [] := fun pins s σ H Q I h => pairTrees_nil_walk ⟨[], H, I, .nil, h⟩
theorem qfy_ {X : Cx} {pos : Pos} {k v : Expr} {ks : List (Option Expr)} {vs : List Expr} {tk tv : TE} {trs : List (TE × TE)} (hk : PE X k tk) (hv : PE X v tv) (hr : PPs X pos ks vs trs) :
    PPs X pos (some k :: ks) (v :: vs) ((tk, tv) :: trs) := fun pins s σ H Q I h =>
  pairTrees_cons_walk (thn (hk pins s σ H _ I h) fun u s1 ⟨x, H1, I1, rx, q1⟩ => thn (hv pins s1 σ H1 _ I1 q1) fun w2 s2 ⟨y, H2, I2, ry, q2⟩ =>
    thn (hr pins s2 σ H2 _ I2 q2) fun ws s3 ⟨ps, H3, I3, rel, q3⟩ => ⟨(x, y) :: ps, H3, I3, .cons ⟨rx, ry⟩ rel, q3⟩)
def qfv_ (kvs more : List (Key × V)) : List (Key × V) := more.foldl (fun acc kv => putK acc kv.1 kv.2) kvs
theorem KV.merge : ∀ {more : List (Key × V)} {rs : List (Key × Value)} {kvs : List (Key × V)} {vs : List (Key × Value)}, KV more rs → KV kvs vs → KV (qfv_ kvs more) (merged vs rs) := by
  intro more rs kvs vs r
  unfold KV at r
  induction r generalizing kvs vs with
  | nil => intro q; exact q
  | @cons p q ps qs h t ih =>
    intro r0
    have e : KV (putK kvs p.1 p.2) (stored vs q.1 q.2) := by
      have := r0.put p.1 h.2
      rw [← h.1]; exact this
    exact ih e
theorem qd8_ : ∀ (more kvs : List (Key × V)), (qfv_ kvs more).length ≤ kvs.length + more.length
  | [], kvs => by show kvs.length ≤ kvs.length + 0; omega
  | p :: r, kvs => by
    have h1 := qd8_ r (putK kvs p.1 p.2)
    have h2 := qdp_ kvs p.1 p.2
    show (qfv_ (putK kvs p.1 p.2) r).length ≤ _
    rw [List.length_cons]; omega
theorem qfn_ {P : Program} {w : World} : ∀ {kvs : List (Key × V)} {ws : List (Value × Value)}, VV (kvs.map fun kv => (kV kv.1, kv.2)) ws → ∃ rs, Carries (q7_ P w) ws rs ∧ KV kvs rs
  | [], _, r => by rw [List.map_nil] at r; cases r; exact ⟨[], True.intro, .nil⟩
  | p :: kvs, _, r => by
    rw [List.map_cons] at r
    cases r with
    | @cons a b as bs h t =>
      obtain ⟨rs, c, q⟩ := qfn_ (P := P) (w := w) t
      obtain ⟨b1, b2⟩ := b
      exact ⟨(p.1, b2) :: rs, ⟨qnm_ h.1, rfl, c⟩, .cons ⟨rfl, h.2⟩ q⟩
def qvz_ (trs : List (TE × TE)) : TE := fun σ H Q => ∀ p, H p = none → qli_ trs σ (upd H p (.dK [])) fun ps H2 => H2 p = some (.dK []) ∧ ∃ kvs : List (Key × V), ps = kvs.map (fun kv => (kV kv.1, kv.2)) ∧ kvs.length ≤ 15 ∧ Q (.ref p) (upd H2 p (.dK (qfv_ [] kvs)))
theorem qqn_ {X : Cx} {pos : Pos} {keys : List (Option Expr)} {values : List Expr} {trs : List (TE × TE)} (h : PPs X pos keys values trs) (hall : keys.all (·.isSome) = true) (hl : keys.length = values.length) (h0 : keys ≠ [])
    (h15 : keys.length ≤ 15) : PE X (.Dict keys values pos) (qvz_ trs) := by
  intro pins s σ H Q I q
  have hn := I.hok.fresh (Nat.le_refl s.heap.objs.size)
  have I1 := I.laid (a := s.heap.objs.size) (o := .dK []) (h' := s.heap.push { cls := .type "dict", data := .dict #[] }) (t' := s.toks) (fun _ _ q => Heap.get?_push_of_some _ q) (Nat.le_refl _) (qmz_ s.heap I.big)
  refine wpAny_Dict_walk (knd := q7_ X.prog X.w) hall hl h0 h15 (thn (h pins _ σ _ _ I1 (q _ hn)) fun ws s2 ⟨ps, H2, I2, rel, e, kvs, ep, lk, q2⟩ => ?_)
  subst ep
  obtain ⟨rs, c, rk⟩ := qfn_ (P := X.prog) (w := X.w) rel
  obtain ⟨z, hd, vs0, r0, dd⟩ := qsg_ I2.hok e
  cases r0
  refine ⟨rs, c, dd, fun h' dd' hs => ⟨.ref s.heap.objs.size, _, ?_, rfl, q2⟩⟩
  have hz : (qfv_ [] kvs).length ≤ sizeLine := by
    have h1 := qd8_ kvs []
    rw [List.length_nil] at h1
    rw [sizeLine_eq]; omega
  have he : ∃ q, h'.get? s.heap.objs.size = some q := let ⟨q, _, _, hq, _⟩ := dd'; ⟨q, hq⟩
  exact qhz_ I2 (by rw [e]; exact True.intro) hs he (qou_ hz hd (rk.merge .nil) dd')
section
variable {X : Cx} {pins : List (Addr × Obj)} {σ : St} {H : Hp} {s : Shared} {a : Addr} {y d : V} {u r : Value} {o : Option V} {A : Around} {E : Value → Shared → Prop}
end
section
variable {X : Cx} {o e f : Expr} {apos cpos : Pos} {td ty tx : TE}
end
section
variable {X : Cx} {pins : List (Addr × Obj)} {σ : St} {H : Hp} {s : Shared} {a : Addr} {kvs : List (Key × V)} {A : Around} {E : Value → Shared → Prop}
end
section
variable {X : Cx} {pins : List (Addr × Obj)} {σ : St} {H : Hp} {s : Shared} {a : Addr} {y : V} {u : Value} {A : Around} {E : Value → Shared → Prop}
end
end L2

namespace L3
open PySem PySem.Spec PyProof.Rows L2
def Sm (n : Nat) (i : Int) : Prop := i.natAbs < 2 ^ n
theorem Sm.mono {a b : Nat} {i : Int} (h : Sm a i) (k : a ≤ b) : Sm b i := Nat.lt_of_lt_of_le h (Nat.pow_le_pow_right (by decide) k)
theorem Sm.add {a : Nat} {i j : Int} (h : Sm a i) (k : Sm a j) : Sm (a + 1) (i + j) := by
  unfold Sm at *
  have := Int.natAbs_add_le i j
  rw [Nat.pow_succ]
  omega
theorem Sm.neg {a : Nat} {i : Int} (h : Sm a i) : Sm a (-i) := by
  unfold Sm at *
  rw [Int.natAbs_neg]; exact h
theorem Sm.mul {a b : Nat} {i j : Int} (h : Sm a i) (k : Sm b j) : Sm (a + b) (i * j) := by
  unfold Sm at *
  rw [Int.natAbs_mul, Nat.pow_add]
  exact Nat.mul_lt_mul'' h k
theorem Sm.le {a : Nat} {i j : Int} (h : Sm a i) (k : j.natAbs ≤ i.natAbs) : Sm a j := Nat.lt_of_le_of_lt k h
theorem Sm.bits {n : Nat} {i : Int} (h : Sm n i) : Builtin.Int.intBits i ≤ n := by
  unfold Builtin.Int.intBits
  split
  · exact Nat.zero_le _
  · rename_i z
    have nz : i.natAbs ≠ 0 := by
      intro e
      apply z
      rw [Int.natAbs_eq_zero] at e
      subst e
      rfl
    have := (Nat.log2_lt nz (k := n)).mpr h
    omega
theorem Sm.log {n : Nat} {i : Int} (h : Sm n i) (k : 0 < n) : i.natAbs.log2 < n := by
  by_cases z : i.natAbs = 0
  · rw [z]; simpa using k
  · exact (Nat.log2_lt z).mpr h
def CMulS (i j : Int) : Prop := ∃ a b, a + b ≤ 100000000 ∧ Sm a i ∧ Sm b j
theorem CMulS.ok {i j : Int} (h : CMulS i j) : IntMulOk i j := by
  obtain ⟨a, b, ab, hi, hj⟩ := h
  have h1 := hi.bits
  have h2 := hj.bits
  unfold IntMulOk
  intro z
  rw [Bool.and_eq_true] at z
  have z2 := z.2
  unfold Builtin.Int.intTooBig at z2
  have z3 := of_decide_eq_true z2
  have e : (bitsLine : Int) = 134217728 := by decide
  rw [e] at z3
  omega
def qnc_ (_i j : Int) : Prop := j ≠ 0 ∧ Sm 9000 j
section
variable {X : Cx}
theorem qgh_ : OpR X (binaryOp .Mult) (rI CMulS fun i j => .int (i * j)) := opI fun _ _ _ _ _ _ _ hc q => mul_int q hc.ok
theorem qgp_ : OpR X (binaryOp .FloorDiv) (rI qnc_ fun i j => .int (i.fdiv j)) := opI fun _ _ _ _ _ _ _ hc q => floordiv_int hc.1 q (.inl (PyProof.noPylong_of_log2 (hc.2.log (by decide))))
end
section
variable {X : Cx}
end
inductive D where
  | non | bl (b : Bool) | int (i : Int) | str (x : Str) | tup (xs : List D) | lst (xs : List D)
def b2n (b : Bool) : Int := if b then 1 else 0
mutual
def peq : D → D → Bool
  | .non, e => match e with | .non => true | _ => false
  | .bl a, e => match e with | .bl b => a == b | .int i => b2n a == i | _ => false
  | .int i, e => match e with | .bl b => i == b2n b | .int j => i == j | _ => false
  | .str x, e => match e with | .str y => x == y | _ => false
  | .tup ds, e => match e with | .tup es => peqs ds es | _ => false
  | .lst ds, e => match e with | .lst es => peqs ds es | _ => false
def peqs : List D → List D → Bool
  | [], e => match e with | [] => true | _ => false
  | d :: ds, e => match e with | e :: es => peq d e && peqs ds es | [] => false
end
mutual
def dep : D → Nat
  | .tup ds => deps ds + 1
  | .lst ds => deps ds + 1
  | _ => 0
def deps : List D → Nat
  | [] => 0
  | d :: ds => max (dep d) (deps ds)
end
theorem qfp_ {d : D} : ∀ {ds : List D} {i : Nat}, ds[i]? = some d → dep d ≤ deps ds
  | [], i, h => by simp at h
  | e :: ds, 0, h => by simp at h; subst h; rw [deps]; exact Nat.le_max_left _ _
  | e :: ds, i + 1, h => by
    rw [deps]
    exact Nat.le_trans (qfp_ (ds := ds) (i := i) (by simpa using h)) (Nat.le_max_right _ _)
mutual
theorem qb3_ : ∀ d : D, peq d d = true
  | .non => by rw [peq]
  | .bl b => by simp only [peq]; simp
  | .int b => by simp only [peq]; simp
  | .str b => by simp only [peq]; simp
  | .tup ds => by simp only [peq]; exact qcz_ ds
  | .lst ds => by simp only [peq]; exact qcz_ ds
theorem qcz_ : ∀ d : List D, peqs d d = true
  | [] => by rw [peqs]
  | d :: ds => by rw [peqs]; simp [qb3_ d, qcz_ ds]
end
theorem qfz_ : ∀ (ds es : List D), ds.length = es.length → peqs ds es = (List.range ds.length).all fun i => peq (ds.getD i .non) (es.getD i .non)
  | [], [], _ => by rw [peqs]; rfl
  | d :: ds, e :: es, h => by
    rw [peqs, qfz_ ds es (by simpa using h), List.length_cons, List.range_succ_eq_map]
    simp [List.all_map, Function.comp_def]
  | [], _ :: _, h => by simp at h
  | _ :: _, [], h => by simp at h
theorem qgj_ : ∀ (ds es : List D), ds.length ≠ es.length → peqs ds es = false
  | [], [], h => absurd rfl h
  | d :: ds, e :: es, h => by rw [peqs, qgj_ ds es (by simpa using h)]; simp
  | [], _ :: _, h => by simp only [peqs]
  | _ :: _, [], h => by simp only [peqs]
open SeqAt
section
variable {X : Cx} {pins : List (Addr × Obj)} {σ : L2.St} {H : Hp} {s : Shared}
theorem qcd_ {A : Around} : A.in1.units = A.units + 1 := rfl
theorem qi7_ {ds es : List D} {us ts : List Value} (l1 : ds.length = us.length) (l2 : es.length = ts.length) :
    ((List.range (min us.toArray.size ts.toArray.size)).all (fun j => peq (ds.getD j .non) (es.getD j .non)) && us.toArray.size == ts.toArray.size) = peqs ds es := by
  by_cases h : ds.length = es.length
  · have e : us.toArray.size = ds.length := by simp [l1]
    have e2 : ts.toArray.size = ds.length := by simp [h, l2]
    rw [e, e2, qfz_ ds es h, Nat.min_self]
    simp
  · rw [qgj_ ds es h]
    have : (us.toArray.size == ts.toArray.size) = false := by
      rw [beq_eq_false_iff_ne]
      simp only [List.size_toArray, ← l1, ← l2]
      exact h
    rw [this, Bool.and_false]
end
section
variable {X : Cx}
end
theorem Room.u60 {k : Nat} {A : Around} (r : Room k A) : A.units + 60 < cLine := by have := r.un; omega
end L3
namespace L3
open PySem PySem.Spec PyProof.Rows L2
abbrev S := L2.St
theorem qkv_ {prog : Program} {w : World} {A : Around} {R : Result → Shared → Prop} {s : Shared} {elt target iter : Expr} {ifs : List Expr} {scope : Scope} {pos : Pos} {it acc : Value} {env : Env} (J : Nat → Shared → Prop)
    (turn : ∀ n s, J n s → wpAny (model prog w) A (pyNext it) (fun r s1 => match r with
      | none => R (.ok .next) s1
      | some v => wpAny (model prog w) A (letOwnedTupleGo target it v) (fun _ s2 => wpAny (model prog w) A (assign target env v) (fun _ s3 =>
          wpAny (model prog w) A (forIn ifs true fun c r => if r = true then do let ok ← isTrue c env (eval c env); pure (ForInStep.yield ok) else pure (ForInStep.yield r)) (fun ok s4 =>
            if ok = true then wpAny (model prog w) A (eval elt env) (fun x s5 => wpAny (model prog w) A (call (.builtin "list.append") [acc, x]) (fun _ s6 => ∃ m, m < n ∧ J m s6) (fun _ _ => False) s5) (fun _ _ => False) s4
            else ∃ m, m < n ∧ J m s4) (fun _ _ => False) s3) (fun _ _ => False) s2) (fun _ _ => False) s1) (fun _ _ => False) s)
    (n : Nat) (h : J n s) : codeAny (model prog w) A (.compLoop (.ListComp elt [⟨target, iter, ifs, 0⟩] scope pos) 0 it acc env) R s := by
  refine codeAny_loop rfl J (fun n s hJ => ?_) n h
  show wpAny (model prog w) A ((compTurn (.ListComp elt [⟨target, iter, ifs, 0⟩] scope pos) 0 it acc env).onRaise (fun x => do noteFrame x env; theTreesLotGoes x)) _ _ s
  refine wpAny_noted ?_
  rw [compTurn_list]
  refine wpAny_bind (wpAny_standAt (wpAny_bind (wpAny_mono (turn n s hJ) (fun r s1 h1 => ?_) fun _ _ z => z.elim)))
  cases r with
  | none => exact wpAny_pure h1
  | some v =>
    refine wpAny_bind (wpAny_mono h1 (fun _ s2 h2 => wpAny_bind (wpAny_mono h2 (fun _ s3 h3 => wpAny_bind (wpAny_mono h3 (fun ok s4 h4 => ?_) fun _ _ z => z.elim)) fun _ _ z => z.elim)) fun _ _ z => z.elim)
    cases ok with
    | false => exact wpAny_pure ⟨rfl, h4⟩
    | true => exact wpAny_bind (wpAny_bind (wpAny_mono h4 (fun x s5 h5 => wpAny_bind (wpAny_mono h5 (fun _ s6 h6 => wpAny_pure (wpAny_pure ⟨rfl, h6⟩)) fun _ _ z => z.elim)) fun _ _ z => z.elim))
def clOf (env : Env) : List (Str × NameKind) → List (Str × Addr) → List (Str × Addr)
  | [], acc => acc
  | (n, k) :: r, acc => if k == .free then clOf env r ((n, (env.cells.lookup n).getD 0) :: acc) else clOf env r acc
theorem qcu_ {env : Env} : ∀ (names : List (Str × NameKind)) (acc : List (Str × Addr)), (names.all fun y => y.2 != .free || (env.cells.lookup y.1).isSome) = true →
    (forIn names acc (fun (x : Str × NameKind) (cs : List (Str × Addr)) => match x with | (name, kind) => if (kind == NameKind.free) = true then do let a ← cellOf env name; pure (ForInStep.yield ((name, a) :: cs)) else pure (ForInStep.yield cs)) : Sem (List (Str × Addr))) = pure (clOf env names acc)
  | [], acc, _ => rfl
  | (n, k) :: r, acc, h => by
    rw [List.all_cons, Bool.and_eq_true] at h
    rw [List.forIn_cons]
    dsimp only
    by_cases hk : (k == NameKind.free) = true
    · rw [if_pos hk]
      have h1 := h.1
      have e : k = .free := by simpa using hk
      subst e
      simp only [bne_self_eq_false, Bool.false_or] at h1
      obtain ⟨a, ha⟩ := Option.isSome_iff_exists.mp h1
      have : cellOf env n = pure a := by unfold cellOf; rw [ha]
      rw [this, pure_bind, pure_bind]
      dsimp only
      rw [qcu_ r _ h.2, clOf, if_pos hk, ha]
      rfl
    · rw [if_neg hk, pure_bind]
      dsimp only
      rw [qcu_ r _ h.2, clOf, if_neg hk]
theorem qfq_ {scope : Scope} {env : Env} (h : (scope.names.all fun y => y.2 != .free || (env.cells.lookup y.1).isSome) = true) : closureFor scope env = pure (clOf env scope.names []) := by
  unfold closureFor
  show (forIn scope.names [] _ >>= fun r => pure r) = _
  rw [bind_pure]
  exact qcu_ scope.names [] h
theorem qch_ {env : Env} {x : Str} {c : Addr} : ∀ (names : List (Str × NameKind)) (acc : List (Str × Addr)), (names.all fun y => y.2 != .free || (env.cells.lookup y.1).isSome) = true →
    (∀ c, acc.lookup x = some c → env.cells.lookup x = some c) → (clOf env names acc).lookup x = some c → env.cells.lookup x = some c
  | [], acc, _, ha, h => ha c h
  | (n, k) :: r, acc, hall, ha, h => by
    rw [List.all_cons, Bool.and_eq_true] at hall
    rw [clOf] at h
    by_cases hk : (k == NameKind.free) = true
    · rw [if_pos hk] at h
      refine qch_ r _ hall.2 (fun c hc => ?_) h
      rw [List.lookup_cons] at hc
      split at hc
      · rename_i hx
        have hx' : x = n := by simpa using hx
        subst hx'
        have h1 := hall.1
        have e : k = .free := by simpa using hk
        subst e
        simp only [bne_self_eq_false, Bool.false_or] at h1
        obtain ⟨a, ha'⟩ := Option.isSome_iff_exists.mp h1
        rw [ha'] at hc ⊢
        exact hc
      · exact ha c hc
    · rw [if_neg hk] at h
      exact qch_ r acc hall.2 ha h
theorem qgf_ {env : Env} {x : Str} : ∀ (names : List (Str × NameKind)) (acc : List (Str × Addr)), (∃ c, acc.lookup x = some c) → ∃ c, (clOf env names acc).lookup x = some c
  | [], acc, h => h
  | (n, k) :: r, acc, h => by
    rw [clOf]
    split
    · refine qgf_ r _ ?_
      rw [List.lookup_cons]
      split
      · exact ⟨_, rfl⟩
      · exact h
    · exact qgf_ r acc h
theorem qem_ {env : Env} {x : Str} : ∀ (names : List (Str × NameKind)) (acc : List (Str × Addr)), (x, NameKind.free) ∈ names → ∃ c, (clOf env names acc).lookup x = some c
  | [], _, h => nomatch h
  | (n, k) :: r, acc, h => by
    rw [clOf]
    rcases List.mem_cons.mp h with e | h
    · cases e
      rw [if_pos (by rfl)]
      exact qgf_ r _ ⟨(env.cells.lookup x).getD 0, by rw [List.lookup_cons]; simp⟩
    · split
      · exact qem_ r _ h
      · exact qem_ r acc h
theorem qev_ {scope : Scope} {env : Env} {x : Str} {k : NameKind} (hc : ∀ y ∈ scope.names, y.2 ≠ .cell) (hk : k = .cell ∨ k = .free) (h : (relabel scope env).names.lookup x = some k) : (x, NameKind.free) ∈ scope.names := by
  have h1 := PySem.mem_of_lookup h
  unfold relabel at h1
  obtain ⟨⟨n, k'⟩, hm, e⟩ := List.mem_map.mp h1
  dsimp only at e
  split at e
  · rename_i hq
    cases e
    rw [Bool.and_eq_true, Bool.and_eq_true] at hq
    have : k' = .free := by simpa using hq.1.1
    subst this
    exact hm
  · cases e
    rcases hk with rfl | rfl
    · exact absurd rfl (hc _ hm)
    · exact hm
def qt_ (X : Cx) (pins : List (Addr × Obj)) (s2 : Shared) (H2 : Hp) (N : List Str) (scope : Scope) (C : Addr) (fp : List Addr) : Cx :=
  { X with N := N, s₀ := s2, H₀ := H2, env := compEnvC scope (clOf X.env scope.names []) C X.env, outer := X.stack, stack := X.stack, ex := fp, fn := fun _ => false, pn := X.pn ++ pins, xe := fun _ _ => False }
def ini (src : List (Option Nat)) (σ : S) : S := src.map fun o => o.bind fun j => (σ[j]?).join
structure CompOk (X : Cx) (scope : Scope) (N : List Str) (src : List (Option Nat)) : Prop where
  kind : scope.kind = .function
  names : ∀ x ∈ scope.names, x.2 = .local → scope.names.lookup x.1 = some .local
  ncell : ∀ y ∈ scope.names, y.2 ≠ .cell
  clos : (scope.names.all fun y => y.2 != .free || (X.env.cells.lookup y.1).isSome) = true
  len : src.length = N.length
  free : ∀ (i : Nat) (x : Str) (j : Nat), N[i]? = some x → src[i]? = some (some j) → X.N[j]? = some x ∧ Vis X.env.scope x ∧ X.env.scope.names.lookup x ≠ some .local ∧
    ((relabel scope X.env).names.lookup x = some .cell ∨ (relabel scope X.env).names.lookup x = some .free)
theorem qi1_ {X : Cx} {pins : List (Addr × Obj)} {σ : S} {H H' : Hp} {s : Shared} {b : Addr} (I : Inv X pins σ H s) (h : FpOk X pins H' b) : b ∉ frs X.stack := fun z => by
  rcases List.mem_cons.mp (I.stkSub b z) with e | e
  · exact h.2.1 e
  · exact h.2.2.1 e
theorem qm4_ {X : Cx} {pins : List (Addr × Obj)} {σ : S} {H : Hp} {s2 : Shared} {scope : Scope} {N : List Str} {src : List (Option Nat)} {fp : List Addr} (I : Inv X pins σ H s2) (ok : CompOk X scope N src) (hf : ∀ b ∈ fp, FpOk X pins H b) (hfo : ∀ b ∈ fp, ∃ o, s2.heap.get? b = some o)
    {D C : Addr} {h' : Heap} {t : Nat} (hD : s2.heap.objs.size ≤ D) (hC : s2.heap.objs.size ≤ C) (hCD : C ≠ D) (keep : ∀ b o, s2.heap.get? b = some o → h'.get? b = some o) (hns : h'.Ns C (fun _ => none)) (hnew : h'.get? D = some { cls := .type "list", data := .seq #[] }) :
    Inv (qt_ X pins s2 H N scope C fp) [] (ini src σ) (upd H D (.lst [])) { s2 with heap := h', toks := t } := by
  have hH : ∀ a, s2.heap.objs.size ≤ a → H a = none := fun a ha => I.hok.fresh ha
  have lt : ∀ {b : Addr} {o : Obj}, s2.heap.get? b = some o → b < s2.heap.objs.size := fun e => Heap.lt_size e
  have cl_of : ∀ x c, (clOf X.env scope.names []).lookup x = some c → X.env.cells.lookup x = some c := fun x c e => qch_ scope.names [] ok.clos (fun c z => by simp at z) e
  have hlk : HOk X.prog X.w (upd H D (.lst [])) h' := I.hok.laid keep hD ⟨Nat.zero_le _, [], 0, .nil, hnew⟩
  have un : Un (frs X.stack) fp H (upd H D (.lst [])) s2.heap h' := Un.laid keep hD (hH D hD)
  obtain ⟨m0, hn0, hl0⟩ := I.loc
  refine ⟨⟨I.ok.mod, ?_, I.ok.glob, I.ok.blt, hC, fun x y c e1 e2 => I.ok.inj x y c (cl_of x c e1) (cl_of y c e2), fun x hx => ?_, fun x c z => ?_, I.ok.hd, I.ok.frames, .inl rfl, fun b hb => ⟨?_, fun x c e => ?_⟩, I.bs, Nat.le_trans I.ok.bsz I.sz, fun b o e hb => ?_, fun b hb => qi1_ I (hf b hb), I.stack, I.stkFree⟩,
    rfl, I.bare, un, ⟨_, hns, fun i x v e1 e2 e3 => ?_⟩, fun x c e => ?_, ?_, fun x c e => ?_, fun p hp => ?_, hlk, ?_⟩
  · exact ok.kind
  · obtain ⟨k, hk, hx⟩ : ∃ k, (k = NameKind.cell ∨ k = .free) ∧ (relabel scope X.env).names.lookup x = some k := by
      rcases hx with hx | hx
      · exact ⟨_, .inl rfl, hx⟩
      · exact ⟨_, .inr rfl, hx⟩
    exact qem_ _ _ (qev_ ok.ncell hk hx)
  · exact absurd z (by simp [qt_])
  · obtain ⟨o, e⟩ := hfo b hb
    intro z
    have z' : b = C := z
    subst z'
    exact Nat.lt_irrefl _ (Nat.lt_of_lt_of_le (lt e) hC)
  · intro z
    exact (hf b hb).2.2.2.2.1 x c (cl_of x c e) z
  · obtain ⟨f0, f1, f2, f3, f4, f5⟩ := hf b hb
    rcases f3 with z | z
    · exact I.ok.noex b o e z
    · exact absurd (Nat.lt_of_lt_of_le (Heap.lt_size (I.ok.bs b o e).1) z) (Nat.lt_irrefl _)
  · have hj : ∃ j, src[i]? = some (some j) ∧ σ[j]? = some (some v) := by
      unfold ini at e2
      rw [List.getElem?_map] at e2
      cases q : src[i]? with
      | none => rw [q] at e2; simp at e2
      | some oj =>
        cases oj with
        | none => rw [q] at e2; simp at e2
        | some j =>
          rw [q] at e2
          simp only [Option.map_some, Option.bind_some, Option.some.injEq] at e2
          refine ⟨j, rfl, ?_⟩
          cases q2 : σ[j]? with
          | none => rw [q2] at e2; simp at e2
          | some ov => rw [q2] at e2; simp only [Option.join_some] at e2; rw [e2]
    obtain ⟨j, hj1, hj2⟩ := hj
    obtain ⟨g1, g2, g3, g4⟩ := ok.free i x j e1 hj1
    obtain ⟨u, ru, lk⟩ := hl0 j x v g1 hj2 g2
    refine ⟨u, ru, ?_⟩
    rcases lk with ⟨hk, _⟩ | ⟨hk, c, hc, hcell⟩
    · exact absurd hk g3
    · obtain ⟨k, hk1, hk2⟩ : ∃ k, (k = NameKind.cell ∨ k = .free) ∧ (relabel scope X.env).names.lookup x = some k := by
        rcases g4 with hx | hx
        · exact ⟨_, .inl rfl, hx⟩
        · exact ⟨_, .inr rfl, hx⟩
      obtain ⟨c', hc'⟩ := qem_ (env := X.env) scope.names [] (qev_ ok.ncell hk1 hk2)
      have ec := cl_of x c' hc'
      rw [hc] at ec
      cases ec
      refine .inr ⟨?_, c, hc', ?_⟩
      · rcases g4 with hx | hx
        · exact .inl hx
        · exact .inr hx
      · obtain ⟨o, ho, hd⟩ := hcell
        exact ⟨o, keep c o ho, hd⟩
  · obtain ⟨v, o, ho, hd⟩ := I.cell x c (cl_of x c e)
    exact ⟨v, o, keep c o ho, hd⟩
  · show upd H D (.lst []) C = none
    rw [qh_ hCD]
    exact hH C hC
  · obtain ⟨v, o, ho, hd⟩ := I.cell x c (cl_of x c e)
    rw [qh_ (Nat.ne_of_lt (Nat.lt_of_lt_of_le (lt ho) hD))]
    exact I.freeC x c (cl_of x c e)
  · have hp' : p ∈ X.pn ++ pins := by
      have : p ∈ (X.pn ++ pins) ++ [] := hp
      simpa using this
    obtain ⟨q1, q2, q3, q4, q5⟩ := I.pin p hp'
    refine ⟨keep _ _ q1, ?_, ?_, fun z => ?_, q5⟩
    · rw [qh_ (Nat.ne_of_lt (Nat.lt_of_lt_of_le (lt q1) hD))]; exact q2
    · show p.1 ≠ C
      exact Nat.ne_of_lt (Nat.lt_of_lt_of_le (lt q1) hC)
    · have z' : p.1 ∈ frs X.stack := z
      rcases List.mem_cons.mp (I.stkSub _ z') with e | e
      · exact q3 e
      · exact q4 e
  · show (ini src σ).length = N.length
    unfold ini
    rw [List.length_map]
    exact ok.len
theorem qro_ {X : Cx} {pins : List (Addr × Obj)} {σ : S} {H Hc : Hp} {s2 : Shared} {scope : Scope} {N : List Str} {C : Addr} {fp : List Addr} (I : Inv X pins σ H s2) (hf : ∀ b ∈ fp, FpOk X pins H b) (hfo : ∀ b ∈ fp, ∃ o, s2.heap.get? b = some o) (hC : s2.heap.objs.size ≤ C)
    (clos : (scope.names.all fun y => y.2 != .free || (X.env.cells.lookup y.1).isSome) = true) (hn : ∀ b ∈ fp, Hc b = none) : ∀ b ∈ fp, FpOk (qt_ X pins s2 H N scope C fp) [] Hc b := fun b hb => by
  obtain ⟨o, e⟩ := hfo b hb
  refine ⟨hn b hb, Nat.ne_of_lt (Nat.lt_of_lt_of_le (Heap.lt_size e) hC), qi1_ I (hf b hb), .inl hb, fun x c q => ?_, fun p hp => ?_⟩
  · exact (hf b hb).2.2.2.2.1 x c (qch_ scope.names [] clos (fun c z => by simp at z) q)
  · have hp' : p ∈ X.pn ++ pins := by
      have : p ∈ (X.pn ++ pins) ++ [] := hp
      simpa using this
    exact (hf b hb).2.2.2.2.2 p hp'
theorem qno_ {X : Cx} {pins : List (Addr × Obj)} {σ σc : S} {H Hc : Hp} {s2 s' : Shared} {scope : Scope} {N : List Str} {C : Addr} {fp : List Addr} {pl : List (Addr × Obj)} (I : Inv X pins σ H s2) (hf : ∀ b ∈ fp, FpOk X pins H b)
    (J : Inv (qt_ X pins s2 H N scope C fp) pl σc Hc s') : Inv X pins σ Hc s' :=
  I.call' (ch := fp) J.os J.base J.hok J.bare fun b hb => by
    obtain ⟨f0, f1, f2, f3, f4, f5⟩ := hf b hb
    exact ⟨f3, f1, f4, f5⟩
def qtx_ (J : It) (g : TG) (tc : TT) (te : TE) (D : Addr) (σ : S) (H : Hp) (R : Hp → Prop) : Prop := ∃ W : Nat → Nat → S → Hp → Prop, (∃ m, W 0 m σ H) ∧ ∀ i m σ2 H2, W i m σ2 H2 →
  (J.stop i H2 ∧ R H2) ∨ (J.go i H2 ∧ ∃ N : S → Hp → Prop, (∀ σ' H', N σ' H' → ∃ m', m' < m ∧ W (i + 1) m' σ' H') ∧ ∀ x H3, J.yld i H2 x H3 → g x σ2 H3 fun σ4 H4 => tc σ4 H4 fun b H5 =>
    if b = true then te σ4 H5 fun y H6 => ∃ ys, H6 D = some (.lst ys) ∧ ys.length < sizeLine ∧ N σ4 (upd H6 D (.lst (ys ++ [y]))) else N σ4 H5)
def ql7_ (wi : TI) (g : TG) (tc : TT) (te : TE) (src : List (Option Nat)) : TE := fun σ H Q => wi σ H fun J H1 => ∀ D, H1 D = none → qtx_ J g tc te D (ini src σ) (upd H1 D (.lst [])) (Q (.ref D))
def tYes : TT := fun _ H Q => Q true H
def PIfs (X : Cx) (ifs : List Expr) (t : TT) : Prop :=
  ∀ (pins : List (Addr × Obj)) (s : Shared) (σ : S) (H : Hp) (Q : Bool → Hp → Prop), Inv X pins σ H s → t σ H Q →
    wpAny (model X.prog X.w) X.A (forIn ifs true fun c r => if r = true then do let ok ← isTrue c X.env (eval c X.env); pure (ForInStep.yield ok) else pure (ForInStep.yield r)) (TP X pins σ Q) X.xe s
theorem qpm_ {X : Cx} : PIfs X [] tYes := fun _ _ _ H _ I h => wpAny_tests_nil ⟨H, I, h⟩
theorem qqe_ {X : Cx} {c : Expr} {t : TT} (h : PT X c t) : PIfs X [c] t := fun pins s σ H Q I q => wpAny_tests_one (h pins s σ H Q I q)
theorem qg6_ {X : Cx} {pins : List (Addr × Obj)} {σ : S} {H2 : Hp} {s2 : Shared} {scope : Scope} {N : List Str} {src : List (Option Nat)} {fp : List Addr} {it : Addr} {tn : Nat → Heap → Prop} {J : It} {tg elt iter : Expr} {ifs : List Expr} {pos : Pos} {g : TG} {tc : TT} {te : TE} {Q : VK}
    {E : Value → Shared → Prop} {RR : Value → Addr → Result → Shared → Prop}
    (ok : CompOk X scope N src) (hcalm : X.calm = true) (I : Inv X pins σ H2 s2) (T : Turn X.prog X.w X.K tg J fp it tn) (st : tn 0 s2.heap) (hf : ∀ b ∈ fp, FpOk X pins H2 b)
    (hg : ∀ C, PG (qt_ X pins s2 H2 N scope C fp) tg g) (hc : ∀ C, PIfs (qt_ X pins s2 H2 N scope C fp) ifs tc) (he : ∀ C, PE (qt_ X pins s2 H2 N scope C fp) elt te)
    (h : ∀ D, H2 D = none → qtx_ J g tc te D (ini src σ) (upd H2 D (.lst [])) (Q (.ref D)))
    (hRR : ∀ D C s' H', FpOk X pins H' C → (∃ m, s'.heap.Ns C m) → Inv X pins σ H' s' → Q (.ref D) H' → RR (.ref D) C (.ok .next) s') :
    wpAny (model X.prog X.w) X.A (newList []) (fun acc s3 => wpAny (model X.prog X.w) X.A (newFunctionEnv scope X.env.globals (clOf X.env scope.names []) [] X.env.qual none .none (some X.env)) (fun cenv s4 =>
      codeAny (model X.prog X.w) X.A (.compStart (.ListComp elt [⟨tg, iter, ifs, 0⟩] scope pos) 0 (.ref it) acc { cenv with scope := relabel scope X.env }) (RR acc cenv.locals) s4) E s3) E s2 := by
  refine wpAny_newObj_type (wpAny_newFunctionEnv ok.ncell (by intro y hy; simp at hy) (fun h1 hns1 hsb1 => ?_) ok.kind)
  have hfo : ∀ b ∈ fp, ∃ o, s2.heap.get? b = some o := fun b hb => let ⟨o, e, _⟩ := T.obj 0 _ st b hb; ⟨o, e⟩
  have hpush : (s2.heap.push { cls := .type "list", dict := none, data := .seq ([] : List Value).toArray }).objs.size = s2.heap.objs.size + 1 := Heap.size_push ..
  generalize hH : s2.heap.push { cls := .type "list", dict := none, data := .seq ([] : List Value).toArray } = hp at hns1 hsb1 hpush ⊢
  dsimp only at hns1 hsb1 ⊢
  have hD : s2.heap.objs.size ≤ s2.heap.objs.size := Nat.le_refl _
  have hC : s2.heap.objs.size ≤ hp.objs.size := by rw [hpush]; exact Nat.le_succ _
  have hCD : hp.objs.size ≠ s2.heap.objs.size := by rw [hpush]; exact Nat.succ_ne_self _
  have keep : ∀ b o, s2.heap.get? b = some o → h1.get? b = some o := fun b o e =>
    hsb1.extBut b o (Nat.ne_of_lt (Nat.lt_of_lt_of_le (Heap.lt_size e) hC)) (Heap.get?_push_of_some _ (hH ▸ Heap.get?_push_of_some _ e))
  have hnew : h1.get? s2.heap.objs.size = some { cls := .type "list", data := .seq #[] } :=
    hsb1.extBut _ _ (Ne.symm hCD) (Heap.get?_push_of_some _ (hH ▸ Heap.get?_push_size _ rfl))
  have hHD : H2 s2.heap.objs.size = none := I.hok.fresh hD
  obtain ⟨W, ⟨m0, w0⟩, turn⟩ := h _ hHD
  have I0 := qm4_ (t := s2.toks + ([] : List (Str × Value)).length) I ok hf hfo hD hC hCD keep hns1 hnew
  have f0 : ∀ b ∈ fp, upd H2 s2.heap.objs.size (.lst []) b = none := fun b hb => by
    obtain ⟨o, e⟩ := hfo b hb
    rw [qh_ (Nat.ne_of_lt (Heap.lt_size e))]
    exact (hf b hb).1
  have st0 : tn 0 h1 := T.keep 0 _ _ st fun b _ o e => keep b o e
  have loop : codeAny (model X.prog X.w) X.A (.compLoop (.ListComp elt [⟨tg, iter, ifs, 0⟩] scope pos) 0 (.ref it) (.ref s2.heap.objs.size) (compEnvC scope (clOf X.env scope.names []) hp.objs.size X.env))
      (RR (.ref s2.heap.objs.size) hp.objs.size) { s2 with heap := h1, toks := s2.toks + ([] : List (Str × Value)).length } := by
    refine qkv_ (fun n s => ∃ i σc Hc, Inv (qt_ X pins s2 H2 N scope hp.objs.size fp) [] σc Hc s ∧ tn i s.heap ∧ (∀ b ∈ fp, Hc b = none) ∧ W i n σc Hc) ?_ m0 ⟨0, _, _, I0, st0, f0, w0⟩
    rintro n s3 ⟨i, σ3, H3, I3, st3, fr3, w3⟩
    have fps := fun {Hc : Hp} (hn : ∀ b ∈ fp, Hc b = none) => qro_ (N := N) I hf hfo hC ok.clos hn
    rcases turn i n σ3 H3 w3 with ⟨stop, qn⟩ | ⟨go, NN, hNN, step⟩
    · refine wpAny_mono (T.done (qt_ X pins s2 H2 N scope hp.objs.size fp) rfl rfl rfl hcalm i [] s3 σ3 H3 (fun _ _ => False) I3 (fps fr3) st3 stop) (fun r s4 h4 => ?_) fun _ _ z => z
      obtain ⟨rfl, I4⟩ := h4
      have J4 := qno_ I hf I4
      obtain ⟨m4, n4, _⟩ := I4.loc
      exact hRR _ _ s4 H3 (I.fpOk hC I4.free) ⟨m4, n4⟩ J4 qn
    · refine wpAny_mono (T.item (qt_ X pins s2 H2 N scope hp.objs.size fp) rfl rfl rfl hcalm i [] s3 σ3 H3 (fun _ _ => False) I3 (fps fr3) st3 go) (fun r s4 h4 => ?_) fun _ _ z => z
      obtain ⟨u, rfl, h4⟩ := h4
      refine wpAny_mono h4 (fun _ s5 h5 => ?_) fun _ _ z => z
      obtain ⟨x, H5, I5, r5, y5, st5, fr5⟩ := h5
      have I5' := I5.pinned (fps fr5) (T.obj _ _ st5)
      refine wpAny_mono (hg hp.objs.size _ s5 σ3 H5 x u _ I5' r5 (step x H5 y5)) (fun _ s6 h6 => ?_) fun _ _ z => z
      obtain ⟨σ6, H6, I6, q6⟩ := h6
      refine wpAny_mono (hc hp.objs.size _ s6 σ6 H6 _ I6 q6) (fun b s7 h7 => ?_) fun _ _ z => z
      obtain ⟨H7, I7, q7⟩ := h7
      have again : ∀ {s8 : Shared} {H8 : Hp}, Inv (qt_ X pins s2 H2 N scope hp.objs.size fp) ([] ++ qg5_ fp s5.heap) σ6 H8 s8 → NN σ6 H8 → ∃ m, m < n ∧ ∃ i σc Hc, Inv (qt_ X pins s2 H2 N scope hp.objs.size fp) [] σc Hc s8 ∧ tn i s8.heap ∧ (∀ b ∈ fp, Hc b = none) ∧ W i m σc Hc := fun {s8 H8} I8 q8 => by
        obtain ⟨m', hm, w8⟩ := hNN _ _ q8
        refine ⟨m', hm, i + 1, σ6, H8, I8.unpinned, T.keep _ _ _ st5 fun b hb o e => (I8.pin (b, o) (List.mem_append_right _ (List.mem_append_right _ (qda_ hb e)))).1, fun b hb => ?_, w8⟩
        obtain ⟨o, e, d⟩ := T.obj _ _ st5 b hb
        exact (I8.pin (b, o) (List.mem_append_right _ (List.mem_append_right _ (qda_ hb e)))).2.1
      cases b with
      | false =>
        rw [if_neg Bool.false_ne_true] at q7 ⊢
        exact again I7 q7
      | true =>
        rw [if_pos rfl] at q7 ⊢
        refine wpAny_mono (he hp.objs.size _ s7 σ6 H7 _ I7 q7) (fun yv s8 h8 => ?_) fun _ _ z => z
        obtain ⟨y, H8, I8, r8, ys, hys, hz, q8⟩ := h8
        refine wpAny_mono (qfa_ (X := qt_ X pins s2 H2 N scope hp.objs.size fp) _ s8 σ6 H8 (.ref s2.heap.objs.size) [y] _ [yv] (fun _ H9 => NN σ6 H9) I8 rfl (.cons r8 .nil) ⟨_, ys, y, rfl, rfl, hys, hz, q8⟩) (fun _ s9 h9 => ?_) fun _ _ z => z
        obtain ⟨_, H9, I9, _, q9⟩ := h9
        exact again I9 q9
  exact codeAny_compStart_list loop (T.self _ _ _ _ _ st0 loop)
theorem qlh_ {X : Cx} {scope : Scope} {tg elt iter : Expr} {ifs : List Expr} {pos : Pos} {wi : TI} {g : TG} {tc : TT} {te : TE} (N : List Str) (src : List (Option Nat)) (ok : CompOk X scope N src) (hcalm : X.calm = true) (hi : PI X tg iter wi)
    (hg : ∀ pins s2 H2 C fp, PG (qt_ X pins s2 H2 N scope C fp) tg g) (hc : ∀ pins s2 H2 C fp, PIfs (qt_ X pins s2 H2 N scope C fp) ifs tc) (he : ∀ pins s2 H2 C fp, PE (qt_ X pins s2 H2 N scope C fp) elt te)
    (hs : ∀ x, foldedSetIterable iter X.env x = pure x := by intro _; rfl) : PE X (.ListComp elt [⟨tg, iter, ifs, 0⟩] scope pos) (ql7_ wi g tc te src) := by
  intro pins s σ H Q I h
  rw [eval_ListComp]
  refine wpAny_comprehension_free (use := none) rfl hs (qfq_ ok.clos) ok.kind ok.names (wpAny_mono (hi pins s σ H _ I h) (fun xv s1 h1 => wpAny_mono h1 (fun itv s2 h2 => ?_) fun _ _ e => e) fun _ _ e => e)
  obtain ⟨it, fp, tn, J, H2, rfl, I2, T, st2, f2, hh⟩ := h2
  refine qg6_ (RR := fun acc C => compPost (model X.prog X.w) X.A X.xe none (EP X pins σ Q) acc C) ok hcalm I2 T st2 f2 (fun C => hg pins s2 H2 C fp) (fun C => hc pins s2 H2 C fp) (fun C => he pins s2 H2 C fp) hh ?_
  intro D C s' H' fC hns I' q
  obtain ⟨m, hm⟩ := hns
  refine ⟨m, hm, fun h' hs' => ?_⟩
  obtain ⟨f0, f1, f2, f3, f4, f5⟩ := fC
  exact ⟨.ref D, H', I'.turned (t' := s'.toks) (fun b o hb e => hs'.extBut b o hb e) f0 f1 f3 f4 f5, rfl, q⟩
theorem qfu_ {X : Cx} {scope : Scope} {tg elt iter : Expr} {ifs : List Expr} {pos cpos pos' : Pos} {wi : TI} {g : TG} {tc : TT} {te : TE} {k : Nat} {x : Str} (hN : X.N.Nodup) (hk : X.N[k]? = some x) (hx : Loc X.env.scope x) (N : List Str) (src : List (Option Nat)) (ok : CompOk X scope N src) (hcalm : X.calm = true) (hi : PI X tg iter wi)
    (hg : ∀ pins s2 H2 C fp, PG (qt_ X pins s2 H2 N scope C fp) tg g) (hc : ∀ pins s2 H2 C fp, PIfs (qt_ X pins s2 H2 N scope C fp) ifs tc) (he : ∀ pins s2 H2 C fp, PE (qt_ X pins s2 H2 N scope C fp) elt te)
    (hsw : swapsWith (.ListComp elt [⟨tg, iter, ifs, 0⟩] scope cpos) (some (.Name x pos')) pos.line X.env = pure true := by rfl)
    (hs : ∀ x, foldedSetIterable iter X.env x = pure x := by intro _; rfl) (hfn : X.fn x = true ∨ X.env.scope.names.lookup x = some .local := by first | exact .inl rfl | exact .inr rfl | assumption) :
    PS X (.Assign [.Name x pos'] (.ListComp elt [⟨tg, iter, ifs, 0⟩] scope cpos) pos) (tAsg (ql7_ wi g tc te src) (qms_ k)) := by
  intro pins s σ H D I h
  rw [exec_Assign_Name_used _ _ _ _ hsw]
  refine wpAny_bind (wpAny_standAt (wpAny_bind ?_))
  show wpAny _ X.A (do let _ ← comprehension (.ListComp elt [⟨tg, iter, ifs, 0⟩] scope cpos) scope X.env _ (newList []) false (eval iter X.env) (some (assign (.Name x pos') X.env))) _ _ s
  refine wpAny_bind (wpAny_mono (wpAny_comprehension_free (use := some (assign (.Name x pos') X.env)) (Q := fun _ s' => SP X pins D .next s') rfl hs (qfq_ ok.clos) ok.kind ok.names
    (wpAny_mono (hi pins s σ H _ I h) (fun xv s1 h1 => wpAny_mono h1 (fun itv s2 h2 => ?_) fun _ _ e => e) fun _ _ e => e)) (fun _ s' hq => wpAny_pure (wpAny_pure hq)) fun _ _ e => e)
  obtain ⟨it, fp, tn, J, H2, rfl, I2, T, st2, f2, hh⟩ := h2
  refine qg6_ (Q := fun v H' => D.nx (σ.set k (some v)) H') (RR := fun acc C => compPost (model X.prog X.w) X.A X.xe (some (assign (.Name x pos') X.env)) (fun _ s' => SP X pins D .next s') acc C) ok hcalm I2 T st2 f2 (fun C => hg pins s2 H2 C fp) (fun C => hc pins s2 H2 C fp) (fun C => he pins s2 H2 C fp) hh ?_
  intro D' C s' H' fC hns I' q
  obtain ⟨m, hm⟩ := hns
  show wpAny _ X.A (assign (.Name x pos') X.env (.ref D')) _ _ _
  refine wpAny_assign_Name (qg0_ I' hN hk hx (v := .ref D') rfl (fun s'' I'' ⟨a, hsa, ha⟩ => ?_) hfn)
  obtain ⟨f0, f1, f2, f3, f4, f5⟩ := fC
  have hCa : C ≠ a := by
    rcases ha with e | e
    · rw [e]; exact f1
    · exact Ne.symm (f4 x a e)
  refine ⟨m, hm.sameBut hsa hCa, fun h' hs' => ?_⟩
  exact ⟨_, H', I''.turned (t' := s''.toks) (fun b o hb e => hs'.extBut b o hb e) f0 f1 f3 f4 f5, q⟩
end L3
namespace L3
open PySem PySem.Spec PyProof.Rows L2
structure Has (P : Program) (w : World) (K : PySem.W.Frag) (mg : Str → Option Value) (base : Heap) (CX : CXT) (k : Nat) (x : Str) (ps : List Str) (sp : Sp) : Prop where
  ex : ∃ f fd, FnOk P w K mg base CX k f fd ps sp ∧ Binds K fd ps [] ∧ PySem.W.keepIn K (.ref f) = true ∧ mg x = some (.ref f)
structure Def (K : PySem.W.Frag) (mg : Str → Option Value) (x : Str) (st : Stmt) (ps : List Str) : Prop where
  ex : ∃ f fd, Fun K x x st f fd ∧ Binds K fd ps [] ∧ mg x = some (.ref f)
theorem Def.has {P : Program} {w : World} {K : PySem.W.Frag} {mg : Str → Option Value} {base : Heap} {k : Nat} {x : Str} {st : Stmt} {N ps : List Str} {sp : Sp} (F : Def K mg x st ps) (sc : FnScope N ps (qd_ st)) (len : ∀ vs H Q E, sp vs H Q E → vs.length = ps.length)
    (hbody : ∀ (f : Addr) (cdv : Value) (A : Around) (outer : List Env) (s : Shared) (H : Hp) (vs : List V) (Q : VK) (E : XK), Room k (A.deeper (envOfC x (qd_ st) s.heap.objs.size f cdv)) → sp vs H Q E →
      ∃ t, PSs (cxOf CX0 P w K mg base N x (qd_ st) f cdv A outer s H E).nox (qz_ st) t ∧ t { nx := fun _ H' => Q .non H', rt := Q } (start N vs) H) : Has P w K mg base CX0 (k + 1) x ps sp := by
  obtain ⟨f, fd, F1, b, m⟩ := F.ex
  exact ⟨f, fd, F1.ok sc len (fun cdv A outer s H vs Q E hr h => hbody f cdv A outer s H vs Q E hr h), b, F1.kp, m⟩
section
variable {X : Cx} {CX : CXT} {k : Nat} {ps : List Str} {sp : Sp} {E : XK} {x : Str} {p pos : Pos} {e : Expr} {es : List Expr} {t : TA}
theorem pe_h (F : Has X.prog X.w X.K X.mg X.base CX k x ps sp) (hr : Room k X.A) (hg : Gl X x) (hx : qjf_ CX X E) (ha : PA X (e :: es) t) (hdb : (x == ("__debug__" : Str)) = false := by decide) (he : starEach (e :: es) X.env = (false, eval e X.env) :: starEach es X.env := by rfl) (hpl : (backTo pos (starEach es X.env)).any (·.1) = false := by rfl) :
    PE X (.Call (.Name x p) (e :: es) [] pos) (que_ sp [] E t) := by
  obtain ⟨f, fd, F1, b, kp, m⟩ := F.ex
  exact qqc_ F1 hr hg m kp b .nil hx ha hdb he hpl
end
structure Bl (mg : Str → Option Value) : Prop where
  len : mg "len" = none
  abs : mg "abs" = none
  isinstance : mg "isinstance" = none
  tuple : mg "tuple" = none
  list : mg "list" = none
  int : mg "int" = none
  bool : mg "bool" = none
  str : mg "str" = none
  range : mg "range" = none
  zip : mg "zip" = none
  all : mg "all" = none
  any : mg "any" = none
  ValueError : mg "ValueError" = none
theorem Same.new {H : Hp} {p : Addr} {o : HO} (h : H p = none) : Same H (upd H p o) := fun b u q => by rw [qh_ (qbe_ q h)]; exact q
theorem qe2_ {H : Hp} {p b : Addr} {o u : HO} (h : H p = none) (q : H b = some u) : upd H p o b = some u := by rw [qh_ (qbe_ q h)]; exact q
def frD (q : Rat) : D := .tup [.int q.num, .int (q.den : Int)]
theorem qk7_ (q r : Rat) : peq (frD q) (frD r) = decide (q = r) := by
  unfold frD
  simp only [peq, peqs, Bool.and_true]
  by_cases h : q = r
  · subst h; simp
  · have : ¬ (q.num = r.num ∧ q.den = r.den) := fun z => h (Rat.ext z.1 z.2)
    rw [decide_eq_false h, Bool.and_eq_false_iff]
    by_cases h1 : q.num = r.num
    · right
      rw [beq_eq_false_iff_ne]
      intro e
      exact this ⟨h1, by omega⟩
    · left
      rw [beq_eq_false_iff_ne]
      exact h1
def SmR (n : Nat) (q : Rat) : Prop := Sm n q.num ∧ Sm n (q.den : Int)
theorem SmR.mono {a b : Nat} {q : Rat} (h : SmR a q) (k : a ≤ b) : SmR b q := ⟨h.1.mono k, h.2.mono k⟩
theorem qid_ (q : Rat) : (0 : Int) < (q.den : Int) := by have := q.den_nz; omega
theorem qe6_ (q : Rat) : (q.den : Int) ≠ 0 := by have := q.den_nz; omega
theorem qox_ {a b : Int} (hb : b ≠ 0) : (Rat.divInt a b).num = a.fdiv (if b < 0 then -(Int.gcd a b : Int) else (Int.gcd a b : Int)) := by
  have h1 : (Int.gcd a b : Int) ∣ a := Int.gcd_dvd_left a b
  rw [Rat.num_divInt, Int.gcd_comm b a]
  split
  · rename_i h
    rw [Int.fdiv_eq_ediv_of_dvd (Int.neg_dvd.mpr h1), Int.ediv_neg, Int.sign_eq_neg_one_of_neg h, Int.neg_mul, Int.one_mul, Int.neg_ediv_of_dvd h1]
  · rename_i h
    rw [Int.fdiv_eq_ediv_of_dvd h1, Int.sign_eq_one_of_pos (by omega), Int.one_mul]
theorem qkd_ {a b : Int} (hb : b ≠ 0) : (((Rat.divInt a b).den : Nat) : Int) = b.fdiv (if b < 0 then -(Int.gcd a b : Int) else (Int.gcd a b : Int)) := by
  have h1 : (Int.gcd a b : Int) ∣ b := Int.gcd_dvd_right a b
  rw [Rat.den_divInt, if_neg hb, Int.gcd_comm b a]
  split
  · rename_i h
    rw [Int.fdiv_eq_ediv_of_dvd (Int.neg_dvd.mpr h1), Int.ediv_neg, Int.natCast_ediv, ← Int.neg_ediv_of_dvd h1]
    congr 1
    omega
  · rename_i h
    rw [Int.fdiv_eq_ediv_of_dvd h1, Int.natCast_ediv]
    congr 1
    omega
theorem qlg_ {a b : Int} (hb : b ≠ 0) : (Rat.divInt a b).den ≤ b.natAbs := by
  rw [Rat.den_divInt, if_neg hb]
  exact Nat.div_le_self _ _
theorem qmd_ {a b : Int} (hb : b ≠ 0) : (Rat.divInt a b).num.natAbs ≤ a.natAbs := by
  rw [Rat.num_divInt]
  have := Int.natAbs_ediv_le_natAbs (b.sign * a) (b.gcd a : Int)
  rw [Int.natAbs_mul] at this
  have h2 : b.sign.natAbs = 1 := by
    rw [Int.natAbs_sign]
    rw [if_neg hb]
  rw [h2, Nat.one_mul] at this
  exact this
theorem qk6_ {n : Nat} {a b : Int} (hb : b ≠ 0) (ha : Sm n a) (hb' : Sm n b) : SmR n (Rat.divInt a b) :=
  ⟨ha.le (qmd_ hb), hb'.le (by have := qlg_ (a := a) hb; simpa using this)⟩
theorem qja_ (a b : Int) : Int.gcd b (a.fmod b) = Int.gcd a b := by
  rw [Int.fmod_def, Int.gcd_comm a b]
  have := Int.gcd_sub_mul_right_right b a (a.fdiv b)
  rw [Int.mul_comm] at this
  exact this
theorem qfs_ {a b : Int} (h : b ≠ 0) : (a.fmod b).natAbs < b.natAbs := by
  by_cases hb : 0 < b
  · have h1 := Int.fmod_lt_of_pos a hb
    have h2 := Int.fmod_nonneg_of_pos a hb
    omega
  · have hb' : b < 0 := by omega
    have e : a.fmod b = -((-a).fmod (-b)) := by
      rw [Int.neg_fmod_neg]; omega
    have h1 := Int.fmod_lt_of_pos (-a) (b := -b) (by omega)
    have h2 := Int.fmod_nonneg_of_pos (-a) (b := -b) (by omega)
    omega
theorem qmg_ {a b : Int} (h : b ≠ 0) : 0 < Int.gcd a b := Int.gcd_pos_of_ne_zero_right a h
theorem qoa_ {n : Nat} {a b : Int} (hb : b ≠ 0) (h : Sm n b) : Sm n (Int.gcd a b : Int) := by
  refine h.le ?_
  have := Int.gcd_le_natAbs_right a hb
  simpa using this
theorem iteN {c : Bool} {A B : Prop} (h : c = false) (k : B) : if c = true then A else B := by subst h; rw [if_neg Bool.false_ne_true]; exact k
theorem iteY {c : Bool} {A B : Prop} (h : c = true) (k : A) : if c = true then A else B := by subst h; rw [if_pos rfl]; exact k
theorem iteB {c : Bool} {A B : Prop} (h1 : c = true → A) (h2 : c = false → B) : if c = true then A else B := by
  cases c with
  | true => exact iteY rfl (h1 rfl)
  | false => exact iteN rfl (h2 rfl)
theorem qo8_ (q r : Rat) : Rat.divInt (q.num * (r.den : Int) + r.num * (q.den : Int)) ((q.den : Int) * (r.den : Int)) = q + r := by
  rw [Rat.add_def', ← Int.natCast_mul]; rfl
theorem qpb_ (q r : Rat) : Rat.divInt (q.num * r.num) ((q.den : Int) * (r.den : Int)) = q * r := by
  rw [Rat.mul_def', ← Int.natCast_mul]; rfl
theorem qr9_ (q r : Rat) (h : r.num ≠ 0) : Rat.divInt (q.num * (r.den : Int)) ((q.den : Int) * r.num) = q / r := by
  have h1 := Rat.num_divInt_den q
  have h2 := Rat.num_divInt_den r
  rw [Rat.divInt_eq_div] at *
  rw [Rat.intCast_mul, Rat.intCast_mul]
  have a1 : ((q.den : Int) : Rat) ≠ 0 := by have := q.den_nz; simpa using this
  have a2 : ((r.den : Int) : Rat) ≠ 0 := by have := r.den_nz; simpa using this
  have a3 : (r.num : Rat) ≠ 0 := by simpa using h
  conv => rhs; rw [← h1, ← h2]
  grind
theorem r_lt (q r : Rat) : decide (q.num * (r.den : Int) < r.num * (q.den : Int)) = decide (q < r) := by
  congr 1
  rw [Rat.lt_iff]
theorem qux_ {n : Nat} {i : Int} (h1 : -(2 ^ n : Int) < i) (h2 : i < (2 ^ n : Int)) : Sm n i := by
  unfold Sm
  have e : ((2 ^ n : Nat) : Int) = (2 ^ n : Int) := by simp
  omega
section
variable {X : Cx} {K : PySem.W.Frag}
end
end L3
namespace L3
open PySem PySem.Spec PyProof.Rows L2
def isCF : Option NameKind → Bool
  | some .cell => true
  | some .free => true
  | _ => false
theorem qh1_ {o : Option NameKind} (h : isCF o = true) : o = some .cell ∨ o = some .free := by
  unfold isCF at h
  split at h
  · exact .inl rfl
  · exact .inr rfl
  · cases h
def qnr_ (X : Cx) (scope : Scope) : List Str → List (Option Nat) → Bool
  | x :: N, o :: src => (match o with
      | none => true
      | some j => decide (X.N[j]? = some x) && isCF (X.env.scope.names.lookup x) && isCF ((relabel scope X.env).names.lookup x)) && qnr_ X scope N src
  | _, _ => true
theorem qbb_ {X : Cx} {scope : Scope} : ∀ {N : List Str} {src : List (Option Nat)}, qnr_ X scope N src = true → ∀ (i : Nat) (x : Str) (j : Nat), N[i]? = some x → src[i]? = some (some j) → X.N[j]? = some x ∧ Vis X.env.scope x ∧ X.env.scope.names.lookup x ≠ some .local ∧
    ((relabel scope X.env).names.lookup x = some .cell ∨ (relabel scope X.env).names.lookup x = some .free)
  | [], _, _, i, x, j, h1, _ => by simp at h1
  | _ :: _, [], _, i, x, j, _, h2 => by simp at h2
  | y :: N, o :: src, h, 0, x, j, h1, h2 => by
    simp only [List.getElem?_cons_zero, Option.some.injEq] at h1 h2
    subst h1 h2
    rw [qnr_, Bool.and_eq_true, Bool.and_eq_true, Bool.and_eq_true] at h
    obtain ⟨⟨⟨a, b⟩, c⟩, _⟩ := h
    refine ⟨of_decide_eq_true a, ?_, ?_, qh1_ c⟩
    · rcases qh1_ b with e | e
      · exact .inr (.inl e)
      · exact .inr (.inr e)
    · rcases qh1_ b with e | e <;> rw [e] <;> simp
  | y :: N, o :: src, h, i + 1, x, j, h1, h2 => by
    have h' : (_ && qnr_ X scope N src) = true := h
    rw [Bool.and_eq_true] at h'
    exact qbb_ h'.2 i x j (by simpa using h1) (by simpa using h2)
theorem qeb_ : ∀ {bs : List Bool} {us : List Value}, Vals (bs.map V.bl) us → us = bs.map Value.bool
  | [], _, h => by cases h; rfl
  | b :: bs, _, h => by
    cases h with
    | cons r rr => cases r; rw [qeb_ rr]; rfl
theorem qh6_ {a b : Nat} {q r : Rat} (h : SmR a q) (k : SmR b r) : SmR (a + b + 1) (q + r) := by
  rw [← qo8_]
  refine qk6_ (Int.mul_ne_zero (qe6_ q) (qe6_ r)) ?_ ?_
  · exact (h.1.mul k.2).add ((k.1.mul h.2).mono (by omega))
  · exact (h.2.mul k.2).mono (by omega)
theorem qez_ {a b : Nat} {q r : Rat} (h : SmR a q) (k : SmR b r) : SmR (a + b) (q * r) := by
  rw [← qpb_]
  exact qk6_ (Int.mul_ne_zero (qe6_ q) (qe6_ r)) (h.1.mul k.1) (h.2.mul k.2)
theorem qmq_ (t : Rat) : 0 < t.num ↔ 0 < t := by
  rw [Rat.lt_iff]; simp
end L3
namespace L3
open PySem PySem.Spec PyProof.Rows L2
section
variable {X : Cx}
theorem qey_ {bs : List Bool} {i : Nat} {v : Value} (h : (bs.map Value.bool)[i]? = some v) : ∃ b, bs[i]? = some b ∧ v = .bool b := by
  rw [List.getElem?_map] at h
  cases e : bs[i]? with
  | none => rw [e] at h; cases h
  | some b => rw [e] at h; injection h with h; exact ⟨b, rfl, h.symm⟩
def rAll (K : PySem.W.Frag) : List V → Hp → VK → Prop := fun xs H Q => ∃ (p : Addr) (bs : List Bool), xs = [.ref p] ∧ SqL K H p (bs.map V.bl) ∧ Q (.bl (bs.all id)) H
theorem qnu_ (hc : X.calm = true) : qdt_ X (.builtin "all") (rAll X.K) := by
  intro pins s σ H xs us Q I r h
  obtain ⟨p, bs, rfl, hq, q⟩ := h
  obtain ⟨u, rfl, rx⟩ := qfx_ r
  cases rx
  obtain ⟨its, rv, pl, hz⟩ := I.list hq
  have hb := qeb_ rv
  subst hb
  have hl := pl.isList
  have hlt : p < s.heap.objs.size := by obtain ⟨_, e, _⟩ := hl; exact Heap.lt_size e
  refine call_all_walk (wpAny_pyIter_list hl ?_)
  refine ⟨s.heap.objs.size, [s.heap.objs.size, p], [s.heap.objs.size], (bs.map Value.bool).toArray.size, _, _, fun i => (bs[i]?).getD true, rfl, Walks.list (A := X.A.in1) (I.ok.hd hc) _ p (Nat.ne_of_lt hlt) (bs.map Value.bool).toArray,
    ⟨⟨_, Heap.get?_push_size _ rfl, rfl, rfl⟩, hl.push _⟩, fun i v s' Q' E' hP hQ => ?_, fun h' tk hk => ?_⟩
  · obtain ⟨b, e, rfl⟩ := qey_ (bs := bs) (i := i) (v := v) (by simpa using hP)
    simp only [e, Option.getD_some] at hQ
    exact wpAny_truthy_bool hQ
  · have e : ((List.range (bs.map Value.bool).toArray.size).all fun i => (bs[i]?).getD true) = bs.all id := by
      rw [List.size_toArray, List.length_map]; exact LSm.range_all bs
    rw [e]
    exact ⟨.bl (bs.all id), H, I.kept (t' := tk) (LSm.kept_iter hk), rfl, q⟩
def rAny (K : PySem.W.Frag) : List V → Hp → VK → Prop := fun xs H Q => ∃ (p : Addr) (bs : List Bool), xs = [.ref p] ∧ SqL K H p (bs.map V.bl) ∧ Q (.bl (bs.any id)) H
theorem qn1_ (hc : X.calm = true) : qdt_ X (.builtin "any") (rAny X.K) := by
  intro pins s σ H xs us Q I r h
  obtain ⟨p, bs, rfl, hq, q⟩ := h
  obtain ⟨u, rfl, rx⟩ := qfx_ r
  cases rx
  obtain ⟨its, rv, pl, hz⟩ := I.list hq
  have hb := qeb_ rv
  subst hb
  have hl := pl.isList
  have hlt : p < s.heap.objs.size := by obtain ⟨_, e, _⟩ := hl; exact Heap.lt_size e
  refine call_any_walk (wpAny_pyIter_list hl ?_)
  refine ⟨s.heap.objs.size, [s.heap.objs.size, p], [s.heap.objs.size], (bs.map Value.bool).toArray.size, _, _, fun i => (bs[i]?).getD false, rfl, Walks.list (A := X.A.in1) (I.ok.hd hc) _ p (Nat.ne_of_lt hlt) (bs.map Value.bool).toArray,
    ⟨⟨_, Heap.get?_push_size _ rfl, rfl, rfl⟩, hl.push _⟩, fun i v s' Q' E' hP hQ => ?_, fun h' tk hk => ?_⟩
  · obtain ⟨b, e, rfl⟩ := qey_ (bs := bs) (i := i) (v := v) (by simpa using hP)
    simp only [e, Option.getD_some] at hQ
    exact wpAny_truthy_bool hQ
  · have e : ((List.range (bs.map Value.bool).toArray.size).any fun i => (bs[i]?).getD false) = bs.any id := by
      rw [List.size_toArray, List.length_map]; exact LSm.range_any bs
    rw [e]
    exact ⟨.bl (bs.any id), H, I.kept (t' := tk) (LSm.kept_iter hk), rfl, q⟩
end
def tyN : D → String
  | .non => "NoneType"
  | .bl _ => "bool"
  | .int _ => "int"
  | .str _ => "str"
  | .tup _ => "tuple"
  | .lst _ => "list"
def isInt : D → Bool
  | .int _ => true
  | .bl _ => true
  | _ => false
def isBl : D → Bool
  | .bl _ => true
  | _ => false
def qrj_ : D → Bool
  | .tup _ => true
  | _ => false
def qs9_ : D → Bool
  | .lst _ => true
  | _ => false
section
variable {K : PySem.W.Frag}
theorem qur_ (d : D) : PySem.W.kitOne K (.type (tyN d)) (.type "int") = some (isInt d) := by cases d <;> first | rfl | with_unfolding_all rfl
theorem qvs_ (d : D) : PySem.W.kitOne K (.type (tyN d)) (.type "bool") = some (isBl d) := by cases d <;> first | rfl | with_unfolding_all rfl
theorem qr5_ (d : D) : PySem.W.kitOne K (.type (tyN d)) (.type "tuple") = some (qrj_ d) := by cases d <;> first | rfl | with_unfolding_all rfl
theorem qrn_ (d : D) : PySem.W.kitOne K (.type (tyN d)) (.type "list") = some (qs9_ d) := by cases d <;> first | rfl | with_unfolding_all rfl
end
def cutD {α : Type} (xs : List α) (lo hi : Option Int) : List α := (xs.drop (HT.sIx xs.length 0 lo)).take (HT.sIx xs.length xs.length hi - HT.sIx xs.length 0 lo)
theorem cut_to {α : Type} {xs : List α} {i : Int} (h0 : 0 ≤ i) : cutD xs none (some i) = xs.take i.toNat := by
  unfold cutD HT.sIx
  dsimp only
  rw [if_neg (by omega), List.drop_zero, Nat.sub_zero, List.take_eq_take_iff]
  omega
section
variable {X : Cx} {pos : Pos} {es : List Expr} {t : TA}
end
end L3
namespace L3
open PySem PySem.Spec PyProof.Rows L2
section
variable {X : Cx} {pins : List (Addr × Obj)} {σ : S} {H : Hp} {s : Shared} {h' : Heap}
theorem qmb_ {t' : Nat} {ch : List Addr} (I : Inv X pins σ H s) (k : ∀ b o, b ∉ ch → s.heap.get? b = some o → h'.get? b = some o) (hf : ∀ b ∈ ch, FpOk X pins H b) : Inv X pins σ H { s with heap := h', toks := t' } := by
  have nit : ∀ b u, H b = some u → b ∉ ch := fun b u e z => by rw [(hf b z).1] at e; cases e
  refine I.step (g' := s.gens) (d' := s.drawn) (ch := ch) (fun b hb => ?_) (fun b o _ _ hc e _ => k b o hc e) (fun b o _ _ hc e _ => ⟨o.slots, k b o hc e⟩) (fun _ _ _ _ n => n)
    (fun b o hc e => ⟨o, k b o hc e⟩) (fun _ _ e => e) (fun _ _ _ e => e) (fun b ps e => ⟨#[], by rw [e]; simp⟩) (fun m hm => ?_) (fun b u e => ?_) I.bare
  · obtain ⟨f0, f1, f2, f3, f4, f5⟩ := hf b hb
    exact ⟨f3, f1, f4, f5⟩
  · obtain ⟨o, es, ep, ho, r⟩ := hm
    exact ⟨o, es, ep, k _ o (fun z => (hf _ z).2.1 rfl) ho, r⟩
  · refine (I.hok b u e).stay (fun c v hc q => k c v ?_ q) (fun _ q => q) fun _ _ q => q
    rcases hc with z | z
    · rw [z]; exact nit b u e
    · exact nit c _ z
theorem qkq_ {t' : Nat} {ch : List Addr} {T : Addr} {xs : List V} {us : List Value} (I : Inv X pins σ H s) (k : ∀ b o, b ∉ ch → s.heap.get? b = some o → h'.get? b = some o) (hf : ∀ b ∈ ch, FpOk X pins H b) (hT : s.heap.objs.size ≤ T) (hz : xs.length ≤ sizeLine) (r : Vals xs us) (ht : IsTup h' T us.toArray) :
    Inv X pins σ (upd H T (.tup xs)) { s with heap := h', toks := t' } := by
  have nit : ∀ b u, H b = some u → b ∉ ch := fun b u e z => by rw [(hf b z).1] at e; cases e
  have nT : H T = none := I.hok.fresh hT
  have neT : ∀ {b : Addr} {o : Obj}, s.heap.get? b = some o → b ≠ T := fun e z => by subst z; exact Nat.lt_irrefl _ (Nat.lt_of_lt_of_le (Heap.lt_size e) hT)
  refine I.step (g' := s.gens) (d' := s.drawn) (ch := ch) (fun b hb => ?_) (fun b o _ _ hc e _ => k b o hc e) (fun b o _ _ hc e _ => ⟨o.slots, k b o hc e⟩) (fun b o _ e n => by rw [qh_ (neT e)]; exact n)
    (fun b o hc e => ⟨o, k b o hc e⟩) (fun b xs e => qe2_ nT e) (fun b o u e => qe2_ nT e) (fun b ps e => ⟨#[], by rw [qe2_ nT e]; simp⟩) (fun m hm => ?_) (fun b u e => ?_) I.bare
  · obtain ⟨f0, f1, f2, f3, f4, f5⟩ := hf b hb
    exact ⟨f3, f1, f4, f5⟩
  · obtain ⟨o, es, ep, ho, r⟩ := hm
    exact ⟨o, es, ep, k _ o (fun z => (hf _ z).2.1 rfl) ho, r⟩
  · by_cases z : b = T
    · subst z
      rw [qi_] at e
      cases e
      exact ⟨hz, us, r, ht⟩
    · rw [qh_ z] at e
      refine (I.hok b u e).stay (fun c v hc q => k c v ?_ q) (fun c q => qe2_ nT q) fun c _ q => qe2_ nT q
      rcases hc with z | z
      · rw [z]; exact nit b u e
      · exact nit c _ z
end
def Itz (K : PySem.W.Frag) (a b : Addr) : It :=
  ⟨fun i H => ∃ xs ys x y, SqL K H a xs ∧ SqL K H b ys ∧ xs[i]? = some x ∧ ys[i]? = some y,
   fun i H v H' => ∃ p x y, v = .ref p ∧ H p = none ∧ H' = upd H p (.tup [x, y]) ∧ (∀ xs, SqL K H a xs → xs[i]? = some x) ∧ ∀ ys, SqL K H b ys → ys[i]? = some y,
   fun i H => ∃ xs ys, SqL K H a xs ∧ SqL K H b ys ∧ (xs.length ≤ i ∨ ys.length ≤ i)⟩
def qve_ (a b z TI TO i1 i2 : Addr) (i : Nat) (h : Heap) : Prop := IsZip h z TI TO .none ∧ IsPair h TI (.ref i1) (.ref i2) ∧ (∃ u v, IsPair h TO u v) ∧ h.IsListIter i1 a i ∧ h.IsListIter i2 b i
theorem qmt_ {P : Program} {w : World} {K : PySem.W.Frag} {elts : List Expr} {k : Nat} {pos : Pos} {a b z TI TO i1 i2 : Addr} (D : ZipApart z TI TO i1 i2 a b) : Turn P w K (.Tuple elts k pos) (Itz K a b) [z, TI, TO, i1, i2] z (qve_ a b z TI TO i1 i2) where
  mem := by simp
  obj := fun i h st b' hb => by
    obtain ⟨h1, h2, ⟨u, v, h3⟩, h4, h5⟩ := st
    simp only [List.mem_cons, List.not_mem_nil, or_false] at hb
    rcases hb with rfl | rfl | rfl | rfl | rfl
    · exact ⟨_, h1, fun v z => by cases z⟩
    · exact ⟨_, h2, fun v z => by cases z⟩
    · exact ⟨_, h3, fun v z => by cases z⟩
    · obtain ⟨o, e, c, d⟩ := h4
      exact ⟨o, e, fun v z => by rw [d] at z; cases z⟩
    · obtain ⟨o, e, c, d⟩ := h5
      exact ⟨o, e, fun v z => by rw [d] at z; cases z⟩
  keep := fun i h h' st kp => by
    obtain ⟨h1, h2, ⟨u, v, h3⟩, h4, h5⟩ := st
    exact ⟨kp z (by simp) _ h1, kp TI (by simp) _ h2, ⟨u, v, kp TO (by simp) _ h3⟩, h4.at fun o e => kp i1 (by simp) o e, h5.at fun o e => kp i2 (by simp) o e⟩
  item := by
    intro X hP hw hK hc i pins s σ H E I hf st hg
    subst hP hw hK
    obtain ⟨xs, ys, x, y, hqa, hqb, hx, hy⟩ := hg
    obtain ⟨ia, ra, pa, za⟩ := I.list hqa
    obtain ⟨ib, rb, pb, zb⟩ := I.list hqb
    obtain ⟨u, hu, ru⟩ := ra.get hx
    obtain ⟨v, hv, rv⟩ := rb.get hy
    obtain ⟨h1, h2, ⟨t1, t2, h3⟩, h4, h5⟩ := st
    have h40 := h4
    have h50 := h5
    obtain ⟨o4, e4, _⟩ := h40
    obtain ⟨o5, e5, _⟩ := h50
    refine wpAny_pyNext_zip_item D h1 h2 h3 h4 h5 pa.isList pb.isList (x := u) (y := v) (by simpa using hu) (by simpa using hv) fun h' g1 g2 g3 g4 g5 g6 g7 => ?_
    refine ⟨_, rfl, wpAny_letOwnedTupleGo_zip g1 fun h'' k1 k2 => ?_⟩
    have nz : s.heap.objs.size ≠ z := fun e => Nat.lt_irrefl _ (by have := Heap.lt_size h1; rw [← e] at this; exact this)
    have kA : ∀ b o, b ∉ [z, TI, TO, i1, i2] → s.heap.get? b = some o → h''.get? b = some o := fun b o hb e => by
      simp only [List.mem_cons, List.not_mem_nil, or_false, not_or] at hb
      exact k2.extBut b o hb.1 (g7 b o hb.1 hb.2.2.1 hb.2.2.2.1 hb.2.2.2.2 e)
    have I2 : Inv X pins σ (upd H s.heap.objs.size (.tup [x, y])) { s with heap := h'' } :=
      qkq_ (t' := s.toks) (xs := [x, y]) (us := [u, v]) I kA hf (Nat.le_refl _) (by show 2 ≤ sizeLine; decide) (.cons ru (.cons rv .nil)) ⟨_, k2.extBut _ _ nz g5, rfl, _, rfl⟩
    refine ⟨.ref s.heap.objs.size, _, I2, rfl, ⟨_, x, y, rfl, I.fresh, rfl, fun zs hz => by rw [I.list_inj hz hqa]; exact hx, fun zs hz => by rw [I.list_inj hz hqb]; exact hy⟩, ⟨k1, ?_, ⟨_, _, k2.extBut _ _ D.TOz g2⟩, ?_, ?_⟩, fun b hb => ?_⟩
    · exact k2.extBut _ _ D.TIz (g7 _ _ D.TIz D.TITO D.TIi1 D.TIi2 h2)
    · exact g3.at fun o e => k2.extBut _ o D.i1z e
    · exact g4.at fun o e => k2.extBut _ o D.i2z e
    · rw [qh_]
      · exact (hf b hb).1
      · intro e
        simp only [List.mem_cons, List.not_mem_nil, or_false] at hb
        have lt : ∀ {c : Addr} {o : Obj}, s.heap.get? c = some o → c ≠ s.heap.objs.size := fun h => Nat.ne_of_lt (Heap.lt_size h)
        rcases hb with rfl | rfl | rfl | rfl | rfl
        · exact lt h1 e
        · exact lt h2 e
        · exact lt h3 e
        · exact lt e4 e
        · exact lt e5 e
  done := by
    intro X hP hw hK hc i pins s σ H E I hf st hg
    subst hP hw hK
    obtain ⟨xs, ys, hqa, hqb, hend⟩ := hg
    obtain ⟨ia, ra, pa, za⟩ := I.list hqa
    obtain ⟨ib, rb, pb, zb⟩ := I.list hqb
    obtain ⟨h1, h2, ⟨t1, t2, h3⟩, h4, h5⟩ := st
    have la := ra.length
    have lb := rb.length
    refine wpAny_pyNext_zip_end (I.ok.hd hc) D h1 h2 h3 h4 h5 pa.isList pb.isList ?_ fun h' kk => ⟨rfl, qmb_ (t' := s.toks) I (fun b o hb e => ?_) hf⟩
    · rcases hend with e | e
      · left; simp; omega
      · right; simp; omega
    · simp only [List.mem_cons, List.not_mem_nil, or_false, not_or] at hb
      exact kk b o hb.1 hb.2.2.1 hb.2.2.2.1 hb.2.2.2.2 e
  self := fun _ _ _ _ _ st h => wpAny_pyIter_zip st.1 h
section
variable {X : Cx} {tg : Expr}
def iZip (K : PySem.W.Frag) (ta : TA) : TI := fun σ H R => ta σ H fun vs H1 => ∃ a b, vs = [.ref a, .ref b] ∧ (∃ xs, SqL K H1 a xs) ∧ (∃ ys, SqL K H1 b ys) ∧ R (Itz K a b) H1
theorem qsx_ {a b : Expr} {ta : TA} {p pos tpos : Pos} {elts : List Expr} {k : Nat} (hg : Gl X "zip") (hm : X.mg "zip" = none) (ha : PA X [a, b] ta) (hs : starEach [a, b] X.env = [(false, eval a X.env), (false, eval b X.env)] := by rfl) (hs2 : starEach [b] X.env = [(false, eval b X.env)] := by rfl) :
    PI X (.Tuple elts k tpos) (.Call (.Name "zip" p) [a, b] [] pos) (iZip X.K ta) := by
  intro pins s σ H R I h
  refine Call_ (qcc_ I hg hm boot_zip (PyProof.Rows.callWith_type1 (thn (ha pos pins s σ H _ I h) fun us s1 ⟨vs, H1, I1, r1, q1⟩ => ?_) (by rw [hs, hs2]) (by rw [hs2]; rfl)))
  obtain ⟨a, b, rfl, ⟨xs, hqa⟩, ⟨ys, hqb⟩, q⟩ := q1
  obtain ⟨u, v, rfl, ru, rv⟩ := qhn_ r1
  cases ru
  cases rv
  obtain ⟨ia, ra, pa, za⟩ := I1.list hqa
  obtain ⟨ib, rb, pb, zb⟩ := I1.list hqb
  have lt : ∀ {c : Addr} {its : Array Value}, s1.heap.IsList c its → c < s1.heap.objs.size := fun h => by obtain ⟨o, e, _⟩ := h; exact Heap.lt_size e
  refine call_zip_2 pa.isList pb.isList fun h' q1 q2 q3 q4 q5 q6 q7 => ?_
  refine wpAny_pyIter_zip (s := { s1 with heap := h' }) q1 ⟨_, _, _, _, H1, rfl, I1.kept (t' := s1.toks) q7, qmt_ (zipApart_new (lt pa.isList) (lt pb.isList)), ⟨q1, q2, ⟨_, _, q3⟩, q4, q5⟩, fun c hc => ?_, q⟩
  have hle : s1.heap.objs.size ≤ c := by
    simp only [List.mem_cons, List.not_mem_nil, or_false] at hc
    rcases hc with rfl | rfl | rfl | rfl | rfl
    · exact Nat.le_add_right _ 4
    · exact Nat.le_add_right _ 2
    · exact Nat.le_add_right _ 3
    · exact Nat.le_refl _
    · exact Nat.le_add_right _ 1
  exact I1.fpOk hle (I1.hok.fresh hle)
end
end L3
namespace L3
open PySem PySem.Spec PyProof.Rows L2
section
variable {prog : Program} {w : World} {A : Around} {E : Value → Shared → Prop} {s : Shared}
theorem qea_ {M : Model} {a : Addr} {Q : Option Obj → Shared → Prop} (h : Q (s.heap.get? a) s) : wpAny M A (loadIfAlive a) Q E s := fun Γ p _ => by
  unfold loadIfAlive
  rw [Sem.wp_loadIfAlive]
  exact h
abbrev qd4_ (h : Heap) (z TI TO T0 : Addr) (f1 : Bool) : Prop :=
  h.get? z = some { cls := .type "zip", dict := none, data := .fields #[rawInt T0, .bool f1, .bool false, .ref TI, .ref TO], slots := #[] }
theorem qet_ {z TI TO T0 : Addr} {f1 : Bool} {oT : Obj} {Q : Bool → Shared → Prop} (hz : qd4_ s.heap z TI TO T0 f1) (hT : s.heap.get? T0 = some oT)
    (h : ∀ h', qd4_ h' z TI TO T0 true → Heap.SameBut z s.heap h' → Q false { s with heap := h' }) : wpAny (model prog w) A (Builtin.SmallTypes.ownedTupleIsFree (.ref z)) Q E s := by
  unfold Builtin.SmallTypes.ownedTupleIsFree
  refine wpAny_bind (wpAny_field hz rfl (x := rawInt T0) rfl ?_)
  show wpAny _ _ (loadIfAlive ((T0 : Int).toNat) >>= _) _ _ _
  refine wpAny_bind (qea_ ?_)
  rw [Int.toNat_natCast, hT]
  show wpAny _ _ (field (.ref z) 1 >>= _) _ _ _
  refine wpAny_bind (wpAny_field hz rfl (x := .bool f1) rfl ?_)
  cases f1 with
  | true => exact wpAny_pure (h s.heap hz (Heap.SameBut.refl ..))
  | false => exact wpAny_bind (wpAny_setField_rec hz (by simp) fun h₁ hz₁ hs₁ => wpAny_pure (h h₁ hz₁ hs₁))
theorem qfg_ {z TI TO T0 i1 i2 l1 l2 : Addr} {k1 k2 : Nat} {f1 : Bool} {oT : Obj} {xs ys : Array Value} {x y : Value} {Q : Value → Shared → Prop} (D : ZipApart z TI TO i1 i2 l1 l2)
    (hz : qd4_ s.heap z TI TO T0 f1) (hT : s.heap.get? T0 = some oT) (hTI : IsPair s.heap TI (.ref i1) (.ref i2))
    (h1 : s.heap.IsListIter i1 l1 k1) (h2 : s.heap.IsListIter i2 l2 k2) (hl1 : s.heap.IsList l1 xs) (hl2 : s.heap.IsList l2 ys) (hx : xs[k1]? = some x) (hy : ys[k2]? = some y)
    (hQ : ∀ h', qd4_ h' z TI TO T0 true → h'.IsListIter i1 l1 (k1 + 1) → h'.IsListIter i2 l2 (k2 + 1) → IsPair h' s.heap.objs.size x y →
      (∀ c o, c ≠ z → c ≠ i1 → c ≠ i2 → s.heap.get? c = some o → h'.get? c = some o) → Q (.ref s.heap.objs.size) { s with heap := h' }) :
    wpAny (model prog w) A (Builtin.«zip.__next__» ⟨[.ref z], []⟩) (fun fin s' => ∃ v, fin = .done (.ret v) ∧ Q v s') E s := by
  show wpAny _ _ (field (.ref z) 2 >>= _) _ _ _
  refine wpAny_bind (wpAny_field hz rfl (x := .bool false) rfl ?_)
  show wpAny _ _ (field (.ref z) 3 >>= _) _ _ _
  refine wpAny_bind (wpAny_field hz rfl (x := .ref TI) rfl ?_)
  refine wpAny_bind (wpAny_seqItems hTI rfl ?_)
  show wpAny _ _ (Builtin.SmallTypes.ownedTupleIsFree (.ref z) >>= _) _ _ _
  refine wpAny_bind (qet_ hz hT fun h₁ hz₁ hs₁ => ?_)
  simp only [Bool.false_eq_true, if_false]
  show wpAny _ _ (forIn (#[.ref i1, .ref i2] : Array Value) _ _ >>= _) _ _ _
  refine wpAny_bind ?_
  simp only [List.forIn_toArray, List.forIn_cons, List.forIn_nil]
  refine wpAny_bind (wpAny_bind (wpAny_holding ?_))
  show wpAny _ _ (Builtin.SmallTypes.nextOf (.ref i1) >>= _) _ _ _
  refine wpAny_bind (wpAny_nextOf_list_item (h1.extBut hs₁.extBut D.i1z) (hl1.extBut hs₁.extBut D.l1z) hx fun h₂ h1₂ hs₂ => wpAny_pure (wpAny_pure ?_))
  refine wpAny_bind (wpAny_bind (wpAny_holding ?_))
  show wpAny _ _ (Builtin.SmallTypes.nextOf (.ref i2) >>= _) _ _ _
  refine wpAny_bind (wpAny_nextOf_list_item ((h2.extBut hs₁.extBut D.i2z).extBut hs₂.extBut D.i12.symm) ((hl2.extBut hs₁.extBut D.l2z).extBut hs₂.extBut D.l2i1) hy fun h₃ h2₃ hs₃ => wpAny_pure (wpAny_pure (wpAny_pure ?_)))
  refine wpAny_bind (wpAny_newTuple ?_ (by show 2 ≤ sizeLine; decide))
  have hsz : h₃.objs.size = s.heap.objs.size := by rw [hs₃.1, hs₂.1, hs₁.1]
  refine wpAny_pure ⟨_, rfl, ?_⟩
  show Q (.ref h₃.objs.size) { s with heap := h₃.push { cls := .type "tuple", data := .seq #[x, y] } }
  have hz₃ : qd4_ h₃ z TI TO T0 true := hs₃.extBut _ _ D.i2z.symm (hs₂.extBut _ _ D.i1z.symm hz₁)
  have hnew : IsPair (h₃.push { cls := .type "tuple", data := .seq #[x, y] }) h₃.objs.size x y := Heap.get?_push_size _ rfl
  rw [hsz] at hnew ⊢
  refine hQ _ (Heap.get?_push_of_some _ hz₃) ((h1₂.extBut hs₃.extBut D.i12).at fun o e => Heap.get?_push_of_some _ e) (h2₃.at fun o e => Heap.get?_push_of_some _ e) hnew fun c o c1 c3 c4 e => ?_
  exact Heap.get?_push_of_some _ (hs₃.extBut _ _ c4 (hs₂.extBut _ _ c3 (hs₁.extBut _ _ c1 e)))
theorem qgi_ {z TI TO T0 i1 i2 l1 l2 : Addr} {k1 : Nat} {f1 : Bool} {oT : Obj} {xs : Array Value} {Q : Fin → Shared → Prop} (hh : A.handled = none) (D : ZipApart z TI TO i1 i2 l1 l2)
    (hz : qd4_ s.heap z TI TO T0 f1) (hT : s.heap.get? T0 = some oT) (hTI : IsPair s.heap TI (.ref i1) (.ref i2))
    (h1 : s.heap.IsListIter i1 l1 k1) (hl1 : s.heap.IsList l1 xs) (hend : xs[k1]? = none)
    (hE : ∀ h' e, (∀ c o, c ≠ z → c ≠ i1 → s.heap.get? c = some o → h'.get? c = some o) → (∃ o, h'.get? e = some o ∧ o.cls = .type "StopIteration") → E (.ref e) { s with heap := h' }) :
    wpAny (model prog w) A (Builtin.«zip.__next__» ⟨[.ref z], []⟩) Q E s := by
  show wpAny _ _ (field (.ref z) 2 >>= _) _ _ _
  refine wpAny_bind (wpAny_field hz rfl (x := .bool false) rfl ?_)
  show wpAny _ _ (field (.ref z) 3 >>= _) _ _ _
  refine wpAny_bind (wpAny_field hz rfl (x := .ref TI) rfl ?_)
  refine wpAny_bind (wpAny_seqItems hTI rfl ?_)
  show wpAny _ _ (Builtin.SmallTypes.ownedTupleIsFree (.ref z) >>= _) _ _ _
  refine wpAny_bind (qet_ hz hT fun h₁ hz₁ hs₁ => ?_)
  simp only [Bool.false_eq_true, if_false]
  show wpAny _ _ (forIn (#[.ref i1, .ref i2] : Array Value) _ _ >>= _) _ _ _
  refine wpAny_bind ?_
  simp only [List.forIn_toArray, List.forIn_cons, List.forIn_nil]
  refine wpAny_bind (wpAny_bind (wpAny_holding ?_))
  show wpAny _ _ (Builtin.SmallTypes.nextOf (.ref i1) >>= _) _ _ _
  refine wpAny_bind (wpAny_nextOf_list_end hh (h1.extBut hs₁.extBut D.i1z) (hl1.extBut hs₁.extBut D.l1z) hend fun h₂ e hs₂ he => ?_)
  exact hE h₂ e (fun c o c1 c3 x => hs₂ _ _ c3 (hs₁.extBut _ _ c1 x)) he
theorem qfi_ {z TI TO T0 i1 i2 l1 l2 : Addr} {k1 k2 : Nat} {f1 : Bool} {oT : Obj} {xs ys : Array Value} {x : Value} {Q : Fin → Shared → Prop} (hh : A.handled = none) (D : ZipApart z TI TO i1 i2 l1 l2)
    (hz : qd4_ s.heap z TI TO T0 f1) (hT : s.heap.get? T0 = some oT) (hTI : IsPair s.heap TI (.ref i1) (.ref i2))
    (h1 : s.heap.IsListIter i1 l1 k1) (h2 : s.heap.IsListIter i2 l2 k2) (hl1 : s.heap.IsList l1 xs) (hl2 : s.heap.IsList l2 ys) (hx : xs[k1]? = some x) (hend : ys[k2]? = none)
    (hE : ∀ h' e, (∀ c o, c ≠ z → c ≠ i1 → c ≠ i2 → s.heap.get? c = some o → h'.get? c = some o) → (∃ o, h'.get? e = some o ∧ o.cls = .type "StopIteration") → E (.ref e) { s with heap := h' }) :
    wpAny (model prog w) A (Builtin.«zip.__next__» ⟨[.ref z], []⟩) Q E s := by
  show wpAny _ _ (field (.ref z) 2 >>= _) _ _ _
  refine wpAny_bind (wpAny_field hz rfl (x := .bool false) rfl ?_)
  show wpAny _ _ (field (.ref z) 3 >>= _) _ _ _
  refine wpAny_bind (wpAny_field hz rfl (x := .ref TI) rfl ?_)
  refine wpAny_bind (wpAny_seqItems hTI rfl ?_)
  show wpAny _ _ (Builtin.SmallTypes.ownedTupleIsFree (.ref z) >>= _) _ _ _
  refine wpAny_bind (qet_ hz hT fun h₁ hz₁ hs₁ => ?_)
  simp only [Bool.false_eq_true, if_false]
  show wpAny _ _ (forIn (#[.ref i1, .ref i2] : Array Value) _ _ >>= _) _ _ _
  refine wpAny_bind ?_
  simp only [List.forIn_toArray, List.forIn_cons, List.forIn_nil]
  refine wpAny_bind (wpAny_bind (wpAny_holding ?_))
  show wpAny _ _ (Builtin.SmallTypes.nextOf (.ref i1) >>= _) _ _ _
  refine wpAny_bind (wpAny_nextOf_list_item (h1.extBut hs₁.extBut D.i1z) (hl1.extBut hs₁.extBut D.l1z) hx fun h₂ h1₂ hs₂ => wpAny_pure (wpAny_pure ?_))
  refine wpAny_bind (wpAny_bind (wpAny_holding ?_))
  show wpAny _ _ (Builtin.SmallTypes.nextOf (.ref i2) >>= _) _ _ _
  refine wpAny_bind (wpAny_nextOf_list_end hh ((h2.extBut hs₁.extBut D.i2z).extBut hs₂.extBut D.i12.symm) ((hl2.extBut hs₁.extBut D.l2z).extBut hs₂.extBut D.l2i1) hend fun h₃ e hs₃ he => ?_)
  exact hE h₃ e (fun c o c1 c3 c4 x => hs₃ _ _ c4 (hs₂.extBut _ _ c3 (hs₁.extBut _ _ c1 x))) he
end
structure ZL (a b z TI TO i1 i2 : Addr) (xs ys : Array Value) (i : Nat) (h : Heap) : Prop where
  zip : (IsZip h z TI TO .none ∧ ∃ u v, IsPair h TO u v) ∨ ∃ T0 f1 oT, qd4_ h z TI TO T0 f1 ∧ h.get? T0 = some oT
  ti : IsPair h TI (.ref i1) (.ref i2)
  c1 : h.IsListIter i1 a i
  c2 : h.IsListIter i2 b i
  la : h.IsList a xs
  lb : h.IsList b ys
  to : ∃ o, h.get? TO = some o
section
variable {prog : Program} {w : World} {A : Around} {E : Value → Shared → Prop} {s : Shared} {a b z TI TO i1 i2 S : Addr} {xs ys : Array Value} {i : Nat} {h h' : Heap}
theorem ZL.frame (Z : ZL a b z TI TO i1 i2 xs ys i h) (hS : S ∉ [z, TI, TO, i1, i2, a, b]) (k : ∀ c o, c ≠ S → h.get? c = some o → h'.get? c = some o) (hs : ∃ o, h'.get? S = some o) : ZL a b z TI TO i1 i2 xs ys i h' := by
  simp only [List.mem_cons, List.not_mem_nil, or_false, not_or] at hS
  obtain ⟨s1, s2, s3, s4, s5, s6, s7⟩ := hS
  refine ⟨?_, k _ _ (Ne.symm s2) Z.ti, Z.c1.at fun o e => k _ o (Ne.symm s4) e, Z.c2.at fun o e => k _ o (Ne.symm s5) e, Z.la.at fun o e => k _ o (Ne.symm s6) e, Z.lb.at fun o e => k _ o (Ne.symm s7) e, let ⟨o, e⟩ := Z.to; ⟨o, k _ o (Ne.symm s3) e⟩⟩
  rcases Z.zip with ⟨h1, u, v, h2⟩ | ⟨T0, f1, oT, h1, h2⟩
  · exact .inl ⟨k _ _ (Ne.symm s1) h1, u, v, k _ _ (Ne.symm s3) h2⟩
  · refine .inr ⟨T0, f1, ?_⟩
    by_cases e : T0 = S
    · subst e
      obtain ⟨o, ho⟩ := hs
      exact ⟨o, k _ _ (Ne.symm s1) h1, ho⟩
    · exact ⟨oT, k _ _ (Ne.symm s1) h1, k _ _ e h2⟩
theorem ZL.zt (Z : ZL a b z TI TO i1 i2 xs ys i s.heap) : s.TypeIs (.ref z) "zip" := by
  rcases Z.zip with ⟨h1, u, v, h2⟩ | ⟨T0, f1, oT, h1, h2⟩
  · exact ⟨_, h1, rfl⟩
  · exact ⟨_, h1, rfl⟩
theorem ZL.next {x y : Value} {Q : Option Value → Shared → Prop} (D : ZipApart z TI TO i1 i2 a b) (Z : ZL a b z TI TO i1 i2 xs ys i s.heap) (hx : xs[i]? = some x) (hy : ys[i]? = some y)
    (hQ : ∀ h', ZL a b z TI TO i1 i2 xs ys (i + 1) h' → IsPair h' s.heap.objs.size x y → (∀ c o, c ∉ [z, TO, i1, i2] → s.heap.get? c = some o → h'.get? c = some o) → Q (some (.ref s.heap.objs.size)) { s with heap := h' }) :
    wpAny (model prog w) A (pyNext (.ref z)) Q E s := by
  have hT := Z.zt
  rcases Z.zip with ⟨h1, u, v, h2⟩ | ⟨T0, f1, oT, h1, h2⟩
  · refine wpAny_pyNext_zip_item D h1 Z.ti h2 Z.c1 Z.c2 Z.la Z.lb hx hy fun h' g1 g2 g3 g4 g5 g6 g7 => hQ h' ?_ g5 fun c o hc e => ?_
    · exact ⟨.inr ⟨s.heap.objs.size, false, _, g1, g5⟩, g7 _ _ D.TIz D.TITO D.TIi1 D.TIi2 Z.ti, g3, g4, Z.la.at fun o e => g7 _ o D.l1z D.l1TO D.l1i1 D.l1i2 e, Z.lb.at fun o e => g7 _ o D.l2z D.l2TO D.l2i1 D.l2i2 e, ⟨_, g2⟩⟩
    · simp only [List.mem_cons, List.not_mem_nil, or_false, not_or] at hc
      exact g7 c o hc.1 hc.2.1 hc.2.2.1 hc.2.2.2 e
  · unfold pyNext
    refine wpAny_bind (wpAny_attempt (wpAny_callSpecial?_slot (name := Str.ofString "__next__") hT F.slot_zip_next
      (wpAny_call_entry F.slot_zip_next hT F.entry_zip_next
        (qfg_ D h1 h2 Z.ti Z.c1 Z.c2 Z.la Z.lb hx hy fun h' g1 g3 g4 g5 g7 => wpAny_pure (hQ h' ?_ g5 fun c o hc e => ?_)) (F.args_zip_next_1 _))))
    · have hT0 : ∃ oT', h'.get? T0 = some oT' := by
        by_cases e1 : T0 = z
        · subst e1; exact ⟨_, g1⟩
        · by_cases e2 : T0 = i1
          · subst e2; obtain ⟨o, e, _⟩ := g3; exact ⟨o, e⟩
          · by_cases e3 : T0 = i2
            · subst e3; obtain ⟨o, e, _⟩ := g4; exact ⟨o, e⟩
            · exact ⟨_, g7 _ _ e1 e2 e3 h2⟩
      obtain ⟨oT', hT0⟩ := hT0
      exact ⟨.inr ⟨T0, true, _, g1, hT0⟩, g7 _ _ D.TIz D.TIi1 D.TIi2 Z.ti, g3, g4, Z.la.at fun o e => g7 _ o D.l1z D.l1i1 D.l1i2 e, Z.lb.at fun o e => g7 _ o D.l2z D.l2i1 D.l2i2 e, let ⟨o, e⟩ := Z.to; ⟨o, g7 _ o D.TOz D.TOi1 D.TOi2 e⟩⟩
    · simp only [List.mem_cons, List.not_mem_nil, or_false, not_or] at hc
      exact g7 c o hc.1 hc.2.2.1 hc.2.2.2 e
theorem qka_ {T0 : Addr} {f1 : Bool} {oT : Obj} {Q : Fin → Shared → Prop} (hh : A.handled = none) (D : ZipApart z TI TO i1 i2 a b) (h1 : qd4_ s.heap z TI TO T0 f1) (h2 : s.heap.get? T0 = some oT) (Z : ZL a b z TI TO i1 i2 xs ys i s.heap) (hx : xs[i]? = none ∨ ys[i]? = none)
    (hE : ∀ h' e, (∀ c o, c ≠ z → c ≠ i1 → c ≠ i2 → s.heap.get? c = some o → h'.get? c = some o) → (∃ o, h'.get? e = some o ∧ o.cls = .type "StopIteration") → E (.ref e) { s with heap := h' }) :
    wpAny (model prog w) A (Builtin.«zip.__next__» ⟨[.ref z], []⟩) Q E s := by
  cases e : xs[i]? with
  | none => exact qgi_ hh D h1 h2 Z.ti Z.c1 Z.la e fun h' e hk he => hE h' e (fun c o c1 c3 _ x => hk c o c1 c3 x) he
  | some x => exact qfi_ hh D h1 h2 Z.ti Z.c1 Z.c2 Z.la Z.lb e (hx.resolve_left (by rw [e]; simp)) hE
theorem ZL.done {Q : Option Value → Shared → Prop} (hh : A.handled = none) (D : ZipApart z TI TO i1 i2 a b) (Z : ZL a b z TI TO i1 i2 xs ys i s.heap) (hx : xs[i]? = none ∨ ys[i]? = none)
    (hQ : ∀ h', (∀ c o, c ∉ [z, TO, i1, i2] → s.heap.get? c = some o → h'.get? c = some o) → Q none { s with heap := h' }) : wpAny (model prog w) A (pyNext (.ref z)) Q E s := by
  have hT := Z.zt
  rcases Z.zip with ⟨h1, u, v, h2⟩ | ⟨T0, f1, oT, h1, h2⟩
  · refine wpAny_pyNext_zip_end hh D h1 Z.ti h2 Z.c1 Z.c2 Z.la Z.lb hx fun h' g7 => hQ h' fun c o hc e => ?_
    simp only [List.mem_cons, List.not_mem_nil, or_false, not_or] at hc
    exact g7 c o hc.1 hc.2.1 hc.2.2.1 hc.2.2.2 e
  · unfold pyNext
    refine wpAny_bind (wpAny_attempt (wpAny_callSpecial?_slot (name := Str.ofString "__next__") hT F.slot_zip_next
      (wpAny_call_entry F.slot_zip_next hT F.entry_zip_next (qka_ hh D h1 h2 Z hx fun h' e hk he => ?_) (F.args_zip_next_1 _))))
    obtain ⟨o, ho, hc⟩ := he
    refine wpAny_bind (wpAny_isInstance (T := "StopIteration") (b := true) ⟨o, ho, hc⟩ isSubtype_stop ?_)
    refine wpAny_pure (hQ _ fun c o hc e => ?_)
    simp only [List.mem_cons, List.not_mem_nil, or_false, not_or] at hc
    exact hk c o hc.1 hc.2.2.1 hc.2.2.2 e
theorem qng_ {R : Result → Shared → Prop} {res : Value} (hh : A.in1.handled = none) (D : ZipApart z TI TO i1 i2 a b) (hS : S ∉ [z, TI, TO, i1, i2, a, b]) (hz : min xs.size ys.size ≤ 10000) :
    ∀ (k i : Nat) (s : Shared) (ps : List Addr) (c : Nat), min xs.size ys.size - i = k → i ≤ min xs.size ys.size → ZL a b z TI TO i1 i2 xs ys i s.heap → s.heap.get? S = some { cls := .type "list", dict := none, data := .seq (ps.map Value.ref).toArray c, slots := #[] } → ps.length = i →
    (∀ (j : Nat) p x y, ps[j]? = some p → xs[j]? = some x → ys[j]? = some y → p ≠ S ∧ p ∉ [z, TO, i1, i2] ∧ IsPair s.heap p x y) →
    ps.Nodup → (∀ p ∈ ps, p < s.heap.objs.size) →
    (∀ h' (ps' : List Addr) c', (∀ d o, d ∉ [S, z, TO, i1, i2] → s.heap.get? d = some o → h'.get? d = some o) → h'.get? S = some { cls := .type "list", dict := none, data := .seq (ps'.map Value.ref).toArray c', slots := #[] } → ps'.length = min xs.size ys.size →
      (∀ (j : Nat) p x y, ps'[j]? = some p → xs[j]? = some x → ys[j]? = some y → IsPair h' p x y) → (∀ p ∈ ps', p ∈ ps ∨ s.heap.objs.size ≤ p) → ps'.Nodup → R (.ok (.ret res)) { s with heap := h' }) →
    codeAny (model prog w) A (.builtin "list.extend.loop" ⟨[.ref S, .ref z, res], []⟩) R s := by
  intro k
  induction k with
  | zero =>
    intro i s ps c hk hi Z hS' hl hp hN hB hR
    have hin : i = min xs.size ys.size := by omega
    refine codeAny_builtin F.entry_extend_loop ?_
    rw [Around.under_plainId F.plain_extend_loop _]
    show wpAny _ A.in1 (pyNext (.ref z) >>= _) _ _ s
    refine wpAny_bind (Z.done hh D (Or.elim (Nat.le_total xs.size ys.size) (fun _ => .inl (Array.getElem?_eq_none (by omega))) fun _ => .inr (Array.getElem?_eq_none (by omega))) fun h' kk => ?_)
    have hSz : S ∉ [z, TO, i1, i2] := fun m => hS (by
      simp only [List.mem_cons, List.not_mem_nil, or_false] at m ⊢
      rcases m with e | e | e | e <;> simp [e])
    exact wpAny_pure (hR h' ps c (fun d o hd e => kk d o (fun m => hd (List.mem_cons_of_mem _ m)) e) (kk S _ hSz hS') (by omega) (fun j p x y e1 e2 e3 => by
      obtain ⟨q1, q2, q3⟩ := hp j p x y e1 e2 e3
      exact kk p _ q2 q3) (fun p m => .inl m) hN)
  | succ k ih =>
    intro i s ps c hk hi Z hS' hl hp hN hB hR
    have hlt : i < xs.size := by omega
    have hlt2 : i < ys.size := by omega
    have hSz : S ∉ [z, TO, i1, i2] := fun m => hS (by
      simp only [List.mem_cons, List.not_mem_nil, or_false] at m ⊢
      rcases m with e | e | e | e <;> simp [e])
    refine codeAny_builtin F.entry_extend_loop ?_
    rw [Around.under_plainId F.plain_extend_loop _]
    show wpAny _ A.in1 (pyNext (.ref z) >>= _) _ _ s
    refine wpAny_bind (Z.next D (x := xs[i]) (y := ys[i]) (Array.getElem?_eq_getElem hlt) (Array.getElem?_eq_getElem hlt2) fun h' Z' hnew kk => ?_)
    have hS2 := kk S _ hSz hS'
    have ltS : S < s.heap.objs.size := Heap.lt_size hS'
    show wpAny _ A.in1 (updateSeq S (·.push (.ref s.heap.objs.size)) >>= _) _ _ _
    refine wpAny_bind ?_
    have lps : (ps.map Value.ref).toArray.size = i := by simp [hl]
    refine wpAny_updateSeq hS2 rfl (wpAny_pure ⟨plainId_quiet F.plain_extend_loop _, ?_⟩) (by rw [lps, sizeLine_eq]; omega) (by show ((ps.map Value.ref).toArray.push _).size ≤ sizeLine + 1; rw [Array.size_push, lps, sizeLine_eq]; omega)
    have upS := Heap.get?_update_self (Obj.mapSeq (·.push (Value.ref s.heap.objs.size))) hS2 rfl
    have upO : ∀ d o, d ≠ S → h'.get? d = some o → (h'.update S (Obj.mapSeq (·.push (Value.ref s.heap.objs.size)))).get? d = some o := fun d o hd e => (Heap.get?_update_other _ _ (Ne.symm hd)).trans e
    have neS : s.heap.objs.size ≠ S := Nat.ne_of_gt ltS
    have nin : s.heap.objs.size ∉ [z, TO, i1, i2] := fun m => by
      have lt : ∀ {d : Addr} {o : Obj}, s.heap.get? d = some o → d ≠ s.heap.objs.size := fun h => Nat.ne_of_lt (Heap.lt_size h)
      simp only [List.mem_cons, List.not_mem_nil, or_false] at m
      have hzz : ∃ o, s.heap.get? z = some o := by obtain ⟨o, e, _⟩ := Z.zt; exact ⟨o, e⟩
      obtain ⟨oz, hzz⟩ := hzz
      obtain ⟨o1, e1, _⟩ := Z.c1
      obtain ⟨o2, e2, _⟩ := Z.c2
      rcases m with e | e | e | e
      · exact lt hzz e.symm
      · obtain ⟨o, q⟩ := Z.to
        exact lt q e.symm
      · exact lt e1 e.symm
      · exact lt e2 e.symm
    have earr : ((ps ++ [s.heap.objs.size]).map Value.ref).toArray = (ps.map Value.ref).toArray.push (.ref s.heap.objs.size) := by simp
    have hsz : s.heap.objs.size < h'.objs.size := Heap.lt_size hnew
    have hsz2 : (h'.update S (Obj.mapSeq (·.push (Value.ref s.heap.objs.size)))).objs.size = h'.objs.size := (Heap.SameBut.update (h := h') (a := S) ..).1
    refine ih (i + 1) { s with heap := h'.update S (Obj.mapSeq (·.push (Value.ref s.heap.objs.size))) } (ps ++ [s.heap.objs.size]) _ (by omega) (by omega) (Z'.frame hS upO ⟨_, upS⟩) (by rw [earr]; exact upS) (by simp [hl]) (fun j p x y e1 e2 e3 => ?_) ?_ (fun p m => ?_) fun h'' ps' c'' k2 q2 l2 pr sr nd' => ?_
    · rw [List.getElem?_append] at e1
      split at e1
      · obtain ⟨q1, q2, q3⟩ := hp j p x y e1 e2 e3
        exact ⟨q1, q2, upO _ _ q1 (kk p _ q2 q3)⟩
      · rename_i hj
        have hj' : j = i := by
          have := (List.getElem?_eq_some_iff.mp e1).1
          simp at this
          omega
        subst hj'
        rw [hl, Nat.sub_self] at e1
        simp at e1
        subst e1
        rw [Array.getElem?_eq_getElem hlt] at e2
        rw [Array.getElem?_eq_getElem hlt2] at e3
        cases e2
        cases e3
        exact ⟨neS, nin, upO _ _ neS hnew⟩
    · rw [List.nodup_append]
      refine ⟨hN, by simp, fun x hx y hy => ?_⟩
      simp only [List.mem_cons, List.not_mem_nil, or_false] at hy
      subst hy
      exact Nat.ne_of_lt (hB x hx)
    · show p < (h'.update S (Obj.mapSeq (·.push (Value.ref s.heap.objs.size)))).objs.size
      rw [hsz2]
      rcases List.mem_append.mp m with m | m
      · exact Nat.lt_trans (hB p m) hsz
      · simp only [List.mem_cons, List.not_mem_nil, or_false] at m
        rw [m]; exact hsz
    · refine hR h'' ps' c'' (fun d o hd e => k2 d o hd (upO d o (fun e => hd (by simp [e])) (kk d o (fun m => hd (List.mem_cons_of_mem _ m)) e))) q2 l2 pr (fun p m => ?_) nd'
      rcases sr p m with q | q
      · rcases List.mem_append.mp q with q | q
        · exact .inl q
        · simp only [List.mem_cons, List.not_mem_nil, or_false] at q
          exact .inr (by rw [q]; exact Nat.le_refl _)
      · right
        have q' : (h'.update S (Obj.mapSeq (·.push (Value.ref s.heap.objs.size)))).objs.size ≤ p := q
        omega
theorem qqf_ : typeLookup (.type "zip") "__len__" = pure none := by rw [typeLookup_type, builtinLookup_eq_fast]; kernel_rfl
theorem qnz_ : typeLookup (.type "zip") "__length_hint__" = pure none := by rw [typeLookup_type, builtinLookup_eq_fast]; kernel_rfl
theorem qnv_ {R : Result → Shared → Prop} (hh : A.in1.handled = none) (D : ZipApart z TI TO i1 i2 a b) (hS : S ∉ [z, TI, TO, i1, i2, a, b]) (hz : min xs.size ys.size ≤ 10000)
    (Z : ZL a b z TI TO i1 i2 xs ys 0 s.heap) (hzn : IsZip s.heap z TI TO .none) (hSo : s.heap.get? S = some { cls := .type "list", data := .seq #[] })
    (hR : ∀ h' (ps' : List Addr) c', (∀ d o, d ∉ [S, z, TO, i1, i2] → s.heap.get? d = some o → h'.get? d = some o) → h'.get? S = some { cls := .type "list", dict := none, data := .seq (ps'.map Value.ref).toArray c', slots := #[] } → ps'.length = min xs.size ys.size →
      (∀ (j : Nat) p x y, ps'[j]? = some p → xs[j]? = some x → ys[j]? = some y → IsPair h' p x y) → (∀ p ∈ ps', s.heap.objs.size ≤ p) → ps'.Nodup → R (.ok (.ret .none)) { s with heap := h' }) :
    wpAny (model prog w) A.in1 (Builtin.«list.__init__» ⟨[.ref S, .ref z], []⟩)
      (fun fin s' => match fin with | .done f => R (.ok f) s' | .again c' => c'.quiet = true ∧ codeAny (model prog w) A c' R s') (fun e s' => R (.error e) s') s := by
  have neSz : S ≠ z := fun e => hS (by simp [e])
  show wpAny _ A.in1 (do let was ← Builtin.List.listItems (.ref S); Builtin.List.listUpdate (.ref S) (fun _ => #[]); letGo was.toList.reverse; Builtin.List.listExtendWith (.ref S) (.ref z) .none) _ _ s
  refine wpAny_bind ?_
  unfold Builtin.List.listItems
  refine wpAny_bind (wpAny_seqItems hSo rfl (wpAny_pure ?_))
  show wpAny _ A.in1 (updateSeq S (fun _ => #[]) >>= fun _ => letGo (#[] : Array Value).toList.reverse >>= fun _ => Builtin.List.listExtendWith (.ref S) (.ref z) .none) _ _ s
  refine wpAny_bind (wpAny_updateSeq hSo rfl (wpAny_bind (wpAny_letGo ?_)))
  have q1 := Heap.get?_update_self (Obj.mapSeq (fun _ => (#[] : Array Value))) hSo rfl
  have o1 : ∀ d o, d ≠ S → s.heap.get? d = some o → (s.heap.update S (Obj.mapSeq (fun _ => (#[] : Array Value)))).get? d = some o := fun d o hd e => (Heap.get?_update_other _ _ (Ne.symm hd)).trans e
  generalize hg1 : s.heap.update S (Obj.mapSeq (fun _ => (#[] : Array Value))) = g1 at q1 o1
  have sz1 : g1.objs.size = s.heap.objs.size := by rw [← hg1]; exact (Heap.SameBut.update (h := s.heap) (a := S) ..).1
  have Z1 : ZL a b z TI TO i1 i2 xs ys 0 g1 := Z.frame hS o1 ⟨_, q1⟩
  have zn1 : IsZip g1 z TI TO .none := o1 _ _ (Ne.symm neSz) hzn
  have T1 : Shared.TypeIs { s with heap := g1 } (.ref z) "zip" := ⟨_, zn1, rfl⟩
  unfold Builtin.List.listExtendWith
  refine wpAny_bind (wpAny_typeOf T1 ?_)
  have b1 : Builtin.List.listSameRef (.ref S) (.ref z) = false := by simp [Builtin.List.listSameRef, neSz]
  have b2 : (Value.type "zip" == Value.type "list") = false := by decide
  have b3 : (Value.type "zip" == Value.type "tuple") = false := by decide
  simp only [b1, b2, b3, Bool.or_false, Bool.false_eq_true, if_false]
  refine wpAny_bind (wpAny_pyIter_zip (s := { s with heap := g1 }) zn1 (wpAny_bind (wpAny_holding ?_)))
  unfold Builtin.List.listLengthHint
  refine wpAny_bind (wpAny_specialOf T1 qqf_ ?_)
  show wpAny _ A.in1 (specialOf (Value.ref z) (Str.ofString "__length_hint__") >>= _) _ _ _
  refine wpAny_bind (wpAny_specialOf T1 qnz_ (wpAny_pure ?_))
  show wpAny _ A.in1 (rule "list.extend.makes-room" >>= fun _ => Builtin.List.listTouch (.ref S) >>= fun _ => again (.builtin "list.extend.loop" ⟨[.ref S, .ref z, .none], []⟩)) _ _ _
  refine wpAny_bind (wpAny_rule (wpAny_bind ?_))
  show wpAny _ A.in1 (updateSeq S (·.push .none) >>= fun _ => updateSeq S (·.pop)) _ _ _
  refine wpAny_bind (wpAny_updateSeq q1 rfl ?_)
  have q2 := Heap.get?_update_self (Obj.mapSeq (·.push Value.none)) q1 rfl
  have o2 : ∀ d o, d ≠ S → g1.get? d = some o → (g1.update S (Obj.mapSeq (·.push Value.none))).get? d = some o := fun d o hd e => (Heap.get?_update_other _ _ (Ne.symm hd)).trans e
  have sz2 : (g1.update S (Obj.mapSeq (·.push Value.none))).objs.size = g1.objs.size := (Heap.SameBut.update (h := g1) (a := S) ..).1
  refine wpAny_updateSeq (hz := by seq_fits) q2 rfl ?_
  have q3 := Heap.get?_update_self (Obj.mapSeq (·.pop)) q2 rfl
  have o3 : ∀ d o, d ≠ S → g1.get? d = some o → ((g1.update S (Obj.mapSeq (·.push Value.none))).update S (Obj.mapSeq (·.pop))).get? d = some o := fun d o hd e => (Heap.get?_update_other _ _ (Ne.symm hd)).trans (o2 d o hd e)
  have sz3 : ((g1.update S (Obj.mapSeq (·.push Value.none))).update S (Obj.mapSeq (·.pop))).objs.size = g1.objs.size := ((Heap.SameBut.update (a := S) ..).1).trans sz2
  refine wpAny_pure ⟨plainId_quiet F.plain_extend_loop _, ?_⟩
  refine qng_ (res := .none) hh D hS hz (min xs.size ys.size) 0 _ [] _ rfl (Nat.zero_le _) (Z1.frame hS o3 ⟨_, q3⟩) q3 rfl (fun j p x y e1 => by simp at e1) (by simp) (by simp) fun h' ps' c' kk u1 u2 u3 u4 u5 => ?_
  refine hR h' ps' c' (fun d o hd e => kk d o hd (o3 d o (fun e => hd (by simp [e])) (o1 d o (fun e => hd (by simp [e])) e))) u1 u2 u3 (fun p m => ?_) u5
  rcases u4 p m with e | e
  · simp at e
  · have e' : ((g1.update S (Obj.mapSeq (·.push Value.none))).update S (Obj.mapSeq (·.pop))).objs.size ≤ p := e
    omega
end
def updT (H : Hp) : List Addr → List V → List V → Hp
  | p :: ps, x :: xs, y :: ys => upd (updT H ps xs ys) p (.tup [x, y])
  | _, _, _ => H
theorem qgn_ {H : Hp} {b : Addr} : ∀ {ps : List Addr} {xs ys : List V}, b ∉ ps → updT H ps xs ys b = H b
  | [], _, _, _ => rfl
  | _ :: _, [], _, _ => rfl
  | _ :: _, _ :: _, [], _ => rfl
  | p :: ps, x :: xs, y :: ys, h => by
    rw [updT, qh_ (fun e => h (by simp [e])), qgn_ fun m => h (List.mem_cons_of_mem _ m)]
theorem ql4_ {H : Hp} : ∀ {ps : List Addr} {xs ys : List V} {j : Nat} {p : Addr} {x y : V}, ps.Nodup → ps[j]? = some p → xs[j]? = some x → ys[j]? = some y → updT H ps xs ys p = some (.tup [x, y])
  | [], _, _, j, _, _, _, _, h, _, _ => by simp at h
  | _ :: _, [], _, j, _, _, _, _, _, h, _ => by simp at h
  | _ :: _, _ :: _, [], j, _, _, _, _, _, _, h => by simp at h
  | p :: ps, x :: xs, y :: ys, 0, _, _, _, _, h1, h2, h3 => by
    simp only [List.getElem?_cons_zero, Option.some.injEq] at h1 h2 h3
    subst h1 h2 h3
    exact qi_
  | p :: ps, x :: xs, y :: ys, j + 1, q, _, _, n, h1, h2, h3 => by
    simp only [List.getElem?_cons_succ] at h1 h2 h3
    rw [List.nodup_cons] at n
    rw [updT, qh_ (fun e => n.1 (by rw [← e]; exact List.mem_of_getElem? h1))]
    exact ql4_ n.2 h1 h2 h3
theorem qg2_ {H : Hp} {b : Addr} {o : HO} : ∀ {ps : List Addr} {xs ys : List V}, updT H ps xs ys b = some o → H b = some o ∨ ∃ (j : Nat) (x y : V), ps[j]? = some b ∧ xs[j]? = some x ∧ ys[j]? = some y ∧ o = .tup [x, y]
  | [], _, _, h => .inl h
  | _ :: _, [], _, h => .inl h
  | _ :: _, _ :: _, [], h => .inl h
  | p :: ps, x :: xs, y :: ys, h => by
    rw [updT] at h
    by_cases e : b = p
    · subst e
      rw [qi_] at h
      cases h
      exact .inr ⟨0, x, y, rfl, rfl, rfl, rfl⟩
    · rw [qh_ e] at h
      rcases qg2_ h with h | ⟨j, x', y', h1, h2, h3, h4⟩
      · exact .inl h
      · exact .inr ⟨j + 1, x', y', h1, h2, h3, h4⟩
def tLZ (K : PySem.W.Frag) (ta : TA) : TE := fun σ H Q => ta σ H fun vs H1 => ∃ a b xs ys, vs = [.ref a, .ref b] ∧ SqL K H1 a xs ∧ SqL K H1 b ys ∧ min xs.length ys.length ≤ 10000 ∧
  ∀ l H' (ps : List Addr), H1 l = none → Same H1 H' → H' l = some (.lst (ps.map V.ref)) → ps.length = min xs.length ys.length → (∀ (j : Nat) p x y, ps[j]? = some p → xs[j]? = some x → ys[j]? = some y → H1 p = none ∧ H' p = some (.tup [x, y])) → Q (.ref l) H'
theorem qgt_ : ∀ ps : List Addr, Vals (ps.map V.ref) (ps.map Value.ref)
  | [] => .nil
  | _ :: ps => .cons rfl (qgt_ ps)
theorem qjr_ {X : Cx} {a b : Expr} {ta : TA} {p p2 pos pos2 : Pos} (hgl : Gl X "list") (hml : X.mg "list" = none) (hgz : Gl X "zip") (hmz : X.mg "zip" = none) (hc : X.calm = true) (ha : PA X [a, b] ta)
    (hs : starEach [a, b] X.env = [(false, eval a X.env), (false, eval b X.env)] := by rfl) (hs2 : starEach [b] X.env = [(false, eval b X.env)] := by rfl)
    (hs3 : starEach [.Call (.Name "zip" p2) [a, b] [] pos2] X.env = [(false, eval (.Call (.Name "zip" p2) [a, b] [] pos2) X.env)] := by rfl) :
    PE X (.Call (.Name "list" p) [.Call (.Name "zip" p2) [a, b] [] pos2] [] pos) (tLZ X.K ta) := by
  intro pins s σ H Q I h
  refine wpAny_Call_Name_kw (qcc_ I hgl hml boot_list (PyProof.Rows.callWith_type1 ?_ hs3 rfl))
  rw [hs3]
  show wpAny _ _ (spliced ((false, eval (.Call (.Name "zip" p2) [a, b] [] pos2) X.env) :: [])) _ _ s
  refine Calls.spliced_cons (wpAny_Call_Name_kw (qcc_ I hgz hmz boot_zip (PyProof.Rows.callWith_type1 (thn (ha pos2 pins s σ H _ I h) fun us s1 ⟨vs, H1, I1, r1, q1⟩ => ?_) (by rw [hs, hs2]) (by rw [hs2]; rfl))))
  obtain ⟨a, b, xs, ys, rfl, hqa, hqb, hz, q⟩ := q1
  obtain ⟨u, v, rfl, ru, rv⟩ := qhn_ r1
  cases ru
  cases rv
  obtain ⟨ia, ra, pa, za⟩ := I1.list hqa
  obtain ⟨ib, rb, pb, zb⟩ := I1.list hqb
  have lt : ∀ {c : Addr} {its : Array Value}, s1.heap.IsList c its → c < s1.heap.objs.size := fun h => by obtain ⟨o, e, _⟩ := h; exact Heap.lt_size e
  have lta := lt pa.isList
  have ltb := lt pb.isList
  refine call_zip_2 pa.isList pb.isList fun h' q1 q2 q3 q4 q5 q6 q7 => Calls.spliced_nil ?_
  have Z : ZL a b (s1.heap.objs.size + 4) (s1.heap.objs.size + 2) (s1.heap.objs.size + 3) s1.heap.objs.size (s1.heap.objs.size + 1) ia.toArray ib.toArray 0 h' :=
    ⟨.inl ⟨q1, _, _, q3⟩, q2, q4, q5, pa.isList.at fun o e => q7 _ o e, pb.isList.at fun o e => q7 _ o e, ⟨_, q3⟩⟩
  have hS : h'.objs.size ∉ [s1.heap.objs.size + 4, s1.heap.objs.size + 2, s1.heap.objs.size + 3, s1.heap.objs.size, s1.heap.objs.size + 1, a, b] := by
    simp only [List.mem_cons, List.not_mem_nil, or_false, not_or, q6]
    have la := lta
    have lb := ltb
    refine ⟨?_, ?_, ?_, ?_, ?_, ?_, ?_⟩ <;> (intro e; revert la lb e; generalize s1.heap.objs.size = n; intro la lb e; first | (subst e; exact absurd la (by exact Nat.not_lt.mpr (Nat.le_add_right n 5))) | (subst e; exact absurd lb (by exact Nat.not_lt.mpr (Nat.le_add_right n 5))) | exact absurd e (by show n + 5 ≠ _; simp))
  refine callType_codes (Q₁ := fun obj t => obj = .ref h'.objs.size ∧ t = { s1 with heap := h'.push { cls := .type "list", data := .seq #[] } }) F.called_list (F.typeCall_list_1 _) F.entry_list_init (code_list_new _ ⟨rfl, rfl⟩) fun obj t ht => ?_
  obtain ⟨rfl, rfl⟩ := ht
  have hSo : (h'.push { cls := .type "list", data := .seq #[] }).get? h'.objs.size = some { cls := .type "list", data := .seq #[] } := Heap.get?_push_size _ rfl
  refine ⟨⟨_, hSo, rfl⟩, F.args_list_init_2 _ _, ?_⟩
  have la := ra.length
  have lb := rb.length
  refine qnv_ (s := { s1 with heap := h'.push { cls := .type "list", data := .seq #[] } }) (I1.ok.hd hc) (zipApart_new lta ltb) hS (by simp; omega)
    (Z.frame hS (fun c o hc e => Heap.get?_push_of_some _ e) ⟨_, hSo⟩) (Heap.get?_push_of_some _ q1) hSo fun h2 ps c2 k2 g1 g2 g3 g4 g5 => ⟨rfl, ?_⟩
  have keep : ∀ d o, s1.heap.get? d = some o → h2.get? d = some o := fun d o e => by
    refine k2 d o (fun m => ?_) (Heap.get?_push_of_some _ (q7 d o e))
    have hd := Heap.lt_size e
    simp only [List.mem_cons, List.not_mem_nil, or_false, q6] at m
    revert hd m
    generalize s1.heap.objs.size = n
    intro hd m
    have : d < n := hd
    rcases m with m | m | m | m | m <;> (rw [m] at this; exact absurd this (by simp))
  have szp : ∀ p ∈ ps, h'.objs.size < p := fun p m => by
    have g : (h'.push { cls := .type "list", data := .seq #[] }).objs.size ≤ p := g4 p m
    rw [Heap.size_push] at g
    exact g
  have big : ∀ p ∈ ps, s1.heap.objs.size ≤ p := fun p m => Nat.le_trans (by rw [q6]; exact Nat.le_add_right _ 5) (Nat.le_of_lt (szp p m))
  have bigS : s1.heap.objs.size ≤ h'.objs.size := by rw [q6]; exact Nat.le_add_right _ 5
  have nS : h'.objs.size ∉ ps := fun m => Nat.lt_irrefl _ (szp _ m)
  have nS1 : H1 h'.objs.size = none := I1.hok.fresh bigS
  have lps : ps.length = min xs.length ys.length := by rw [g2, la, lb]; simp
  have out : ∀ b o, H1 b = some o → b ≠ h'.objs.size ∧ b ∉ ps := fun b o e => by
    have hb := I1.hok.lt e
    exact ⟨fun z => by rw [z] at hb; exact Nat.lt_irrefl _ (Nat.lt_of_lt_of_le hb bigS), fun m => Nat.lt_irrefl _ (Nat.lt_of_lt_of_le hb (big b m))⟩
  have old : ∀ b o, H1 b = some o → upd (updT H1 ps xs ys) h'.objs.size (.lst (ps.map V.ref)) b = some o := fun b o e => by
    rw [qh_ (out b o e).1, qgn_ (out b o e).2]; exact e
  have none' : ∀ b o, s1.heap.get? b = some o → H1 b = none → upd (updT H1 ps xs ys) h'.objs.size (.lst (ps.map V.ref)) b = none := fun b o e n => by
    have hb := Heap.lt_size e
    rw [qh_ (fun z => by rw [z] at hb; exact Nat.lt_irrefl _ (Nat.lt_of_lt_of_le hb bigS)), qgn_ fun m => Nat.lt_irrefl _ (Nat.lt_of_lt_of_le hb (big b m))]
    exact n
  have I2 : Inv X pins σ (upd (updT H1 ps xs ys) h'.objs.size (.lst (ps.map V.ref))) { s1 with heap := h2 } := by
    refine I1.un (t' := s1.toks) ⟨fun b o e _ _ _ => keep b o e, fun b o e _ _ _ => ⟨o.slots, keep b o e⟩, fun b o e n _ => none' b o e n, fun b o e _ => ⟨o, keep b o e⟩, fun b xs e => old b _ e, fun b o u e => old b _ e, fun b ps e => ⟨#[], by rw [old b _ e]; simp⟩⟩ fun b o e => ?_
    by_cases z : b = h'.objs.size
    · subst z
      rw [qi_] at e
      cases e
      exact ⟨by rw [List.length_map, lps, sizeLine_eq]; omega, ps.map Value.ref, c2, qgt_ ps, g1⟩
    · rw [qh_ z] at e
      rcases qg2_ e with e | ⟨j, x, y, e1, e2, e3, rfl⟩
      · exact (I1.hok b o e).stay (fun c v _ q => keep c v q) (fun c q => old c _ q) fun c _ q => old c _ q
      · obtain ⟨u, hu, ru⟩ := ra.get e2
        obtain ⟨v, hv, rv⟩ := rb.get e3
        exact ⟨by show 2 ≤ sizeLine; decide, [u, v], .cons ru (.cons rv .nil), ⟨_, g3 j b u v e1 (by simpa using hu) (by simpa using hv), rfl, _, rfl⟩⟩
  refine ⟨.ref h'.objs.size, _, I2, rfl, q _ _ ps nS1 old qi_ lps fun j p x y e1 e2 e3 => ⟨I1.hok.fresh (big p (List.mem_of_getElem? e1)), ?_⟩⟩
  rw [qh_ (fun z => nS (by rw [← z]; exact List.mem_of_getElem? e1))]
  exact ql4_ g5 e1 e2 e3
end L3
namespace L3
open PySem PySem.Spec PyProof.Rows L2
section
variable {K : PySem.W.Frag} {a D0 : Addr} {te : TE} {σ : S} {H0 : Hp} {R : Hp → Prop} {xs : List V}
end
end L3
set_option linter.all false
namespace M
namespace Q
open PySem PySem.Spec PyProof.Rows L2 L3
section
variable {X : Cx} {CX : CXT} {k : Nat} {ps : List Str} {sp : Sp} {E : XK} {x : Str} {p pos : Pos} {e a b o tg : Expr} {es : List Expr} {te ta tb to : TE} {t : TA} {st : Stmt} {rest body : List Stmt} {s u : TS}
end
end Q
end M
namespace L3
open PySem PySem.Spec PyProof.Rows L2
section
variable {prog : Program} {w : World} {A : Around} {E : Value → Shared → Prop} {K : PySem.W.Frag} {x C : Addr} {ox : Obj}
structure XCls (K : PySem.W.Frag) (C : Addr) : Prop where
  ga : PySem.W.findIn K (.ref C) "__getattribute__" = some (some (.builtin "BaseException.__getattribute__"))
  hk : PySem.W.findIn K (.ref C) "__getattr__" = some none
  ha : PySem.W.findIn K (.ref C) "__class__" = some (some (.builtin "object.__class__"))
  hn : PySem.W.specialIn K (.builtin "object.__class__") "__get__" = some (some (.builtin "getset_descriptor.__get__"))
  ht : PySem.W.takesIn K (.builtin "object.__class__") = some true
  mo : PySem.W.mroIn K C (.type "object") = some true
  mb : PySem.W.mroIn K C (.type "BaseException") = some true
  ty : PySem.W.typeIn K (.ref C) = some (.type "type")
  sb : PySem.W.subIn K (.ref C) (.type "BaseException") = some true
theorem XCls.cl (c : XCls K C) : (PySem.W.clsIn K C).isSome = true := by
  have h := c.mo
  unfold PySem.W.mroIn at h
  cases e : PySem.W.clsIn K C with
  | none => rw [e] at h; cases h
  | some _ => rfl
theorem XCls.fo (c : XCls K C) : PySem.W.findObj K C none "__class__" = some (.bind (.builtin "getset_descriptor.__get__") (.builtin "object.__class__")) := by
  obtain ⟨cd, hc⟩ := Option.isSome_iff_exists.mp c.cl
  unfold PySem.W.findObj
  rw [hc, Option.bind_some, c.ha, Option.bind_some]
  simp only [c.hn, c.ht, Option.bind_some]
theorem qec_ {N : Addr} {b : Bool} (c : XCls K C) (h0 : PySem.W.subIn K (.ref N) (.ref N) = some true) (h : PySem.W.subIn K (.ref N) (.ref C) = some b) : PySem.W.kitOne K (.ref N) (.ref C) = some b := by
  unfold PySem.W.kitOne
  by_cases e : N = C
  · subst e
    rw [h0] at h
    rw [if_pos (beq_self_eq_true _)]
    exact h
  · rw [if_neg (by simpa using e)]
    unfold PySem.W.kitCls
    simp only [c.cl, c.ty, Bool.true_and, beq_self_eq_true, if_true]
    exact h
theorem qp2_ {N : Addr} {b : Bool} (c : XCls K C) (h : PySem.W.subIn K (.ref N) (.ref C) = some b) : PySem.W.exmOne K (.ref N) (.ref C) = some b := by
  unfold PySem.W.exmOne
  rw [c.sb, if_pos (beq_self_eq_true _)]
  unfold PySem.W.kitCls
  simp only [c.cl, c.ty, Bool.true_and, beq_self_eq_true, if_true]
  exact h
theorem qs0_ {N : Addr} {b : Bool} {T : String} (hT : PySem.W.kitMeta T = true) (h : PySem.W.subIn K (.ref N) (.type T) = some b) : PySem.W.kitOne K (.ref N) (.type T) = some b := by
  unfold PySem.W.kitOne
  rw [if_neg (by simp)]
  unfold PySem.W.kitCls
  simp only [hT, if_true]
  exact h
theorem qhl_ {M : Model} {h : Heap} (X : K.In h) (c : XCls K C) : PySem.W.Looks M h (isType (.ref C)) true := by
  have z := c.cl
  unfold PySem.W.clsIn at z
  split at z
  · rename_i ho
    intro A' Q' E' s' k q
    unfold isType loadHead
    exact wpAny_bind (wpAny_loadPart (k _ _ (X _ _ ho)) (wpAny_pure q))
  · cases z
theorem qp9_ {M : Model} {nameV : Value} {Q : Unit → Shared → Prop} {s : Shared} (X : K.In s.heap) (c : XCls K C) (I : PySem.W.InstAt s.heap x ox C none) (hq : Q () s) :
    wpAny M A (checkBuiltinCall "BaseException.__getattribute__" ⟨[.ref x, nameV], []⟩) Q E s := by
  obtain ⟨h, g, d, t, os⟩ := s
  have hk : builtinKind "BaseException.__getattribute__" = some .slot := by decide +kernel
  have hsplit : splitId "BaseException.__getattribute__" = some ("BaseException", "__getattribute__") := by decide +kernel
  have L0 := I.type (M := M)
  have L1 := PySem.W.looks_mroIn (M := M) X c.mb
  have ha := F.args_bexc_ga (.ref x) nameV
  simp only [checkBuiltinCall, hk, hsplit]
  refine wpAny_bind ?_
  unfold isInstance
  refine wpAny_bind (L0.at ?_)
  refine L1.at ?_
  repeat (first | assumption | wp_step)
theorem qqi_ {tk : Tok} {Q : Fin → Shared → Prop} {s : Shared} (X : K.In s.heap) (c : XCls K C) (I : PySem.W.InstAt s.heap x ox C none) (hq : Q (.done (.ret (.ref C))) s) :
    wpAny (model prog w) A (Builtin.«object.__getattribute__» ⟨[.ref x, .str "__class__" tk], []⟩) Q E s := by
  obtain ⟨h, g, d, t, os⟩ := s
  have L0 := I.type (M := model prog w)
  have L1 := PySem.W.looks_find (M := model prog w) X I c.fo
  unfold Builtin.«object.__getattribute__»
  refine wpAny_bind (wpAny_pure ?_)
  refine wpAny_bind (wpAny_pure ?_)
  refine wpAny_bind (L0.at ?_)
  refine wpAny_bind (L1.at ?_)
  show wpAny _ _ (holding [.builtin "object.__class__"] (call (.builtin "getset_descriptor.__get__") [.builtin "object.__class__", .ref x, .ref C]) >>= ret) _ _ _
  refine wpAny_bind (wpAny_holding (wpAny_call (PySem.W.class_get X I c.mo ?_)))
  exact wpAny_pure hq
theorem qo6_ {Q : Option Value → Shared → Prop} {s : Shared} (X : K.In s.heap) (c : XCls K C) (I : PySem.W.InstAt s.heap x ox C none) (hq : Q (some (.ref C)) { s with toks := s.toks + 1 }) :
    wpAny (model prog w) A (getAttr? (.ref x) "__class__") Q E s := by
  obtain ⟨h, g, d, t, os⟩ := s
  have L0 := I.type (M := model prog w)
  have L1 := PySem.W.looks_findIn (M := model prog w) X c.ga
  have L2 := PySem.W.looks_findIn (M := model prog w) X c.hk
  have f3 := F.attr_ValueError.ga.bind (.ref x)
  unfold getAttr? getAttrBy? getAttrBy
  refine wpAny_bind (wpAny_mkText (wpAny_bind (wpAny_attempt (wpAny_holding (wpAny_bind (L0.at (wpAny_bind (L1.at ?_))))))))
  show wpAny _ _ (getAttrByItsOwn _ _ _ _ _ _) _ _ _
  unfold getAttrByItsOwn
  refine wpAny_bind (L2.at ?_)
  show wpAny _ _ (Sem.attempt (boundAndCalled _ _ _) >>= _) _ _ _
  refine wpAny_bind (wpAny_attempt ?_)
  unfold boundAndCalled
  rw [f3]
  refine wpAny_bind (wpAny_pure (wpAny_call (codeAny_call_builtin F.attr_ValueError.ga.plain F.entry_bexc_ga (qp9_ X c I (qqi_ X c I ?_)))))
  refine wpAny_pure ?_
  exact wpAny_pure hq
theorem qje_ (c : XCls K C) : PySem.W.KitX K (.ref x) (.ref C) (fun h => PySem.W.InstAt h x ox C none) where
  ty := fun _ _ _ I => I.type
  it := fun _ _ X _ => qhl_ X c
  ne := fun h tp dd its n sl X htp => by
    have z := c.cl
    refine Bool.eq_false_iff.mpr fun q => ?_
    have e : C = tp := Value.ref.inj (beq_iff_eq.mp q)
    subst e
    unfold PySem.W.clsIn at z
    split at z
    · rename_i ho
      have y := (X _ _ ho).symm.trans htp
      cases y
    · cases z
  ca := fun X I k => qo6_ X c I k
end
end L3
namespace L3
open PySem PySem.Spec PyProof.Rows L2
structure Flies (h : Heap) (e C : Addr) (tb : Option Addr) : Prop where
  ob : ∃ oe vs, h.get? e = some oe ∧ oe.cls = .ref C ∧ oe.dict = none ∧ oe.data = .fields vs ∧ vs[1]? = some (match tb with | none => Value.none | some T => .ref T)
  tr : ∀ T, tb = some T → T ≠ e ∧ ∃ oT ts, h.get? T = some oT ∧ oT.data = .fields ts ∧ ts[3]? = some .none
theorem qj7_ (f : Array Value → Array Value) (o : Obj) : (o.mapFields f).dict = o.dict := by
  obtain ⟨c, d, dt, sl⟩ := o
  cases dt <;> rfl
structure Kp (S : List Addr) (e : Addr) (tb : Option Addr) (h h' : Heap) : Prop where
  keep : ∀ b o, b ≠ e → tb ≠ some b → b ∉ S → h.get? b = some o → h'.get? b = some o
  slot : ∀ b o, b ≠ e → tb ≠ some b → h.get? b = some o → ∃ sl, h'.get? b = some { o with slots := sl }
  size : h.objs.size ≤ h'.objs.size
section
variable {M : Model} {A : Around} {E : Value → Shared → Prop} {s : Shared} {base : Heap} {env : Env} {outer : List Env} {L e C : Addr}
theorem qjb_ {oe : Obj} {vs : Array Value} {head : Value} {hadNext : Bool} {Q : Unit → Shared → Prop}
    (hfr : A.frames = some (env :: outer)) (hl : s.heap.FunFrames base (env :: outer)) (hf : env.frame = some L)
    (he : s.heap.get? e = some oe) (hcl : oe.cls = .ref C) (hdi : oe.dict = none) (hd : oe.data = .fields vs) (hz : 1 < vs.size)
    (h : ∀ h' T, s.heap.objs.size ≤ T → Flies h' e C (some T) → Kp (frs (env :: outer)) e none s.heap h' → Q () { s with heap := h' }) :
    wpAny M A (do
        let a ← frameOf env
        let pl ← entryPlaceOf L hadNext
        let b ← EntryCells.newEntry head a .none (rawInt L) .none pl
        setField (.ref e) 1 b) (fun _ s' => wpAny M A (setFlight (.ref e) none) Q E s') E s := by
  have hne : e ∉ frs (env :: outer) := by
    intro hm
    obtain ⟨_, o, ho, hn⟩ := hl.mem hm
    rw [he] at ho
    cases ho
    exact hn vs hd
  refine wpAny_bind (wpAny_frameOf_fun hfr hl hf fun g1 so => wpAny_bind (wpAny_entryPlaceOf fun pl hpl => ?_))
  have e1 : g1.get? e = some oe := (so.2.1 e hne).trans he
  unfold EntryCells.newEntry newFields
  refine wpAny_bind (wpAny_newObj_type ?_ (hpl.sizeOk5 _ _ _ _ _))
  generalize hT : ({ cls := .type "traceback", dict := none, data := .fields ([head, .ref L, .none, rawInt L, .none] ++ (if pl.isEmpty then List.replicate 6 Value.none else pl)).toArray } : Obj) = oT
  have dT : oT.data = .fields ([head, .ref L, .none, rawInt L, .none] ++ (if pl.isEmpty then List.replicate 6 Value.none else pl)).toArray := by rw [← hT]
  have zT : 3 < (([head, .ref L, .none, rawInt L, .none] ++ (if pl.isEmpty then List.replicate 6 Value.none else pl)).toArray).size := by simp
  generalize hts : ([head, .ref L, .none, rawInt L, .none] ++ (if pl.isEmpty then List.replicate 6 Value.none else pl)).toArray = ts at dT zT
  have e2 : (g1.push oT).get? e = some oe := Heap.get?_push_of_some oT e1
  refine wpAny_setField e2 hd hz ?_
  have n1 : g1.objs.size ≠ e := Nat.ne_of_gt (Heap.lt_size e1)
  have d3 := Obj.data_mapFields hd (·.setIfInBounds 1 (Value.ref g1.objs.size))
  have e3 := Heap.get?_update_self (Obj.mapFields (·.setIfInBounds 1 (Value.ref g1.objs.size))) e2 (Obj.isFreed_of_fields d3)
  have t3 : ((g1.push oT).update e (Obj.mapFields (·.setIfInBounds 1 (Value.ref g1.objs.size)))).get? g1.objs.size = some oT :=
    (Heap.get?_update_other _ _ (Ne.symm n1)).trans (Heap.get?_push_size g1 (by rw [← hT]; rfl))
  unfold setFlight
  refine wpAny_bind (wpAny_field e3 d3 (x := .ref g1.objs.size) (by simp [hz]) ?_)
  rw [if_pos (by simp)]
  refine wpAny_setField t3 dT zT (h _ g1.objs.size ?_ ⟨⟨_, _, (Heap.get?_update_other _ _ n1).trans e3, ?_, ?_, d3, by simp [hz]⟩, fun T hTT => ?_⟩ ⟨fun b o hb _ hS q => ?_, fun b o hb _ q => ?_, ?_⟩)
  · exact Nat.le_of_eq so.1.symm
  · rw [Obj.cls_mapFields]; exact hcl
  · rw [qj7_]; exact hdi
  · cases hTT
    exact ⟨n1, _, _, Heap.get?_update_self _ t3 (Obj.isFreed_of_fields (Obj.data_mapFields dT _)), Obj.data_mapFields dT _, by simp [zT]⟩
  · have q1 := (so.2.1 b hS).trans q
    have n2 : g1.objs.size ≠ b := Nat.ne_of_gt (Heap.lt_size q1)
    rw [Heap.get?_update_other _ _ n2, Heap.get?_update_other _ _ (Ne.symm hb)]
    exact Heap.get?_push_of_some _ q1
  · obtain ⟨sl, q1⟩ := so.2.2 b o q
    have n2 : g1.objs.size ≠ b := Nat.ne_of_gt (Heap.lt_size q1)
    refine ⟨sl, ?_⟩
    rw [Heap.get?_update_other _ _ n2, Heap.get?_update_other _ _ (Ne.symm hb)]
    exact Heap.get?_push_of_some _ q1
  · have := so.1
    simp
    omega
theorem ql2_ {tb : Option Addr} {Q : Unit → Shared → Prop}
    (hfr : A.frames = some (env :: outer)) (hl : s.heap.FunFrames base (env :: outer)) (hf : env.frame = some L) (fl : Flies s.heap e C tb)
    (h : ∀ h' T, s.heap.objs.size ≤ T → Flies h' e C (some T) → Kp (frs (env :: outer)) e tb s.heap h' → Q () { s with heap := h' }) :
    wpAny M A (noteFrame (.ref e) env) (fun _ s' => wpAny M A (setFlight (.ref e) none) Q E s') E s := by
  obtain ⟨⟨oe, vs, he, hcl, hdi, hd, h1⟩, tr⟩ := fl
  have hz : 1 < vs.size := (Array.getElem?_eq_some_iff.mp h1).1
  unfold noteFrame
  simp only [hf]
  refine wpAny_bind (wpAny_field he hd h1 ?_)
  cases tb with
  | none =>
    rw [if_neg (by decide)]
    exact qjb_ hfr hl hf he hcl hdi hd hz h
  | some T =>
    obtain ⟨n1, oT, ts, hT, dT, h3⟩ := tr T rfl
    have zT : 3 < ts.size := (Array.getElem?_eq_some_iff.mp h3).1
    simp only
    rw [if_pos (by simp)]
    refine wpAny_bind (wpAny_field hT dT h3 ?_)
    rw [if_neg (by simp [rawInt])]
    refine wpAny_bind (wpAny_setField hT dT zT ?_)
    have oth : ∀ b, b ≠ T → (s.heap.update T (Obj.mapFields (·.setIfInBounds 3 Value.none))).get? b = s.heap.get? b := fun b hb => Heap.get?_update_other _ _ (Ne.symm hb)
    have zs : (s.heap.update T (Obj.mapFields (·.setIfInBounds 3 Value.none))).objs.size = s.heap.objs.size := Heap.size_after_update ..
    have nrec : ∀ b o, s.heap.get? b = some o → (∀ ws, o.data ≠ .fields ws) → b ≠ T := fun b o q hn z => by
      rw [z, hT] at q
      cases q
      exact hn ts dT
    refine qjb_ (hfr := hfr) (hl.of_keeps fun b o q hn => ⟨o, (oth b (nrec b o q hn)).trans q, rfl⟩) hf ((oth e (Ne.symm n1)).trans he) hcl hdi hd hz fun h' T' hT' fl' kp => ?_
    have nT' : s.heap.objs.size ≤ T' := by rw [← zs]; exact hT'
    refine h h' T' nT' fl' ⟨fun b o hb hbT hS q => ?_, fun b o hb hbT q => ?_, ?_⟩
    · exact kp.keep b o hb (fun z => nomatch z) hS ((oth b fun z => hbT (by rw [z])).trans q)
    · exact kp.slot b o hb (fun z => nomatch z) ((oth b fun z => hbT (by rw [z])).trans q)
    · rw [← zs]; exact kp.size
theorem qqv_ {T : Addr} {Q : Unit → Shared → Prop} (fl : Flies s.heap e C (some T)) (h : ∀ h', Flies h' e C (some T) → (∀ b o, b ≠ T → s.heap.get? b = some o → h'.get? b = some o) → h'.objs.size = s.heap.objs.size → Q () { s with heap := h' }) :
    wpAny M A (setFlight (.ref e) none) Q E s := by
  obtain ⟨⟨oe, vs, he, hcl, hdi, hd, h1⟩, tr⟩ := fl
  obtain ⟨n1, oT, ts, hT, dT, h3⟩ := tr T rfl
  have zT : 3 < ts.size := (Array.getElem?_eq_some_iff.mp h3).1
  have oth : ∀ b, b ≠ T → (s.heap.update T (Obj.mapFields (·.setIfInBounds 3 ((none : Option Addr).elim Value.none fun f => rawInt f)))).get? b = s.heap.get? b := fun b hb => Heap.get?_update_other _ _ (Ne.symm hb)
  unfold setFlight
  refine wpAny_bind (wpAny_field he hd h1 ?_)
  simp only
  rw [if_pos (by simp)]
  refine wpAny_setField hT dT zT (h _ ⟨⟨oe, vs, (oth e (Ne.symm n1)).trans he, hcl, hdi, hd, h1⟩, fun T' z => ?_⟩ (fun b o hb q => (oth b hb).trans q) (Heap.size_after_update ..))
  cases z
  exact ⟨n1, _, _, Heap.get?_update_self _ hT (Obj.isFreed_of_fields (Obj.data_mapFields dT _)), Obj.data_mapFields dT _, by simp [zT]⟩
end
end L3
namespace L3
open PySem PySem.Spec PyProof.Rows L2
structure Lay (P : Program) (w : World) (st : List Env) (H H' : Hp) (s s' : Shared) (a C : Addr) (tb : Option Addr) : Prop where
  os : s'.os = s.os
  bare : AllBare s'.gens
  un : Un (frs st) [] H H' s.heap s'.heap
  hok : HOk P w H' s'.heap
  na : H' a = none
  nT : ∀ T, tb = some T → H' T = none ∧ s.heap.get? T = none
  fa : s.heap.get? a = none
  fl : Flies s'.heap a C tb
def CX1 (P : Program) (w : World) : CXT := fun outer H s E e s' => ∃ (a C T : Addr) (H' : Hp), e = .ref a ∧ Lay P w outer H H' s s' a C (some T) ∧ E (.ref C) (some a) H'
def Arr (X : Cx) (R : L2.St → XK) : Prop := ∀ (pins : List (Addr × Obj)) (σ : L2.St) (H H' : Hp) (s s' : Shared) (a C : Addr) (tb : Option Addr), Inv X pins σ H s → Lay X.prog X.w X.stack H H' s s' a C tb → R σ (.ref C) (some a) H' → X.xe (.ref a) s'
theorem qku_ {base : Heap} {h h' : Heap} : ∀ {l : List Env}, h.FunFrames base l → (∀ b ∈ frs l, ∀ o, h.get? b = some o → ∃ sl, h'.get? b = some { o with slots := sl }) → h'.FunFrames base l
  | [], _, _ => True.intro
  | env :: r, ⟨hk, ⟨L, o, hf, hn, ho, hd⟩, hr⟩, k => by
    have hL : L ∈ frs (env :: r) := by unfold frs; rw [List.filterMap_cons, hf]; exact List.mem_cons_self
    obtain ⟨sl, e⟩ := k L hL o ho
    exact ⟨hk, ⟨L, _, hf, hn, e, hd⟩, qku_ hr fun b hb => k b (by unfold frs; rw [List.filterMap_cons, hf]; exact List.mem_cons_of_mem _ hb)⟩
section
variable {X : Cx} {pins : List (Addr × Obj)} {σ : L2.St} {H H' : Hp} {s s' : Shared} {a C : Addr} {tb : Option Addr} {P : Program} {w : World}
theorem Lay.frN {st : List Env} (y : Lay P w st H H' s s' a C tb) {base : Heap} (fu : s.heap.FunFrames base st) (fr : ∀ b ∈ frs st, H b = none) : ∀ b ∈ frs st, H' b = none := fun b hb => by
  obtain ⟨_, o, ho, _⟩ := fu.mem hb
  exact y.un.free b o ho (fr b hb) (by simp)
theorem Lay.funs {st : List Env} (y : Lay P w st H H' s s' a C tb) {base : Heap} (fu : s.heap.FunFrames base st) (fr : ∀ b ∈ frs st, H b = none) : s'.heap.FunFrames base st :=
  qku_ fu fun b hb o ho => y.un.slot b o ho (fr b hb) hb (by simp)
theorem Lay.noted {st : List Env} {h' : Heap} {T : Addr} (y : Lay P w st H H' s s' a C tb) {base : Heap} (fu : s.heap.FunFrames base st) (fr : ∀ b ∈ frs st, H b = none) (hT : s'.heap.objs.size ≤ T) (fl : Flies h' a C (some T)) (kp : Kp (frs st) a tb s'.heap h') :
    Lay P w st H H' s { s' with heap := h' } a C (some T) := by
  have no : ∀ b o, s.heap.get? b = some o → b ≠ a ∧ tb ≠ some b := fun b o q => ⟨fun z => (by rw [z, y.fa] at q; cases q), fun z => (by rw [(y.nT b z).2] at q; cases q)⟩
  have nfr := y.frN fu fr
  refine ⟨y.os, y.bare, ⟨fun b o q n hb hx => ?_, fun b o q n hb hx => ?_, y.un.free, fun b o q hx => ?_, y.un.tups, y.un.frzs, y.un.tbls⟩, fun b o q => ?_, y.na, fun T' z => ?_, y.fa, fl⟩
  · exact kp.keep b o (no b o q).1 (no b o q).2 hb (y.un.keep b o q n hb hx)
  · obtain ⟨sl, q1⟩ := y.un.slot b o q n hb hx
    obtain ⟨sl', q2⟩ := kp.slot b _ (no b o q).1 (no b o q).2 q1
    exact ⟨sl', q2⟩
  · obtain ⟨o1, q1⟩ := y.un.there b o q hx
    obtain ⟨sl', q2⟩ := kp.slot b _ (no b o q).1 (no b o q).2 q1
    exact ⟨_, q2⟩
  · have tr : ∀ c u, H' c = some u → c ≠ a ∧ tb ≠ some c ∧ c ∉ frs st := fun c u z =>
      ⟨fun x => (by rw [x, y.na] at z; cases z), fun x => (by rw [(y.nT c x).1] at z; cases z), fun x => (by rw [nfr c x] at z; cases z)⟩
    refine (y.hok b o q).stay (fun c u hc z => ?_) (fun _ z => z) fun _ _ z => z
    have : ∃ u', H' c = some u' := by
      rcases hc with rfl | hc
      · exact ⟨o, q⟩
      · exact ⟨_, hc⟩
    obtain ⟨u', hu⟩ := this
    obtain ⟨t1, t2, t3⟩ := tr c u' hu
    exact kp.keep c u t1 t2 t3 z
  · cases z
    refine ⟨y.hok.fresh hT, ?_⟩
    cases q : s.heap.get? T with
    | none => rfl
    | some o =>
      obtain ⟨o', q'⟩ := y.un.there T o q (by simp)
      exact absurd (Nat.lt_of_lt_of_le (Heap.lt_size q') hT) (Nat.lt_irrefl _)
end
section
variable {P : Program} {w : World} {K : PySem.W.Frag} {mg : Str → Option Value} {base : Heap} {N : List Str} {qual : Str} {scope : Scope} {f : Addr} {cd : Value} {A : Around} {outer : List Env} {s₀ : Shared} {H₀ : Hp} {E : XK}
theorem qrh_ : Arr (cxOf (CX1 P w) P w K mg base N qual scope f cd A outer s₀ H₀ E) fun _ => E := by
  intro pins σ H H' s s' a C tb I y hE
  show wpAny _ _ (leaving _ _) _ _ _
  unfold leaving
  refine wpAny_bind (ql2_ I.ok.frames (y.funs I.stack I.stkFree) rfl y.fl fun h' T hT fl kp => ?_)
  have y' := y.noted I.stack I.stkFree hT fl kp
  have ab : ∀ b o, s₀.heap.get? b = some o → b ≠ s₀.heap.objs.size := fun b o q => Nat.ne_of_lt (Heap.lt_size q)
  have nin : ∀ b o, s₀.heap.get? b = some o → b ∉ frs outer → b ∉ frs (envOfC qual scope s₀.heap.objs.size f cd :: outer) := fun b o q h1 h2 => by
    have : b ∈ s₀.heap.objs.size :: frs outer := h2
    rcases List.mem_cons.mp this with z | z
    · exact ab b o q z
    · exact h1 z
  have yin : ∀ b, b ∈ frs outer → b ∈ frs (envOfC qual scope s₀.heap.objs.size f cd :: outer) := fun b h1 => by
    show b ∈ s₀.heap.objs.size :: frs outer
    exact List.mem_cons_of_mem _ h1
  have bk : ∀ b o, s₀.heap.get? b = some o → ∃ o', s.heap.get? b = some o' := fun b o q => I.base.there b o q (by simp [cxOf])
  refine ⟨a, C, T, H', rfl, ⟨y'.os.trans I.os, y'.bare, ⟨fun b o q n hb hx => ?_, fun b o q n hb hx => ?_, fun b o q n hx => ?_, fun b o q hx => ?_, fun b xs q => y'.un.tups b xs (I.base.tups b xs q), fun b o u q => y'.un.frzs b o u (I.base.frzs b o u q), fun b ps q => ?_⟩, y'.hok, y'.na, fun T' z => ⟨(y'.nT T' z).1, ?_⟩, ?_, y'.fl⟩, hE⟩
  · exact y'.un.keep b o (I.base.keep b o q n hb (by simp [cxOf])) (I.base.free b o q n (by simp [cxOf])) (nin b o q hb) hx
  · obtain ⟨sl, q1⟩ := I.base.slot b o q n hb (by simp [cxOf])
    obtain ⟨sl', q2⟩ := y'.un.slot b _ q1 (I.base.free b o q n (by simp [cxOf])) (yin b hb) hx
    exact ⟨sl', q2⟩
  · obtain ⟨o', q1⟩ := bk b o q
    exact y'.un.free b o' q1 (I.base.free b o q n (by simp [cxOf])) hx
  · obtain ⟨o', q1⟩ := bk b o q
    exact y'.un.there b o' q1 hx
  · obtain ⟨m1, e1⟩ := I.base.tbls b ps q
    obtain ⟨m2, e2⟩ := y'.un.tbls b _ e1
    exact ⟨m1 ++ m2, by rw [e2, Array.append_assoc]⟩
  · cases q : s₀.heap.get? T' with
    | none => rfl
    | some o =>
      obtain ⟨o', q1⟩ := bk T' o q
      rw [(y'.nT T' z).2] at q1
      cases q1
  · cases q : s₀.heap.get? a with
    | none => rfl
    | some o =>
      obtain ⟨o', q1⟩ := bk a o q
      rw [y'.fa] at q1
      cases q1
end
end L3
namespace L3
open PySem PySem.Spec PyProof.Rows L2
theorem qk2_ {P : Program} {w : World} {H : Hp} {h : Heap} {a : Addr} {o : HO} (x : ObjOk P w H h a o) : ∃ u, h.get? a = some u := by
  induction o with
  | lst xs => obtain ⟨_, _, _, _, e⟩ := x; exact ⟨_, e⟩
  | tup xs => obtain ⟨_, _, _, o, e, _⟩ := x; exact ⟨_, e⟩
  | dK kvs => obtain ⟨_, _, _, _, o, _, _, e, _⟩ := x; exact ⟨_, e⟩
  | dT kvs => obtain ⟨_, _, _, _, o, _, _, e, _⟩ := x; exact ⟨_, e⟩
  | set S n => obtain ⟨o, _, _, _, e, _⟩ := x; exact ⟨_, e⟩
  | ins C dx fs => obtain ⟨_, _, _, e, _⟩ := x; exact ⟨_, e⟩
  | own y => exact x
  | xd fs => obtain ⟨_, ⟨_, _, _, e, _⟩, _⟩ := x; exact ⟨_, e⟩
  | rng lo hi => obtain ⟨_, _, _, e⟩ := x; exact ⟨_, e⟩
  | frz ob u ih => exact ⟨_, x.1⟩
  | tbl ps => exact ⟨_, x⟩
  | met f y => exact ⟨_, x⟩
  | ext φ => exact x.2.1
theorem qnh_ {P : Program} {w : World} {H : Hp} {h : Heap} {a : Addr} (x : HOk P w H h) (e : h.get? a = none) : H a = none := by
  cases q : H a with
  | none => rfl
  | some o =>
    obtain ⟨u, z⟩ := qk2_ (x a o q)
    rw [e] at z
    cases z
abbrev qfh_ : List Value := [.type "ValueError", .type "Exception", .type "BaseException", .type "object"]
theorem own_of {K : PySem.W.Frag} {h : Heap} {C : Addr} {bmB : List Value} {newId : String} (X : K.In h) (q : PySem.W.excIn K C bmB newId = true) :
    ∃ tl N nm qn bs hd sn sub ab col dd k0 k1 k2 k3 k5 mN, h.get? C = some (excClassObj nm qn C N bs tl hd sn sub ab col dd k0 k1 k2 k3 k5 newId) ∧ h.Ns N mN ∧ mN "__init__" = none ∧ OwnTail h bmB tl := by
  unfold PySem.W.excIn at q
  split at q
  · rename_i dd cd sl ho
    split at q
    · rename_i C' bm k0 k1 k2 k3 nn k5 hmr hsl
      simp only [Bool.and_eq_true, beq_iff_eq, Bool.not_eq_true'] at q
      obtain ⟨⟨⟨⟨⟨e1, e2⟩, e3⟩, e4⟩, e5⟩, e6⟩ := q
      subst e1 e2
      obtain ⟨nm, bs, mro, ns, qn, hd, sn, sub, ab, col, del⟩ := cd
      simp only at hmr e3 e5 e6
      subst hmr e3
      have z : sl = #[k0, k1, k2, k3, some (.builtin nn), k5] := by
        cases sl
        simpa using hsl
      subst z
      exact ⟨bm, ns, nm, qn, bs, hd, sn, sub, ab, col, dd, k0, k1, k2, k3, k5, _, X _ _ ho, .of_isNs (PySem.W.isNs_of_in X e5), PySem.W.nsMap_none_of_in X e5 e6, PySem.W.tail_of_in X e4⟩
    · cases q
  · cases q
section
variable {X : Cx} {R : L2.St → XK} {x : Str} {C : Addr} {e : Expr} {es : List Expr} {t : TA} {np cpos pos : Pos}
def qt6_ (C : Addr) (R : L2.St → XK) (t : TA) : TS := fun _ σ H => t σ H fun vs H1 => vs.length ≤ sizeLine ∧ ∀ a, H1 a = none → R σ (.ref C) (some a) H1
theorem qmj_ (hg : Gl X x) (hm : X.mg x = some (.ref C)) (q : PySem.W.excIn X.K C qfh_ "ValueError.__new__" = true) (ar : Arr X R) (ha : PA X (e :: es) t) (hc : X.calm = true := by rfl)
    (hdb : (x == ("__debug__" : Str)) = false := by decide) (he : starEach (e :: es) X.env = (false, eval e X.env) :: starEach es X.env := by rfl) (hpl : (backTo cpos (starEach es X.env)).any (·.1) = false := by rfl) :
    PS X (.Raise (some (.Call (.Name x np) (e :: es) [] cpos)) none pos) (qt6_ C R t) := by
  intro pins s σ H D I h
  obtain ⟨tl, N, nm, qn, bs, hd, sn, sub, ab, col, dd, k0, k1, k2, k3, k5, mN, hC, hNs, hni, T⟩ := own_of I.mod.kin q
  refine wpAny_Raise_call_subU (C := C) (nm := nm) (q := qn) (N := N) (bs := bs) (bm := tl) (hdct := hd) (sn := sn) (sub := sub) (ab := ab) (col := col) (dd := dd) (k0 := k0) (k1 := k1) (k2 := k2) (k3 := k3) (k5 := k5) (mN := mN)
    F.excBase_ValueError (by decide +kernel) F.excBase_ValueError (T.hasType F.excBase_ValueError.hasBase) (I.ok.hd hc) ?_ hni (qe1_ I hg hm ⟨rfl, ?_⟩ hdb)
  · rw [he]
    show (false || (backTo cpos (starEach es X.env)).any (·.1)) = false
    rw [hpl]; rfl
  · have h2 := ha cpos pins s σ H _ I h
    rw [he] at h2 ⊢
    refine Calls.evalArgs_plain (wpAny_mono h2 (fun us s2 y => ?_) fun _ _ y => y)
    obtain ⟨vs, H1, I1, r, z, k⟩ := y
    refine ⟨rfl, by rw [← r.length]; exact z, I1.bk _ _ hC, hNs.keeps I1.bk, T.keeps I1.bk, fun h' a m => ?_⟩
    obtain ⟨tt, m1, _⟩ := m.there
    have na : H1 a = none := qnh_ I1.hok m.new
    refine ar pins σ H1 H1 s2 { s2 with heap := h' } a C none I1 ⟨rfl, I1.bare, Un.kept m.keeps, I1.hok.kept m.keeps, na, fun T z => (nomatch z), m.new, ⟨⟨_, _, m1, rfl, rfl, rfl, rfl⟩, fun T z => (nomatch z)⟩⟩ (k a na)
end
theorem qju_ {X : Cx} {R : L2.St → XK} (ar : Arr X R) {pins : List (Addr × Obj)} {σ : L2.St} {H : Hp} {s s' : Shared} {e : Value} (I : Inv X pins σ H s) (h : CX1 X.prog X.w X.stack H s (R σ) e s') : X.xe e s' := by
  obtain ⟨a, C, T, H', rfl, y, r⟩ := h
  exact ar pins σ H H' s s' a C (some T) I y r
section
variable {X : Cx} {R : L2.St → XK} {k : Nat} {ps : List Str} {sp : Sp} {x : Str} {p pos : Pos} {e : Expr} {es : List Expr} {t : TA}
def qog_ (sp : Sp) (R : L2.St → XK) (t : TA) : TE := fun σ H Q => t σ H fun vs H1 => sp vs H1 Q (R σ)
theorem qvu_ (F : Has X.prog X.w X.K X.mg X.base (CX1 X.prog X.w) k x ps sp) (hr : Room k X.A) (hg : Gl X x) (ar : Arr X R) (ha : PA X (e :: es) t) (hdb : (x == ("__debug__" : Str)) = false := by decide) (he : starEach (e :: es) X.env = (false, eval e X.env) :: starEach es X.env := by rfl) (hpl : (backTo pos (starEach es X.env)).any (·.1) = false := by rfl) :
    PE X (.Call (.Name x p) (e :: es) [] pos) (qog_ sp R t) := by
  obtain ⟨f, fd, F1, hb, kp, hm⟩ := F.ex
  intro pins s σ H Q I h
  refine wpAny_Call_Name_kw (qe1_ I hg hm ?_ hdb)
  refine PySem.W.callWith_K (h₀ := X.base) I.ok.mod.kin kp (thn (ha pos pins s σ H _ I h) fun us s1 ⟨vs, H1, I1, r, q⟩ => ⟨I1.kIn, ?_⟩) he hpl
  have r2 : Vals (vs ++ []) (us ++ []) := r.append .nil
  have hl : (us ++ []).length = ps.length := by rw [← r2.length]; exact F1.len _ _ _ _ (by rw [List.append_nil]; exact q)
  refine wpAny_call (codeAny_mono (F1.run X.A X.stack s1 H1 ⟨us, []⟩ (us ++ []) (vs ++ []) Q (R σ) hr I1.env0 (hb s1 us I1.kIn hl) r2 (by rw [List.append_nil]; exact q)) fun r s' hq => ?_)
  cases r with
  | error e => exact qju_ ar I1 hq
  | ok fl =>
    cases fl with
    | ret u => exact I1.after hq
    | next => exact False.elim hq
    | brk => exact False.elim hq
    | cont => exact False.elim hq
end
theorem Def.hasX {P : Program} {w : World} {K : PySem.W.Frag} {mg : Str → Option Value} {base : Heap} {k : Nat} {x : Str} {st : Stmt} {N ps : List Str} {sp : Sp} (F : Def K mg x st ps) (sc : FnScope N ps (qd_ st)) (len : ∀ vs H Q E, sp vs H Q E → vs.length = ps.length)
    (hbody : ∀ (f : Addr) (cdv : Value) (A : Around) (outer : List Env) (s : Shared) (H : Hp) (vs : List V) (Q : VK) (E : XK), Room k (A.deeper (envOfC x (qd_ st) s.heap.objs.size f cdv)) → sp vs H Q E →
      ∃ t, PSs (cxOf (CX1 P w) P w K mg base N x (qd_ st) f cdv A outer s H E) (qz_ st) t ∧ t { nx := fun _ H' => Q .non H', rt := Q } (start N vs) H) : Has P w K mg base (CX1 P w) (k + 1) x ps sp := by
  obtain ⟨f, fd, F1, b, m⟩ := F.ex
  obtain ⟨oc, od, kV, doc, pm, an, cdv, ct, osl, rfl, lk, hcd⟩ := F1.ex
  exact ⟨f, _, quh_ lk hcd sc len fun A outer s H vs Q E hr hsp => hbody f cdv A outer s H vs Q E hr hsp, b, F1.kp, m⟩
section
variable {X : Cx} {pins : List (Addr × Obj)} {σ : L2.St} {H : Hp} {s : Shared}
abbrev Cx.tr (X : Cx) (pn : List (Addr × Obj)) (xe : Value → Shared → Prop) : Cx := { X with pn := pn, xe := xe }
abbrev Cx.mk' (X : Cx) (e : Addr) : Cx := { X with A := X.A.mark (some (.ref e)), calm := false, xe := fun _ _ => False }
theorem qv2_ {pn : List (Addr × Obj)} {xe : Value → Shared → Prop} (ok : X.Ok) : (Cx.tr X pn xe).Ok := ⟨ok.mod, ok.kind, ok.glob, ok.blt, ok.above, ok.inj, ok.has, ok.cab, ok.hd, ok.frames, ok.stk, ok.exf, ok.bs, ok.bsz, ok.noex, ok.exfs, ok.funs, ok.frf⟩
theorem qp8_ {pn : List (Addr × Obj)} {xe : Value → Shared → Prop} (ok : (Cx.tr X pn xe).Ok) : X.Ok := ⟨ok.mod, ok.kind, ok.glob, ok.blt, ok.above, ok.inj, ok.has, ok.cab, ok.hd, ok.frames, ok.stk, ok.exf, ok.bs, ok.bsz, ok.noex, ok.exfs, ok.funs, ok.frf⟩
theorem qtl_ {xe : Value → Shared → Prop} (I : Inv X pins σ H s) : Inv (Cx.tr X (X.pn ++ pins) xe) [] σ H s :=
  ⟨qv2_ I.ok, I.os, I.bare, I.base, I.loc, I.cell, I.free, I.freeC, fun p hp => I.pin p (by simpa using hp), I.hok, I.len⟩
theorem qdz_ {xe : Value → Shared → Prop} {pins' : List (Addr × Obj)} (I : Inv (Cx.tr X (X.pn ++ pins) xe) pins' σ H s) : Inv X pins σ H s :=
  ⟨qp8_ I.ok, I.os, I.bare, I.base, I.loc, I.cell, I.free, I.freeC, fun p hp => I.pin p (List.mem_append_left _ hp), I.hok, I.len⟩
theorem qi5_ {e : Addr} (I : Inv X pins σ H s) : Inv (Cx.mk' X e) pins σ H s :=
  ⟨⟨I.ok.mod, I.ok.kind, I.ok.glob, I.ok.blt, I.ok.above, I.ok.inj, I.ok.has, I.ok.cab, fun z => (nomatch z), I.ok.frames, I.ok.stk, I.ok.exf, I.ok.bs, I.ok.bsz, I.ok.noex, I.ok.exfs, I.ok.funs, I.ok.frf⟩, I.os, I.bare, I.base, I.loc, I.cell, I.free, I.freeC, I.pin, I.hok, I.len⟩
theorem qj1_ {e : Addr} (hd : X.calm = true → X.A.handled = none) (I : Inv (Cx.mk' X e) pins σ H s) : Inv X pins σ H s :=
  ⟨⟨I.ok.mod, I.ok.kind, I.ok.glob, I.ok.blt, I.ok.above, I.ok.inj, I.ok.has, I.ok.cab, hd, I.ok.frames, I.ok.stk, I.ok.exf, I.ok.bs, I.ok.bsz, I.ok.noex, I.ok.exfs, I.ok.funs, I.ok.frf⟩, I.os, I.bare, I.base, I.loc, I.cell, I.free, I.freeC, I.pin, I.hok, I.len⟩
def IsX (a C : Addr) : Heap → Prop := fun h => ∃ ox, PySem.W.InstAt h a ox C none
theorem qs3_ {P : Program} {w : World} {H : Hp} {h : Heap} {a C : Addr} {tb : Option Addr} (fl : Flies h a C tb) : ObjOk P w H h a (.ext (IsX a C)) := by
  obtain ⟨oe, vs, he, hc, hd, hf, _⟩ := fl.ob
  refine ⟨⟨oe, he, hc, ?_, ?_⟩, ⟨oe, he⟩, fun h1 h2 q k => ?_⟩
  · unfold PySem.W.notCls; rw [hf]
  · rw [hd]; trivial
  · obtain ⟨ox, q1, q2, q3, q4⟩ := q
    refine ⟨ox, k _ q1, q2, q3, ?_⟩
    cases z : ox.dict with
    | none => trivial
    | some y => rw [z] at q4; exact q4.elim
theorem qn2_ {H' : Hp} {s' : Shared} {a C T : Addr} (I : Inv X pins σ H s) (y : Lay X.prog X.w X.stack H H' s s' a C (some T)) : Inv X pins σ (upd H' a (.ext (IsX a C))) s' := by
  have nb : ∀ b o, s.heap.get? b = some o → b ≠ a := fun b o q z => by rw [z, y.fa] at q; cases q
  have nh : ∀ b u, H' b = some u → b ≠ a := fun b u q z => by rw [z, y.na] at q; cases q
  have un : Un (frs X.stack) [] H (upd H' a (.ext (IsX a C))) s.heap s'.heap :=
    ⟨y.un.keep, y.un.slot, fun b o q n hx => by rw [qh_ (nb b o q)]; exact y.un.free b o q n hx, y.un.there, fun b xs q => by have z := y.un.tups b xs q; rw [qh_ (nh b _ z)]; exact z,
     fun b o u q => by have z := y.un.frzs b o u q; rw [qh_ (nh b _ z)]; exact z, fun b ps q => by obtain ⟨m, z⟩ := y.un.tbls b ps q; exact ⟨m, by rw [qh_ (nh b _ z)]; exact z⟩⟩
  have hok : HOk X.prog X.w (upd H' a (.ext (IsX a C))) s'.heap := fun b o q => by
    by_cases z : b = a
    · subst z
      rw [qi_] at q
      cases q
      exact qs3_ y.fl
    · rw [qh_ z] at q
      exact (y.hok b o q).stay (fun _ _ _ e => e) (fun c e => by rw [qh_ (nh c _ e)]; exact e) fun c xs e => by rw [qh_ (nh c _ e)]; exact e
  have os := y.os
  have bare := y.bare
  clear y
  obtain ⟨hh, g, d, t, os'⟩ := s'
  obtain rfl : os' = s.os := os
  exact I.call (h' := hh) (g' := g) (d' := d) (t' := t) (ch := []) un hok bare fun b z => absurd z (by simp)
end
end L3
namespace L3
open PySem PySem.Spec PyProof.Rows L2
section
variable {X : Cx} {pins : List (Addr × Obj)} {σ : L2.St} {H : Hp} {s : Shared}
theorem qmw_ {i : Nat} {n : Str} {m : Str → Option Value} {v : Option Value} {h' : Heap} {t : Nat} (I : Inv X pins σ H s) (hN : X.N.Nodup) (hi : X.N[i]? = some n) (hk : X.env.scope.names.lookup n = some .local)
    (hm : s.heap.Ns X.env.locals m ∧ ∀ (i : Nat) (x : Str) (v : V), X.N[i]? = some x → σ[i]? = some (some v) → Vis X.env.scope x → ∃ u, RelV v u ∧ Look X.env s.heap m x u)
    (hn : h'.Ns X.env.locals (fun x => if x = n then v else m x)) (hs : Heap.SameBut X.env.locals s.heap h') : Inv X pins (σ.set i none) H { s with heap := h', toks := t } := by
  obtain ⟨hn0, hl⟩ := hm
  obtain ⟨oL, _, _, hoL, _⟩ := id hn0
  have hiσ : i < σ.length := by rw [I.len]; exact (List.getElem?_eq_some_iff.mp hi).1
  refine ⟨I.ok, I.os, I.bare, ⟨fun b o e n hb hx => ?_, fun b o e n hb hx => ?_, I.base.free, fun b o e hx => ?_, I.base.tups, I.base.frzs, I.base.tbls⟩, ⟨_, hn, fun j y v' e1 e2 e3 => ?_⟩, fun y c e => ?_, I.free, I.freeC, fun p hp => ?_, fun b ob e => ?_, by simpa using I.len⟩
  · exact (hs.2 b (Nat.ne_of_lt (Nat.lt_of_lt_of_le (Heap.lt_size e) I.ok.above))).trans (I.base.keep b o e n hb hx)
  · obtain ⟨sl, e1⟩ := I.base.slot b o e n hb hx
    exact ⟨sl, (hs.2 b (Nat.ne_of_lt (Nat.lt_of_lt_of_le (Heap.lt_size e) I.ok.above))).trans e1⟩
  · obtain ⟨o', e1⟩ := I.base.there b o e hx
    exact ⟨o', (hs.2 b (Nat.ne_of_lt (Nat.lt_of_lt_of_le (Heap.lt_size e) I.ok.above))).trans e1⟩
  · by_cases hj : j = i
    · subst hj
      rw [List.getElem?_set_self hiσ] at e2
      cases e2
    · rw [List.getElem?_set_ne (Ne.symm hj)] at e2
      obtain ⟨u', r', q⟩ := hl j y v' e1 e2 e3
      refine ⟨u', r', ?_⟩
      rcases q with ⟨k, e⟩ | ⟨k, c, e, z⟩
      · refine .inl ⟨k, ?_⟩
        have : y ≠ n := fun e => hj (qf3_ hN e1 (e ▸ hi))
        simp [this, e]
      · exact .inr ⟨k, c, e, z.sameBut hs (I.cne y c e)⟩
  · obtain ⟨v', z⟩ := I.cell y c e
    exact ⟨v', z.sameBut hs (I.cne y c e)⟩
  · obtain ⟨e, n', ne, nf, d⟩ := I.pin p hp
    exact ⟨(hs.2 _ ne).trans e, n', ne, nf, d⟩
  · refine (I.hok b ob e).stay (fun c w' hc q => (hs.2 c ?_).trans q) (fun _ q => q) fun _ _ q => q
    have fr := I.free
    rintro rfl
    rcases hc with rfl | hc
    · rw [fr] at e; cases e
    · rw [fr] at hc; cases hc
def quo_ (D : Ends) (i : Nat) : Ends := ⟨fun σ H => D.nx (σ.set i none) H, D.rt, fun σ H => D.bk (σ.set i none) H, fun σ H => D.ct (σ.set i none) H⟩
def trX (K : PySem.W.Frag) (S : Addr) (i : Nat) (ts : TS) (D : Ends) : L2.St → XK := fun σ' c oa H' => ∃ a C, c = .ref C ∧ oa = some a ∧ PySem.W.exmOne K (.ref C) (.ref S) = some true ∧ ts (quo_ D i) (σ'.set i (some (.ref a))) (upd H' a (.ext (IsX a C)))
def tTry (K : PySem.W.Frag) (S : Addr) (i : Nat) (tb : (L2.St → XK) → TS) (ts : TS) : TS := fun D σ H => tb (trX K S i ts D) D σ H
theorem qr3_ {S : Addr} {i : Nat} {x n : Str} {body suite : List Stmt} {b0 : Stmt} {tb : (L2.St → XK) → TS} {ts : TS} {np hpos pos : Pos} (hN : X.N.Nodup) (hi : X.N[i]? = some n) (hk : X.env.scope.names.lookup n = some .local) (hg : Gl X x) (hm : X.mg x = some (.ref S))
    (hb : ∀ pn xe R, Arr (Cx.tr X pn xe) R → PSs (Cx.tr X pn xe) body (tb R)) (hs : ∀ a, PSs (Cx.mk' X a) (b0 :: suite) ts) (hst : X.stack = X.env :: X.outer := by rfl) (hf : X.env.frame = some X.env.locals := by rfl)
    (hdb : (x == ("__debug__" : Str)) = false := by decide) :
    PS X (.Try body [.ExceptHandler (some (.Name x np)) (some n) (b0 :: suite) hpos] [] [] pos) (tTry X.K S i tb ts) := by
  intro pins s σ H D I h
  let XE : Value → Shared → Prop := fun e s' => ∃ (σ' : L2.St) (H0 H' : Hp) (s0 : Shared) (a C : Addr) (tb : Option Addr), e = .ref a ∧ Inv X pins σ' H0 s0 ∧ Lay X.prog X.w X.stack H0 H' s0 s' a C tb ∧ trX X.K S i ts D σ' (.ref C) (some a) H'
  have ar : Arr (Cx.tr X (X.pn ++ pins) XE) (trX X.K S i ts D) := fun pins' σ' H0 H' s0 s' a C tb I' y r => ⟨σ', H0, H', s0, a, C, tb, rfl, qdz_ I', y, r⟩
  refine wpAny_Try_except (wpAny_mono (hb (X.pn ++ pins) XE _ ar [] s σ H D (qtl_ I) h) (fun f s1 q => ?_) fun e s1 q => ?_)
  · cases f with
    | next =>
      obtain ⟨σ', H', I', q⟩ := q
      exact wpAny_execs_nil ⟨σ', H', qdz_ I', q⟩
    | brk => obtain ⟨σ', H', I', q⟩ := q; exact ⟨σ', H', qdz_ I', q⟩
    | cont => obtain ⟨σ', H', I', q⟩ := q; exact ⟨σ', H', qdz_ I', q⟩
    | ret u => obtain ⟨v, σ', H', I', r, q⟩ := q; exact ⟨v, σ', H', qdz_ I', r, q⟩
  obtain ⟨σ', H0, H', s0, a, C, tb', rfl, I0, y, a', C', eC, ea, hx, q⟩ := q
  cases eC
  cases ea
  have fu := I0.stack
  have sf := I0.stkFree
  have fr := I0.ok.frames
  have yf := y.funs fu sf
  rw [hst] at fr yf
  refine ql2_ fr yf hf y.fl fun h' T hT fl kp => ?_
  rw [← hst] at kp
  have y' := y.noted fu sf hT fl kp
  have J := qn2_ I0 y'
  refine wpAny_handleBy_cons (codeAny_handlers_test ?_) (by intro z; cases z)
  refine qe1_ (X := Cx.mk' X a) (qi5_ J) hg hm ?_ hdb
  obtain ⟨ox, ix⟩ := (J.hok a _ qi_).1
  refine PySem.W.exm_one J.kIn ix.type hx _ _ _ _ (fun _ _ z => z) ?_
  refine codeAny_handlers_suite_as ?_
  refine qqv_ fl fun h2 fl2 k2 z2 => ?_
  have nT := (y'.nT T rfl).2
  have n0 : ∀ b o, s0.heap.get? b = some o → b ≠ T := fun b o z e => by rw [e, nT] at z; cases z
  obtain ⟨m0, ⟨oL, _, _, hoL, _⟩, _⟩ := id I0.loc
  have hTs : X.s₀.heap.objs.size ≤ T := by
    obtain ⟨o', z⟩ := y.un.there _ _ hoL (by simp)
    exact Nat.le_trans I0.ok.above (Nat.le_trans (Nat.le_of_lt (Heap.lt_size z)) hT)
  have J2 : Inv X pins σ' (upd H' a (.ext (IsX a C))) { s1 with heap := h2 } := by
    refine Inv.turned (s := { s1 with heap := h' }) (h' := h2) (it := T) (t' := s1.toks) J (fun b o hb z => k2 b o hb z) ?_ (fun e => n0 _ _ hoL e.symm) (.inr hTs) (fun x c e z => ?_) fun p hp z => ?_
    · rw [qh_ (fl.tr T rfl).1]; exact (y'.nT T rfl).1
    · obtain ⟨v, o, ho, _⟩ := I0.cell x c e
      exact n0 _ _ ho z
    · exact n0 _ _ (I0.pin p hp).1 z
  refine qdw_ J2 hN hi (.inl hk) (show RelV (.ref a) (.ref a) from rfl) (fun s2 J3 => ?_) (.inr hk)
  refine wpAny_mono (hs a pins s2 _ _ _ (qi5_ J3) q) (fun f s3 z => ?_) fun _ _ z => z.elim
  have hcl : (X.env.scope.kind == .class || (X.env.scope.kind == .module && X.env.locals != X.env.globals)) = false := by rw [I0.ok.kind]; rfl
  have go : ∀ {σ3 : L2.St} {H3 : Hp} {Q : Shared → Prop}, Inv (Cx.mk' X a) pins σ3 H3 s3 → (∀ s4, Inv X pins (σ3.set i none) H3 s4 → Q s4) →
      wpAny (model X.prog X.w) X.A (do bindName X.env n .none; unbindBehindTheSuite X.env n hpos) (fun _ s4 => Q s4) X.xe s3 := fun J4 hQ => by
    have J5 := qj1_ I0.ok.hd J4
    obtain ⟨m, hn, hl⟩ := id J5.loc
    exact wpAny_nameGoes_keeps hk hn hcl fun h4 v hn4 hs4 => hQ _ (qmw_ J5 hN hi hk ⟨hn, hl⟩ hn4 hs4)
  cases f with
  | next =>
    obtain ⟨σ3, H3, J4, z⟩ := z
    exact go J4 fun s4 J5 => ⟨_, _, J5, z⟩
  | brk =>
    obtain ⟨σ3, H3, J4, z⟩ := z
    exact go J4 fun s4 J5 => ⟨_, _, J5, z⟩
  | cont =>
    obtain ⟨σ3, H3, J4, z⟩ := z
    exact go J4 fun s4 J5 => ⟨_, _, J5, z⟩
  | ret u =>
    obtain ⟨v, σ3, H3, J4, r, z⟩ := z
    exact go J4 fun s4 J5 => ⟨v, _, _, J5, r, z⟩
def rIsX (K : PySem.W.Frag) : List V → Hp → VK → Prop := fun xs H Q => ∃ a C c b, xs = [.ref a, c] ∧ H a = some (.ext (IsX a C)) ∧ XCls K C ∧
  (((∃ cv, ((∃ n, c = .ty n ∧ cv = Value.type n) ∨ ∃ d, c = .ref d ∧ cv = Value.ref d) ∧ PySem.W.kitOne K (.ref C) cv = some b)) ∨ ∃ (tp : Addr) (ds : List Addr), c = .ref tp ∧ H tp = some (.tup (ds.map V.ref)) ∧ PySem.W.kitAny K (.ref C) (ds.map Value.ref) = some b) ∧ Q (.bl b) H
theorem qsp_ : ∀ {ds : List Addr} {us : List Value}, Vals (ds.map V.ref) us → us = ds.map Value.ref
  | [], _, .nil => rfl
  | d :: ds, _, .cons r t => by
    cases (show _ = Value.ref d from r)
    rw [qsp_ t]
    rfl
theorem qi3_ : qdt_ X (.builtin "isinstance") (rIsX X.K) := by
  intro pins s σ H vs us Q I r h
  obtain ⟨a, C, c, b, rfl, ha, xc, hc, q⟩ := h
  obtain ⟨u, w', rfl, r1, r2⟩ := qhn_ r
  cases (show u = Value.ref a from r1)
  obtain ⟨ox, ix⟩ := (I.hok a _ ha).1
  have fin : ∀ tk : Nat, EP X pins σ Q (.bool b) { s with toks := tk } := fun tk => ⟨.bl b, H, I.tok tk, rfl, q⟩
  rcases hc with ⟨cv, hcv, e⟩ | ⟨tp, ds, rfl, ht, e⟩
  · have e2 : w' = cv := by
      rcases hcv with ⟨n, rfl, rfl⟩ | ⟨d, rfl, rfl⟩
      · exact r2
      · exact r2
    subst e2
    exact PySem.W.kia_one (qje_ xc) I.kIn ix e (fun z => nomatch z) fin
  · cases (show w' = Value.ref tp from r2)
    obtain ⟨_, its, rv, o, h1, h2, h3⟩ := (show ObjOk X.prog X.w H s.heap tp (.tup (ds.map V.ref)) from I.hok tp _ ht)
    rw [qsp_ rv] at h3
    obtain ⟨cc, dd, dt, sl⟩ := o
    simp only at h2 h3
    subst h2
    obtain ⟨nn, rfl⟩ := h3
    exact PySem.W.kia_tup (qje_ xc) I.kIn ix h1 e (fun z => nomatch z) fin
end
def cOf (mg : Str → Option Value) (x : Str) : Addr := match mg x with
  | some (.ref a) => a
  | _ => 0
theorem ql_ {mg : Str → Option Value} {x : Str} {C : Addr} (h : mg x = some (.ref C)) : cOf mg x = C := by unfold cOf; rw [h]
structure ExC (K : PySem.W.Frag) (mg : Str → Option Value) (x : Str) : Prop where
  m : mg x = some (.ref (cOf mg x))
  q : PySem.W.excIn K (cOf mg x) qfh_ "ValueError.__new__" = true
  c : XCls K (cOf mg x)
theorem ExC.of {K : PySem.W.Frag} {mg : Str → Option Value} {x : Str} {C : Addr} (m : mg x = some (.ref C)) (q : PySem.W.excIn K C qfh_ "ValueError.__new__" = true) (c : XCls K C) : ExC K mg x := by
  have e := ql_ m
  refine ⟨?_, ?_, ?_⟩
  · rw [e]; exact m
  · rw [e]; exact q
  · rw [e]; exact c
theorem qe7_ : bootBuiltins "ValueError" = some (.type "ValueError") := by decide +kernel
end L3
namespace L3
open PySem PySem.Spec PyProof.Rows L2 PySem.SeqAt
noncomputable instance : DecidableEq D := fun a b => Classical.propDecidable (a = b)
mutual
def HD (h : Heap) : D → Value → Prop
  | .int i, u => ∃ t, u = .int i t
  | .tup ds, u => ∃ a its, u = .ref a ∧ h.IsTuple a its ∧ HDs h ds its.toList
  | .non, _ => False
  | .bl _, _ => False
  | .str _, _ => False
  | .lst _, _ => False
def HDs (h : Heap) : List D → List Value → Prop
  | [], us => us = []
  | d :: ds, us => ∃ u r, us = u :: r ∧ HD h d u ∧ HDs h ds r
end
mutual
def qhh_ : D → Int
  | .int i => hashInt i
  | .tup ds => reduceHash (Builtin.Tuple.tupleHashOf (qbw_ ds))
  | .non => 0
  | .bl _ => 0
  | .str _ => 0
  | .lst _ => 0
def qbw_ : List D → List Int
  | [] => []
  | d :: ds => qhh_ d :: qbw_ ds
end
mutual
def drD : D → Nat
  | .int _ => 1
  | .tup ds => drDs ds + 1
  | .non => 0
  | .bl _ => 0
  | .str _ => 0
  | .lst _ => 0
def drDs : List D → Nat
  | [] => 0
  | d :: ds => drD d + drDs ds
end
theorem HDs.length {h : Heap} : ∀ {ds : List D} {us : List Value}, HDs h ds us → ds.length = us.length
  | [], us, k => by rw [HDs] at k; rw [k]; rfl
  | d :: ds, us, k => by
    rw [HDs] at k
    obtain ⟨u, r, rfl, _, k⟩ := k
    rw [List.length_cons, List.length_cons, HDs.length k]
theorem HDs.get {h : Heap} : ∀ {ds : List D} {us : List Value} {i : Nat} {d : D}, HDs h ds us → ds[i]? = some d → ∃ u, us[i]? = some u ∧ HD h d u
  | [], us, i, d, k, e => by simp at e
  | x :: ds, us, 0, d, k, e => by
    rw [HDs] at k
    obtain ⟨u, r, rfl, k1, k2⟩ := k
    simp at e
    subst e
    exact ⟨u, rfl, k1⟩
  | x :: ds, us, i + 1, d, k, e => by
    rw [HDs] at k
    obtain ⟨u, r, rfl, k1, k2⟩ := k
    obtain ⟨u', h1, h2⟩ := HDs.get (i := i) k2 (by simpa using e)
    exact ⟨u', by simpa using h1, h2⟩
theorem qly_ {h : Heap} {a : Addr} {x y : Array Value} (hx : h.IsTuple a x) (hy : h.IsTuple a y) : x = y := by
  obtain ⟨o, h1, _, n, h2⟩ := hx
  obtain ⟨o', h3, _, n', h4⟩ := hy
  rw [h1] at h3
  cases h3
  rw [h2] at h4
  injection h4
mutual
theorem HD.inj {h : Heap} : ∀ {d e : D} {u : Value}, HD h d u → HD h e u → d = e
  | .int i, e, u, k, l => by
    rw [HD] at k
    obtain ⟨t, rfl⟩ := k
    cases e with
    | int j => rw [HD] at l; obtain ⟨t', l⟩ := l; injection l with l; rw [l]
    | tup es => rw [HD] at l; obtain ⟨_, _, l, _⟩ := l; cases l
    | _ => rw [HD] at l; exact l.elim
  | .tup ds, e, u, k, l => by
    rw [HD] at k
    obtain ⟨a, its, rfl, k1, k2⟩ := k
    cases e with
    | int j => rw [HD] at l; obtain ⟨t', l⟩ := l; cases l
    | tup es =>
      rw [HD] at l
      obtain ⟨a', its', l0, l1, l2⟩ := l
      cases l0
      rw [qly_ k1 l1] at k2
      rw [HDs.inj k2 l2]
    | _ => rw [HD] at l; exact l.elim
  | .non, e, u, k, l => by rw [HD] at k; exact k.elim
  | .bl _, e, u, k, l => by rw [HD] at k; exact k.elim
  | .str _, e, u, k, l => by rw [HD] at k; exact k.elim
  | .lst _, e, u, k, l => by rw [HD] at k; exact k.elim
theorem HDs.inj {h : Heap} : ∀ {d e : List D} {u : List Value}, HDs h d u → HDs h e u → d = e
  | [], e, u, k, l => by
    rw [HDs] at k
    subst k
    cases e with
    | nil => rfl
    | cons x xs => rw [HDs] at l; obtain ⟨_, _, l, _⟩ := l; cases l
  | d :: ds, e, u, k, l => by
    rw [HDs] at k
    obtain ⟨v, r, rfl, k1, k2⟩ := k
    cases e with
    | nil => rw [HDs] at l; cases l
    | cons x xs =>
      rw [HDs] at l
      obtain ⟨v', r', l0, l1, l2⟩ := l
      cases l0
      rw [HD.inj k1 l1, HDs.inj k2 l2]
end
mutual
theorem HD.keep {h h' : Heap} (k : ∀ a its, h.IsTuple a its → h'.IsTuple a its) : ∀ {d : D} {u : Value}, HD h d u → HD h' d u
  | .int i, u, r => by rw [HD] at r ⊢; exact r
  | .tup ds, u, r => by
    rw [HD] at r ⊢
    obtain ⟨a, its, r1, r2, r3⟩ := r
    exact ⟨a, its, r1, k _ _ r2, HDs.keep k r3⟩
  | .non, u, r => by rw [HD] at r; exact r.elim
  | .bl _, u, r => by rw [HD] at r; exact r.elim
  | .str _, u, r => by rw [HD] at r; exact r.elim
  | .lst _, u, r => by rw [HD] at r; exact r.elim
theorem HDs.keep {h h' : Heap} (k : ∀ a its, h.IsTuple a its → h'.IsTuple a its) : ∀ {d : List D} {u : List Value}, HDs h d u → HDs h' d u
  | [], u, r => by rw [HDs] at r ⊢; exact r
  | d :: ds, u, r => by
    rw [HDs] at r ⊢
    obtain ⟨x, t, r1, r2, r3⟩ := r
    exact ⟨x, t, r1, HD.keep k r2, HDs.keep k r3⟩
end
theorem qjz_ {h h' : Heap} {d : Addr} {o : Obj} {es ep} (ho : h.get? d = some o) (hd : o.data = .dict es ep) (hs : Heap.SameBut d h h') : ∀ a its, h.IsTuple a its → h'.IsTuple a its := by
  rintro a its ⟨o', h1, h2, n, h3⟩
  have hne : a ≠ d := by
    rintro rfl
    rw [ho] at h1
    cases h1
    rw [hd] at h3; cases h3
  exact ⟨o', (hs.2 a hne).trans h1, h2, n, h3⟩
theorem qjh_ {s : Shared} {a : Addr} {its : Array Value} (h : s.heap.IsTuple a its) : s.TypeIs (.ref a) "tuple" := let ⟨o, h1, h2, _⟩ := h; ⟨o, h1, h2⟩
section
variable {prog : Program} {w : World}
theorem qkh_ (n : Nat) : ∀ {A : Around} {E : Value → Shared → Prop} {s : Shared} {d : D} {u : Value} {Q : Int → Shared → Prop}, dep d ≤ n → A.units + n < cLine → HD s.heap d u → Q (qhh_ d) { s with toks := s.toks + drD d } → wpAny (model prog w) A (pyHash u) Q E s := by
  induction n with
  | zero =>
    intro A E s d u Q hn hu k h
    cases d with
    | int i => rw [HD] at k; obtain ⟨t, rfl⟩ := k; rw [qhh_, drD] at h; exact wpAny_pyHash_int h
    | tup ds => rw [dep] at hn; omega
    | _ => rw [HD] at k; exact k.elim
  | succ n ih =>
    intro A E s d u Q hn hu k h
    cases d with
    | int i => rw [HD] at k; obtain ⟨t, rfl⟩ := k; rw [qhh_, drD] at h; exact wpAny_pyHash_int h
    | tup ds =>
      rw [dep] at hn
      rw [HD] at k
      obtain ⟨a, items, rfl, k1, hi⟩ := k
      have hT := qjh_ k1
      obtain ⟨o, ho, _, m, hd⟩ := k1
      rw [qhh_, drD] at h
      unfold pyHash
      first | unfold pyHashByItsType | skip
      first | refine wpAny_bind (wpAny_cRoomFor_or (.inr (by omega)) ?_) | skip
      refine wpAny_bind (wpAny_specialOf hT F.slot_tuple_hash.lookup ?_)
      show wpAny _ _ (if (some (Value.builtin "tuple.__hash__") == some Value.none) = true then _ else _) Q E s
      rw [if_neg (by rw [beq_builtin_none]; exact Bool.false_ne_true)]
      refine wpAny_bind (wpAny_specialOf hT F.slot_tuple_hash.lookup ?_)
      show wpAny _ _ (callSpecialIfBoundUnlessNone? (.ref a) "__hash__" _ >>= _) Q E s
      refine wpAny_bind (wpAny_callSpecialIfBoundUnlessNone?_slot hT F.slot_tuple_hash (wpAny_call_entry F.slot_tuple_hash hT F.entry_tuple_hash ?_ (F.args_tuple_hash_1 _)))
      show wpAny _ _ (Builtin.Tuple.tupleItemsOf (.ref a) >>= _) _ _ s
      refine wpAny_bind (wpAny_tupleItemsOf ho hd ?_)
      refine wpAny_bind ?_
      rw [← Array.forIn_toList]
      have dl : ∀ {a b : List D}, qbw_ (a ++ b) = qbw_ a ++ qbw_ b := by
        intro a b
        induction a with
        | nil => rfl
        | cons x a ih => rw [List.cons_append, qbw_, qbw_, ih]; rfl
      have ds' : ∀ {a b : List D}, drDs (a ++ b) = drDs a + drDs b := by
        intro a b
        induction a with
        | nil => rw [List.nil_append, drDs, Nat.zero_add]
        | cons x a ih => rw [List.cons_append, drDs, drDs, ih, Nat.add_assoc]
      refine wpAny_forIn_list _
        (fun rest (b : Array Int) s' => ∃ done left, ds = done ++ left ∧ HDs s.heap left rest ∧ b.toList = qbw_ done ∧ s' = { s with toks := s.toks + drDs done })
        _ ?_ ?_ _ _ ⟨[], ds, rfl, hi, rfl, rfl⟩
      · rintro x rest b s' ⟨done, left, e, hl, hb, rfl⟩
        cases left with
        | nil => rw [HDs] at hl; cases hl
        | cons d left =>
          rw [HDs] at hl
          obtain ⟨x', r', e', hx, hl'⟩ := hl
          cases e'
          have hdn : dep d ≤ n := by
            have : ds[done.length]? = some d := by rw [e, List.getElem?_append_right (Nat.le_refl _), Nat.sub_self]; rfl
            have := qfp_ this
            omega
          refine wpAny_bind (ih (s := { s with toks := s.toks + drDs done }) hdn (by rw [qcd_]; omega) hx ?_)
          have nx : ∃ done' left', ds = done' ++ left' ∧ HDs s.heap left' rest ∧ (b.push (qhh_ d)).toList = qbw_ done' ∧ ({ s with toks := s.toks + drDs done + drD d } : Shared) = { s with toks := s.toks + drDs done' } :=
            ⟨done ++ [d], left, by rw [e]; simp, hl', by rw [Array.toList_push, hb, dl, qbw_, qbw_], by rw [ds', drDs, drDs, Nat.add_zero, Nat.add_assoc]⟩
          first
            | exact wpAny_pure nx
            | exact wpAny_bind (wpAny_pure (wpAny_pure nx))
      · rintro b s' ⟨done, left, e, hl, hb, rfl⟩
        cases left with
        | cons d left => rw [HDs] at hl; obtain ⟨_, _, hl, _⟩ := hl; cases hl
        | nil =>
          rw [List.append_nil] at e
          subst e
          show wpAny _ _ (retInt (Builtin.Tuple.tupleHashOf b.toList)) _ _ _
          rw [hb]
          refine wpAny_ret_mkInt ?_
          show wpAny _ _ (if (decide (-(2 : Int) ^ 63 ≤ Builtin.Tuple.tupleHashOf (qbw_ ds)) && decide (Builtin.Tuple.tupleHashOf (qbw_ ds) < 2 ^ 63)) = true then _ else _) Q E _
          unfold reduceHash at h
          by_cases hr : (decide (-(2 : Int) ^ 63 ≤ Builtin.Tuple.tupleHashOf (qbw_ ds)) && decide (Builtin.Tuple.tupleHashOf (qbw_ ds) < 2 ^ 63)) = true
          · rw [if_pos hr]
            rw [if_pos hr] at h
            exact wpAny_pure (by simpa [Nat.add_assoc] using h)
          · rw [if_neg hr]
            rw [if_neg hr] at h
            exact wpAny_bind (wpAny_rule (wpAny_pure (by simpa [Nat.add_assoc] using h)))
    | _ => rw [HD] at k; exact k.elim
theorem qqq_ (n : Nat) : ∀ {A : Around} {s : Shared} {d e : D} {u v : Value}, dep d ≤ n → A.units + n < cLine → HD s.heap d u → HD s.heap e v → EqAt A s u v (decide (d = e)) := by
  induction n with
  | zero =>
    intro A s d e u v hn hu k l
    cases d with
    | int i =>
      rw [HD] at k; obtain ⟨t, rfl⟩ := k
      cases e with
      | int j =>
        rw [HD] at l; obtain ⟨t', rfl⟩ := l
        have : decide (D.int i = D.int j) = (i == j) := by
          by_cases z : i = j
          · subst z; simp
          · rw [beq_eq_false_iff_ne.mpr z, decide_eq_false]; intro y; cases y; exact z rfl
        rw [this]
        exact EqAt.int_int _ _ _ _
      | tup es =>
        rw [HD] at l; obtain ⟨b, jts, rfl, l1, l2⟩ := l
        rw [decide_eq_false (by intro y; cases y)]
        exact EqAt.int_tuple _ _ l1 (by omega)
      | _ => rw [HD] at l; exact l.elim
    | tup ds => rw [dep] at hn; omega
    | _ => rw [HD] at k; exact k.elim
  | succ n ih =>
    intro A s d e u v hn hu k l
    cases d with
    | int i => exact ih (d := .int i) (Nat.zero_le _) (by omega) k l
    | tup ds =>
      rw [dep] at hn
      have k0 := k
      rw [HD] at k
      obtain ⟨a, its, rfl, k1, k2⟩ := k
      cases e with
      | int j =>
        rw [HD] at l; obtain ⟨t', rfl⟩ := l
        rw [decide_eq_false (by intro y; cases y)]
        exact EqAt.tuple_int _ _ k1 (by omega)
      | tup es =>
        have l0 := l
        rw [HD] at l; obtain ⟨b, jts, rfl, l1, l2⟩ := l
        by_cases ab : a = b
        · subst ab
          have := HD.inj k0 l0
          rw [this, decide_eq_true rfl]
          exact EqAt.same _
        · refine EqAt.of_refs ab ?_
          have rc := RcAt.tuples (A := A) (e := fun j => decide (ds.getD j .non = es.getD j .non)) k1 l1 (by omega) fun j h1 h2 => by
            have z1 := k2.length
            have z2 := l2.length
            have h1' : j < ds.length := by rw [z1]; simpa using h1
            have h2' : j < es.length := by rw [z2]; simpa using h2
            have e1 : ds[j]? = some ds[j] := List.getElem?_eq_getElem h1'
            have e2 : es[j]? = some es[j] := List.getElem?_eq_getElem h2'
            obtain ⟨u, hu', ru⟩ := k2.get e1
            obtain ⟨v, hv', rv⟩ := l2.get e2
            have g1 : its[j] = u := by
              rw [Array.getElem?_toList, Array.getElem?_eq_getElem h1] at hu'
              exact Option.some.inj hu'
            have g2 : jts[j] = v := by
              rw [Array.getElem?_toList, Array.getElem?_eq_getElem h2] at hv'
              exact Option.some.inj hv'
            rw [g1, g2, List.getD_eq_getElem?_getD, List.getD_eq_getElem?_getD, e1, e2]
            exact ih (d := ds[j]) (e := es[j]) (by have := qfp_ e1; omega) (by rw [qcd_]; omega) ru rv
          have z1 : ds.length = its.size := by rw [k2.length]; simp
          have z2 : es.length = jts.size := by rw [l2.length]; simp
          have : ((List.range (min its.size jts.size)).all (fun j => decide (ds.getD j .non = es.getD j .non)) && its.size == jts.size) = decide (D.tup ds = D.tup es) := by
            rw [← z1, ← z2]
            by_cases q : ds = es
            · subst q
              simp
            · rw [decide_eq_false (by intro y; cases y; exact q rfl)]
              rw [Bool.and_eq_false_iff]
              by_cases y : ds.length = es.length
              · refine .inl ?_
                rw [List.all_eq_false]
                apply Classical.byContradiction
                intro hc
                apply q
                apply List.ext_getElem y
                intro i i1 i2
                apply Classical.byContradiction
                intro hne
                apply hc
                refine ⟨i, List.mem_range.mpr (by omega), ?_⟩
                rw [List.getD_eq_getElem?_getD, List.getD_eq_getElem?_getD, List.getElem?_eq_getElem i1, List.getElem?_eq_getElem i2]
                simpa using hne
              · exact .inr (by simpa using y)
          rw [this] at rc
          exact rc
      | _ => rw [HD] at l; exact l.elim
    | _ => rw [HD] at k; exact k.elim
theorem qjt_ (n : Nat) : ∀ {A : Around} {E : Value → Shared → Prop} {s : Shared} {d : D} {u : Value} {Q : Bool → Shared → Prop}, dep d ≤ n → HD s.heap d u → Q true s → wpAny (model prog w) A (eqIsQuiet n u) Q E s := by
  induction n with
  | zero =>
    intro A E s d u Q hn k h
    cases d with
    | int i => rw [HD] at k; obtain ⟨t, rfl⟩ := k; rw [eqIsQuiet_byValue _ rfl]; exact wpAny_pure h
    | tup ds => rw [dep] at hn; omega
    | _ => rw [HD] at k; exact k.elim
  | succ n ih =>
    intro A E s d u Q hn k h
    cases d with
    | int i => rw [HD] at k; obtain ⟨t, rfl⟩ := k; rw [eqIsQuiet_byValue _ rfl]; exact wpAny_pure h
    | tup ds =>
      rw [dep] at hn
      rw [HD] at k
      obtain ⟨a, items, rfl, k1, hi⟩ := k
      have hT := qjh_ k1
      obtain ⟨o, ho, _, m, hd⟩ := k1
      unfold eqIsQuiet
      refine wpAny_bind (wpAny_specialOf hT F.slot_tuple_eq.lookup ?_)
      show wpAny _ _ (isInstance (.ref a) (.type "tuple") >>= _) _ _ s
      refine wpAny_bind (wpAny_isInstance hT isSubtype_tuple_tuple ?_)
      simp only [Bool.not_true, Bool.false_eq_true, if_false]
      refine wpAny_bind (wpAny_seqItems ho hd ?_)
      refine wpAny_bind ?_
      show wpAny _ _ (forIn items _ _) _ _ s
      rw [← Array.forIn_toList]
      refine wpAny_forIn_list _ (fun rest r s' => r.1 = none ∧ s' = s ∧ ∃ done left, ds = done ++ left ∧ HDs s.heap left rest) _ ?_ ?_ _ _ ⟨rfl, rfl, [], ds, rfl, hi⟩
      · rintro v rest r s' ⟨hr, rfl, done, left, e, hl⟩
        cases left with
        | nil => rw [HDs] at hl; cases hl
        | cons d left =>
          rw [HDs] at hl
          obtain ⟨x', r', e', hx, hl'⟩ := hl
          cases e'
          have hdn : dep d ≤ n := by
            have : ds[done.length]? = some d := by rw [e, List.getElem?_append_right (Nat.le_refl _), Nat.sub_self]; rfl
            have := qfp_ this
            omega
          refine wpAny_bind (ih hdn hx ?_)
          simp only [Bool.not_true, Bool.false_eq_true, if_false]
          exact wpAny_pure ⟨rfl, rfl, done ++ [d], left, by rw [e]; simp, hl'⟩
      · rintro ⟨r1, r2⟩ s' ⟨hr, rfl, _⟩
        simp only at hr
        subst hr
        exact wpAny_pure h
    | _ => rw [HD] at k; exact k.elim
noncomputable def treeKind (prog : Program) (w : World) : HeapKind prog w D where
  is := fun h d a => HD h d (.ref a) ∧ dep d ≤ 8
  hash := qhh_
  draws := drD
  room := fun A => A.units + 8 < cLine
  inj := fun hx hy => HD.inj hx.1 hy.1
  keeps := fun x ho hd hs => ⟨x.1.keep (qjz_ ho hd hs), x.2⟩
  pyHash := fun hu hk h => qkh_ 8 hk.2 hu hk.1 h
  eqBool := fun hu hx hy h => qqq_ 8 hx.2 hu hx.1 hy.1 _ _ _ _ h
  quiet := fun hk h => qjt_ 8 hk.2 hk.1 h
end
section
variable {prog : Program} {w : World} {K : Type} [DecidableEq K] {knd : HeapKind prog w K}
theorem qca_ {A : Around} {E : Value → Shared → Prop} {s : Shared} {d a : Addr} {xs : List (K × Addr × Value)} {k : K} {v : Value} {Q : Value → Shared → Prop} (hu : knd.room A) (hkey : knd.is s.heap k a) (hm : s.heap.DictOfH knd d xs)
    (h1 : ∀ p, atKey xs k = some p → Q p.2 { s with toks := s.toks + knd.draws k })
    (h2 : atKey xs k = none → ∀ h', h'.DictOfH knd d (xs ++ [(k, a, v)]) → Heap.SameBut d s.heap h' → Q v { s with heap := h', toks := s.toks + knd.draws k })
    (hsz : xs.length ≤ sizeLine) :
    wpAny (model prog w) A (dictSetDefault d (.ref a) v) Q E s := by
  obtain ⟨o, es, ep, ho, hc, hd, he, his, hn⟩ := hm
  unfold dictSetDefault
  try with_reducible refine wpAny_holding ?_
  refine wpAny_bind (knd.pyHash hu hkey ?_)
  refine wpAny_bind (wpAny_dictFind_heap (s := { s with toks := s.toks + knd.draws k }) hu hkey ho hd he his hn ?_ ?_)
  · intro hno
    have hnot : k ∉ xs.map (·.1) := not_mem_keys_of_get hno
    have q := h2 (atKey_none_of_get hno)
    refine wpAny_bind (wpAny_rule (wpAny_bind (wpAny_updateDictKeys (hz := by have e := size_of_entries he; omega) (s := { s with toks := s.toks + knd.draws k }) ho hd (wpAny_pure (q _ ⟨_, _, ep + 1, Heap.get?_update_self _ ho (Obj.isFreed_of_dict (Obj.data_mapDictKeys hd _)),
      hc.mapDictKeys _, Obj.data_mapDictKeys hd _, ?_, ?_, ?_⟩ (Heap.SameBut.update ..))))))
    · simp [he, entryOfKey]
    · intro x hx
      rcases List.mem_append.mp hx with hx | hx
      · exact knd.keeps (his x hx) ho hd (Heap.SameBut.update ..)
      · simp only [List.mem_singleton] at hx
        subst hx
        exact knd.keeps hkey ho hd (Heap.SameBut.update ..)
    · rw [List.map_append, List.nodup_append]
      refine ⟨hn, by simp, ?_⟩
      intro x hx y hy
      simp only [List.map_cons, List.map_nil, List.mem_singleton] at hy
      subst hy
      exact fun e => hnot (e ▸ hx)
  · intro j p hj
    have q := h1 p (atKey_of_get hn hj)
    refine wpAny_bind (wpAny_dictEntries (s := { s with toks := s.toks + knd.draws k }) ho hd ?_)
    rw [entry_at he j, hj]
    exact wpAny_bind (wpAny_rule (wpAny_pure q))
theorem qcx_ (knd : HeapKind prog w K) (d a : Addr) (hd : (d == sysModules) = false) (dflt : Value) :
    MeetsIn prog w (Builtin.«dict.setdefault» ⟨[.ref d, .ref a, dflt], []⟩) (fun A R s => knd.room A.in1 ∧ ∃ k xs, knd.is s.heap k a ∧ s.heap.DictOfH knd d xs ∧ xs.length ≤ sizeLine ∧
      (∀ p, atKey xs k = some p → R (.ok (.ret p.2)) { s with toks := s.toks + knd.draws k }) ∧
      (atKey xs k = none → ∀ h', h'.DictOfH knd d (xs ++ [(k, a, dflt)]) → Heap.SameBut d s.heap h' → R (.ok (.ret dflt)) { s with heap := h', toks := s.toks + knd.draws k })) :=
  .of_wp fun A R s ⟨hu, k, xs, hkey, hm, hz, h1, h2⟩ => by
    unfold Builtin.«dict.setdefault»
    refine wpAny_bind ?_
    unfold Builtin.Dict.keyAndDefault
    refine wpAny_bind (wpAny_notOrdered_dict hm.typeIs ?_)
    show wpAny _ _ (pure (d, Value.ref a, some dflt)) _ _ s
    refine wpAny_pure ?_
    show wpAny _ _ (if (d == sysModules) = true then _ else (dictSetDefault d (.ref a) dflt >>= _)) _ _ s
    rw [if_neg (by rw [hd]; exact Bool.false_ne_true)]
    exact wpAny_bind (qca_ hu hkey hm (fun p hp => wpAny_pure ⟨p.2, rfl, h1 p hp⟩) (fun hn h' hm' hs' => wpAny_pure ⟨dflt, rfl, h2 hn h' hm' hs'⟩) hz)
end
section
variable {prog : Program} {w : World} {A : Around} {E : Value → Shared → Prop} {s : Shared}
def RawD (h : Heap) (d : Addr) (es : Array DictEntry) (ep : Nat) : Prop := ∃ o, h.get? d = some o ∧ o.ExactDict ∧ o.data = .dict es ep
theorem RawD.ty {d : Addr} {es : Array DictEntry} {ep : Nat} (h : RawD s.heap d es ep) : s.TypeIs (.ref d) "dict" := let ⟨o, h1, h2, _⟩ := h; ⟨o, h1, h2.1⟩
theorem qgu_ (d : Addr) (hd : (d == sysModules) = false) :
    MeetsIn prog w (Builtin.«dict.values» ⟨[.ref d], []⟩) (fun _ R s => (∃ es ep, RawD s.heap d es ep) ∧
      R (.ok (.ret (.ref s.heap.objs.size))) { s with heap := s.heap.push { cls := .type "dict_values", data := .fields #[.ref d] } }) :=
  .of_wp fun A R s ⟨⟨es, ep, hm⟩, h⟩ => by
    refine wpAny_bind ?_
    unfold Builtin.Dict.noArgs
    refine wpAny_bind (wpAny_notOrdered_dict hm.ty ?_)
    show wpAny _ _ (pure d) _ _ s
    refine wpAny_pure ?_
    show wpAny _ _ (Builtin.Dict.showsAll d >>= _) _ _ s
    unfold Builtin.Dict.showsAll
    rw [if_neg (by rw [hd]; exact Bool.false_ne_true)]
    refine wpAny_bind (wpAny_pure ?_)
    exact wpAny_bind (wpAny_newObj_type (wpAny_pure ⟨_, rfl, h⟩))
theorem qhr_ {v d : Addr} {es : Array DictEntry} {ep : Nat} {Q : Value → Shared → Prop} (hv : s.heap.IsValuesView v d) (hm : RawD s.heap d es ep)
    (hQ : Q (.ref s.heap.objs.size) { s with heap := s.heap.push { cls := .type "dict_valueiterator", data := .fields #[.ref d, .int 0 0, .int es.size 0, .int ep 0] } }) :
    wpAny (model prog w) A (pyIter (.ref v)) Q E s := by
  obtain ⟨ov, hov, hcv, hdv⟩ := id hv
  obtain ⟨o, ho, hc, hdat⟩ := id hm
  refine wpAny_pyIter_slot hv.typeIs F.slot_dict_values_iter (wpAny_call_entry F.slot_dict_values_iter hv.typeIs F.entry_dict_values_iter ?_ (F.args_dict_values_iter_1 _))
  unfold Builtin.«dict_values.__iter__»
  refine wpAny_bind (wpAny_pure ?_)
  refine wpAny_bind ?_
  unfold Builtin.Dict_items.dictOf
  refine wpAny_bind (wpAny_field hov hdv (x := .ref d) rfl (wpAny_pure ?_))
  refine wpAny_bind ?_
  unfold Builtin.Dict_items.newIterator
  refine wpAny_bind (wpAny_dictEntries ho hdat ?_)
  refine wpAny_bind (wpAny_dictEpoch ho hdat ?_)
  have hown : Builtin.Dict_items.ownsTuple "dict_valueiterator" = false := by decide
  simp only [hown, Bool.false_eq_true, if_false]
  refine wpAny_newObj_type (wpAny_pure ⟨_, rfl, "dict_valueiterator", _, ⟨_, Heap.get?_push_size _ rfl, rfl⟩, F.slot_dict_valueiterator_next.lookup, ?_⟩)
  simpa [rawInt] using hQ
theorem qhv_ {it d : Addr} {i ep : Nat} {es : Array DictEntry} {Q : Option Value → Shared → Prop} (hit : s.heap.IsValIter it d i es.size ep)
    (hm : RawD s.heap d es ep) (hlt' : i < es.size)
    (hQ : ∀ h', h'.IsValIter it d (i + 1) es.size ep → Heap.SameBut it s.heap h' → Q (some es[i].val) { s with heap := h' }) :
    wpAny (model prog w) A (pyNext (.ref it)) Q E s := by
  obtain ⟨o, ho, hc, hd⟩ := id hit
  obtain ⟨od, hod, hcd, hdd⟩ := id hm
  unfold pyNext
  refine wpAny_bind (wpAny_attempt (wpAny_callSpecial?_slot (name := Str.ofString "__next__") hit.typeIs F.slot_dict_valueiterator_next
    (wpAny_call_entry F.slot_dict_valueiterator_next hit.typeIs F.entry_dict_valueiterator_next ?_ (F.args_dict_valueiterator_next_1 _))))
  refine wpAny_bind (wpAny_pure ?_)
  refine wpAny_bind ?_
  refine wpAny_bind ?_
  first | refine wpAny_bind (wpAny_typeNameOfWhole_valiter hit.typeIs (wpAny_pure ?_)) | refine wpAny_bind (wpAny_typeNameOf_valiter hit.typeIs (wpAny_pure ?_))
  refine wpAny_bind (wpAny_fieldsOf ho hd ?_)
  have hown : Builtin.Dict_items.ownsTuple "dict_valueiterator" = false := by decide
  simp only [hown, Bool.false_eq_true, if_false]
  show wpAny _ _ (if (Value.ref d == Value.none) = true then _ else _) _ _ s
  rw [if_neg (show ¬ ((Value.ref d == Value.none) = true) from Bool.false_ne_true)]
  refine wpAny_bind (wpAny_pure ?_)
  refine wpAny_bind (wpAny_dictEntries hod hdd ?_)
  rw [if_neg (by simp)]
  refine wpAny_bind (wpAny_pure ?_)
  refine wpAny_bind (wpAny_dictEpoch hod hdd ?_)
  rw [if_neg (by simp)]
  refine wpAny_pure ?_
  simp only [show ¬ ((i : Int) < 0) from by omega, if_false, Int.toNat_natCast, Array.getElem?_eq_getElem hlt']
  refine wpAny_bind ?_
  first | refine wpAny_bind (wpAny_typeNameOfWhole_valiter hit.typeIs (wpAny_pure ?_)) | refine wpAny_bind (wpAny_typeNameOf_valiter hit.typeIs (wpAny_pure ?_))
  refine wpAny_bind (wpAny_isOneOf_valiter hit.typeIs ?_)
  show wpAny _ _ (setField (.ref it) 1 (rawInt ((i : Int) + 1)) >>= _) _ _ s
  refine wpAny_bind (wpAny_setField ho hd (by simp) ?_)
  have hit' : (s.heap.update it (Obj.mapFields (·.setIfInBounds 1 (rawInt ((i : Int) + 1))))).IsValIter it d (i + 1) es.size ep :=
    ⟨_, Heap.get?_update_self _ ho (Obj.isFreed_of_fields (Obj.data_mapFields hd _)), (Obj.cls_mapFields ..).trans hc, by rw [Obj.data_mapFields hd]; simp [rawInt]⟩
  refine wpAny_bind (wpAny_holding ?_)
  refine wpAny_bind (wpAny_isOneOf_valiter (s := { s with heap := s.heap.update it (Obj.mapFields (·.setIfInBounds 1 (rawInt ((i : Int) + 1)))) }) hit'.typeIs ?_)
  refine wpAny_bind (wpAny_isOneOf_valiter (s := { s with heap := s.heap.update it (Obj.mapFields (·.setIfInBounds 1 (rawInt ((i : Int) + 1)))) }) hit'.typeIs ?_)
  show wpAny _ _ (pure es[i].val) _ _ _
  exact wpAny_pure (wpAny_pure ⟨_, rfl, wpAny_pure (hQ _ hit' (Heap.SameBut.update ..))⟩)
theorem qj2_ {it d : Addr} {i ep : Nat} {es : Array DictEntry} {Q : Option Value → Shared → Prop} (hh : A.handled = none) (hit : s.heap.IsValIter it d i es.size ep)
    (hm : RawD s.heap d es ep) (hge : es.size ≤ i)
    (hQ : ∀ h', Heap.ExtBut it s.heap h' → Q none { s with heap := h' }) : wpAny (model prog w) A (pyNext (.ref it)) Q E s := by
  obtain ⟨o, ho, hc, hd⟩ := id hit
  obtain ⟨od, hod, hcd, hdd⟩ := id hm
  unfold pyNext
  refine wpAny_bind (wpAny_attempt (wpAny_callSpecial?_slot (name := Str.ofString "__next__") hit.typeIs F.slot_dict_valueiterator_next
    (wpAny_call_entry F.slot_dict_valueiterator_next hit.typeIs F.entry_dict_valueiterator_next ?_ (F.args_dict_valueiterator_next_1 _))))
  refine wpAny_bind (wpAny_pure ?_)
  refine wpAny_bind ?_
  refine wpAny_bind ?_
  first | refine wpAny_bind (wpAny_typeNameOfWhole_valiter hit.typeIs (wpAny_pure ?_)) | refine wpAny_bind (wpAny_typeNameOf_valiter hit.typeIs (wpAny_pure ?_))
  refine wpAny_bind (wpAny_fieldsOf ho hd ?_)
  have hown : Builtin.Dict_items.ownsTuple "dict_valueiterator" = false := by decide
  simp only [hown, Bool.false_eq_true, if_false]
  show wpAny _ _ (if (Value.ref d == Value.none) = true then _ else _) _ _ s
  rw [if_neg (show ¬ ((Value.ref d == Value.none) = true) from Bool.false_ne_true)]
  refine wpAny_bind (wpAny_pure ?_)
  refine wpAny_bind (wpAny_dictEntries hod hdd ?_)
  rw [if_neg (by simp)]
  refine wpAny_bind (wpAny_pure ?_)
  refine wpAny_bind (wpAny_dictEpoch hod hdd ?_)
  rw [if_neg (by simp)]
  refine wpAny_pure ?_
  simp only [show ¬ ((i : Int) < 0) from by omega, if_false, Int.toNat_natCast, Array.getElem?_eq_none hge]
  refine wpAny_bind ?_
  first | refine wpAny_bind (wpAny_typeNameOfWhole_valiter hit.typeIs (wpAny_pure ?_)) | refine wpAny_bind (wpAny_typeNameOf_valiter hit.typeIs (wpAny_pure ?_))
  show wpAny _ _ (setField (.ref it) 0 .none >>= _) _ _ s
  refine wpAny_bind (wpAny_setField ho hd (by simp) ?_)
  show wpAny _ _ (newExc (.type "StopIteration") [] >>= _) _ _ _
  refine wpAny_bind ?_
  simp only [newExc, newTuple]
  refine wpAny_bind (wpAny_newObj_type ?_ (by size_fits))
  refine wpAny_bind (m := firstArgMember _ _) (wpAny_of_eq (a := Value.none) (by first | rfl | (simp only [firstArgMember]; rfl)) ?_)
  refine wpAny_newObj_type ?_ (by size_fits)
  simp only [raiseNew]
  refine wpAny_bind (wpAny_handled ?_)
  rw [show A.in1.handled = none from hh]
  refine wpAny_bind (wpAny_pure (wpAny_throw ?_))
  refine wpAny_bind (wpAny_isInstance (T := "StopIteration") (b := true) ⟨_, Heap.get?_push_size _ rfl, rfl⟩ isSubtype_stop ?_)
  exact wpAny_pure (hQ _ (((Heap.SameBut.update ..).extBut.push _).push _))
def qed_ (es : Array DictEntry) : List Value := es.toList.map (·.val)
theorem qky_ {S it d : Addr} {ep : Nat} {es : Array DictEntry} {R : Result → Shared → Prop} {res : Value} (hh : A.in1.handled = none) (nSi : S ≠ it) (nSd : S ≠ d) (nid : it ≠ d) (hz : es.size ≤ 100000) :
    ∀ (k i : Nat) (s : Shared) (c : Nat), es.size - i = k → i ≤ es.size → s.heap.IsValIter it d i es.size ep → RawD s.heap d es ep → s.heap.get? S = some { cls := .type "list", dict := none, data := .seq ((qed_ es).take i).toArray c, slots := #[] } →
    (∀ h' c', (∀ b o, b ≠ S → b ≠ it → s.heap.get? b = some o → h'.get? b = some o) → h'.get? S = some { cls := .type "list", dict := none, data := .seq (qed_ es).toArray c', slots := #[] } → R (.ok (.ret res)) { s with heap := h' }) →
    codeAny (model prog w) A (.builtin "list.extend.loop" ⟨[.ref S, .ref it, res], []⟩) R s := by
  have lv : (qed_ es).length = es.size := by simp [qed_]
  intro k
  induction k with
  | zero =>
    intro i s c hk hi hit hm hS hR
    have hin : i = es.size := by omega
    refine codeAny_builtin F.entry_extend_loop ?_
    rw [Around.under_plainId F.plain_extend_loop _]
    show wpAny _ A.in1 (pyNext (.ref it) >>= _) _ _ s
    refine wpAny_bind (qj2_ hh hit hm (by omega) fun h' kk => ?_)
    refine wpAny_pure (hR h' c (fun b o _ hb e => kk b o hb e) ?_)
    have := kk S _ nSi hS
    rw [hin, ← lv, List.take_length] at this
    exact this
  | succ k ih =>
    intro i s c hk hi hit hm hS hR
    have hlt : i < es.size := by omega
    refine codeAny_builtin F.entry_extend_loop ?_
    rw [Around.under_plainId F.plain_extend_loop _]
    show wpAny _ A.in1 (pyNext (.ref it) >>= _) _ _ s
    refine wpAny_bind (qhv_ hit hm hlt fun h' hit' sb => ?_)
    have kk : ∀ b o, b ≠ it → s.heap.get? b = some o → h'.get? b = some o := fun b o hb e => (sb.2 b hb).trans e
    have hS2 := kk S _ nSi hS
    show wpAny _ A.in1 (updateSeq S (·.push es[i].val) >>= _) _ _ _
    refine wpAny_bind ?_
    have lps : ((qed_ es).take i).toArray.size = i := by simp [lv]; omega
    refine wpAny_updateSeq hS2 rfl (wpAny_pure ⟨plainId_quiet F.plain_extend_loop _, ?_⟩) (by rw [lps, sizeLine_eq]; omega) (by show (((qed_ es).take i).toArray.push _).size ≤ sizeLine + 1; rw [Array.size_push, lps, sizeLine_eq]; omega)
    have upS := Heap.get?_update_self (Obj.mapSeq (·.push es[i].val)) hS2 rfl
    have upO : ∀ b o, b ≠ S → h'.get? b = some o → (h'.update S (Obj.mapSeq (·.push es[i].val))).get? b = some o := fun b o hb e => (Heap.get?_update_other _ _ (Ne.symm hb)).trans e
    have earr : ((qed_ es).take (i + 1)).toArray = ((qed_ es).take i).toArray.push es[i].val := by
      have : (qed_ es)[i]? = some es[i].val := by unfold qed_; rw [List.getElem?_map, Array.getElem?_toList, Array.getElem?_eq_getElem hlt]; rfl
      rw [List.take_add_one, this]; simp
    refine ih (i + 1) { s with heap := h'.update S (Obj.mapSeq (·.push es[i].val)) } _ (by omega) hlt ?_ ?_ (by rw [earr]; exact upS) fun h'' c'' k2 q2 => ?_
    · obtain ⟨o, h1, h2⟩ := hit'
      exact ⟨o, upO _ _ (Ne.symm nSi) h1, h2⟩
    · obtain ⟨o, h1, h2⟩ := hm
      exact ⟨o, upO _ _ (Ne.symm nSd) (kk _ _ (Ne.symm nid) h1), h2⟩
    · exact hR h'' c'' (fun b o h1 h2 e => k2 b o h1 h2 (upO b o h1 (kk b o h2 e))) q2
theorem qmr_ : typeLookup (.type "dict_values") "__len__" = pure (some (.builtin "dict_values.__len__")) := by rw [typeLookup_type, builtinLookup_eq_fast]; kernel_rfl
theorem qm0_ : isSubtype (.type "dict_values") (.type "dict_values") = pure true := by rw [isSubtype_type]; kernel_rfl
theorem qj8_ {S v d : Addr} {ep : Nat} {es : Array DictEntry} {R : Result → Shared → Prop} (hh : A.in1.handled = none) (nSv : S ≠ v) (nSd : S ≠ d) (hz : es.size ≤ 100000) (hv : s.heap.IsValuesView v d) (hm : RawD s.heap d es ep) (hSo : s.heap.get? S = some { cls := .type "list", data := .seq #[] })
    (hR : ∀ h' c', (∀ b o, b ≠ S → s.heap.get? b = some o → h'.get? b = some o) → h'.get? S = some { cls := .type "list", dict := none, data := .seq (qed_ es).toArray c', slots := #[] } → R (.ok (.ret .none)) { s with heap := h' }) :
    wpAny (model prog w) A.in1 (Builtin.«list.__init__» ⟨[.ref S, .ref v], []⟩)
      (fun fin s' => match fin with | .done f => R (.ok f) s' | .again c' => c'.quiet = true ∧ codeAny (model prog w) A c' R s') (fun e s' => R (.error e) s') s := by
  show wpAny _ A.in1 (do let was ← Builtin.List.listItems (.ref S); Builtin.List.listUpdate (.ref S) (fun _ => #[]); letGo was.toList.reverse; Builtin.List.listExtendWith (.ref S) (.ref v) .none) _ _ s
  refine wpAny_bind ?_
  unfold Builtin.List.listItems
  refine wpAny_bind (wpAny_seqItems hSo rfl (wpAny_pure ?_))
  show wpAny _ A.in1 (updateSeq S (fun _ => #[]) >>= fun _ => letGo (#[] : Array Value).toList.reverse >>= fun _ => Builtin.List.listExtendWith (.ref S) (.ref v) .none) _ _ s
  refine wpAny_bind (wpAny_updateSeq hSo rfl (wpAny_bind (wpAny_letGo ?_)))
  have q1 := Heap.get?_update_self (Obj.mapSeq (fun _ => (#[] : Array Value))) hSo rfl
  have o1 : ∀ b o, b ≠ S → s.heap.get? b = some o → (s.heap.update S (Obj.mapSeq (fun _ => (#[] : Array Value)))).get? b = some o := fun b o hb e => (Heap.get?_update_other _ _ (Ne.symm hb)).trans e
  generalize hg1 : s.heap.update S (Obj.mapSeq (fun _ => (#[] : Array Value))) = g1 at q1 o1
  have v1 : g1.IsValuesView v d := let ⟨o, h1, h2⟩ := hv; ⟨o, o1 _ _ (Ne.symm nSv) h1, h2⟩
  have m1 : RawD g1 d es ep := let ⟨o, h1, h2⟩ := hm; ⟨o, o1 _ _ (Ne.symm nSd) h1, h2⟩
  have T1 : Shared.TypeIs { s with heap := g1 } (.ref v) "dict_values" := Heap.IsValuesView.typeIs (s := { s with heap := g1 }) v1
  unfold Builtin.List.listExtendWith
  refine wpAny_bind (wpAny_typeOf T1 ?_)
  have b1 : Builtin.List.listSameRef (.ref S) (.ref v) = false := by simp [Builtin.List.listSameRef, nSv]
  have b2 : (Value.type "dict_values" == Value.type "list") = false := by decide
  have b3 : (Value.type "dict_values" == Value.type "tuple") = false := by decide
  simp only [b1, b2, b3, Bool.or_false, Bool.false_eq_true, if_false]
  refine wpAny_bind (qhr_ (s := { s with heap := g1 }) v1 m1 (wpAny_bind (wpAny_holding ?_)))
  have it0 : (g1.push { cls := .type "dict_valueiterator", data := .fields #[.ref d, .int 0 0, .int es.size 0, .int ep 0] }).get? g1.objs.size = some { cls := .type "dict_valueiterator", data := .fields #[.ref d, .int 0 0, .int es.size 0, .int ep 0] } := Heap.get?_push_size _ rfl
  have o2 : ∀ b o, g1.get? b = some o → (g1.push { cls := .type "dict_valueiterator", data := .fields #[.ref d, .int 0 0, .int es.size 0, .int ep 0] }).get? b = some o := fun b o e => Heap.get?_push_of_some _ e
  have nit : ∀ b o, g1.get? b = some o → b ≠ g1.objs.size := fun b o e => Nat.ne_of_lt (Heap.lt_size e)
  show wpAny _ A.in1 _ _ _ { s with heap := g1.push { cls := .type "dict_valueiterator", data := .fields #[.ref d, .int 0 0, .int es.size 0, .int ep 0] } }
  generalize g1.push { cls := .type "dict_valueiterator", data := .fields #[.ref d, .int 0 0, .int es.size 0, .int ep 0] } = g2 at it0 o2
  have v2 : g2.IsValuesView v d := let ⟨o, h1, h2⟩ := v1; ⟨o, o2 _ _ h1, h2⟩
  have T2 : Shared.TypeIs { s with heap := g2 } (.ref v) "dict_values" := Heap.IsValuesView.typeIs (s := { s with heap := g2 }) v2
  unfold Builtin.List.listLengthHint
  refine wpAny_bind (wpAny_specialOf T2 qmr_ ?_)
  show wpAny _ A.in1 (isInstance (.ref v) (.type "dict_values") >>= _) _ _ _
  refine wpAny_bind (wpAny_isInstance T2 qm0_ ?_)
  simp only [Bool.not_true, Bool.false_eq_true, if_false]
  show wpAny _ A.in1 (typeOf (.ref v) >>= _) _ _ _
  refine wpAny_bind (wpAny_typeOf T2 (wpAny_pure ?_))
  show wpAny _ A.in1 (rule "list.extend.makes-room" >>= fun _ => Builtin.List.listTouch (.ref S) >>= fun _ => again (.builtin "list.extend.loop" ⟨[.ref S, .ref g1.objs.size, .none], []⟩)) _ _ _
  have q1' := o2 _ _ q1
  refine wpAny_bind (wpAny_rule (wpAny_bind ?_))
  show wpAny _ A.in1 (updateSeq S (·.push .none) >>= fun _ => updateSeq S (·.pop)) _ _ _
  refine wpAny_bind (wpAny_updateSeq q1' rfl ?_)
  have q2 := Heap.get?_update_self (Obj.mapSeq (·.push Value.none)) q1' rfl
  have o3 : ∀ b o, b ≠ S → g2.get? b = some o → (g2.update S (Obj.mapSeq (·.push Value.none))).get? b = some o := fun b o hb e => (Heap.get?_update_other _ _ (Ne.symm hb)).trans e
  refine wpAny_updateSeq (hz := by seq_fits) q2 rfl ?_
  have q3 := Heap.get?_update_self (Obj.mapSeq (·.pop)) q2 rfl
  have o4 : ∀ b o, b ≠ S → g2.get? b = some o → ((g2.update S (Obj.mapSeq (·.push Value.none))).update S (Obj.mapSeq (·.pop))).get? b = some o := fun b o hb e => (Heap.get?_update_other _ _ (Ne.symm hb)).trans (o3 b o hb e)
  refine wpAny_pure ⟨plainId_quiet F.plain_extend_loop _, ?_⟩
  have nSi : S ≠ g1.objs.size := nit _ _ q1
  have nid : g1.objs.size ≠ d := let ⟨o, h1, _⟩ := m1; Ne.symm (nit _ _ h1)
  refine qky_ (res := .none) hh nSi nSd nid hz es.size 0 _ _ rfl (Nat.zero_le _) ⟨_, o4 _ _ (Ne.symm nSi) it0, rfl, rfl⟩ (let ⟨o, h1, h2⟩ := m1; ⟨o, o4 _ _ (Ne.symm nSd) (o2 _ _ h1), h2⟩) q3 fun h' c' kk u1 => ?_
  exact hR h' c' (fun b o hb e => kk b o hb (nit _ _ (o1 b o hb e)) (o4 b o hb (o2 b o (o1 b o hb e)))) u1
end
def entD (x : D × Addr × Value) : DictEntry := ⟨qhh_ x.1, .ref x.2.1, x.2.2⟩
def IsDT (p : Addr) (xs : List (D × Addr × Value)) : Heap → Prop := fun h => (p == sysModules) = false ∧ xs.length ≤ sizeLine ∧ (xs.map (·.1)).Nodup ∧ ∃ o es ep, h.get? p = some o ∧ o.ExactDict ∧ o.data = .dict es ep ∧ es.toList = xs.map entD
theorem qsv_ {P : Program} {w : World} {H : Hp} {h : Heap} {p : Addr} {xs : List (D × Addr × Value)} (k : IsDT p xs h) : ObjOk P w H h p (.ext (IsDT p xs)) := by
  refine ⟨k, ?_, fun h1 h2 ⟨a1, a2, a3, o, es, ep, b1, b2⟩ e => ⟨a1, a2, a3, o, es, ep, e o b1, b2⟩⟩
  obtain ⟨_, _, _, o, _, _, h1, _⟩ := k
  exact ⟨o, h1⟩
theorem qq9_ {X : Cx} {pins : List (Addr × Obj)} {σ : L2.St} {H : Hp} {s : Shared} {p : Addr} {xs : List (D × Addr × Value)} (I : Inv X pins σ H s) (h : H p = some (.ext (IsDT p xs))) : IsDT p xs s.heap := (show ObjOk X.prog X.w H s.heap p (.ext (IsDT p xs)) from I.hok p _ h).1
theorem qt7_ {s : Shared} {p : Addr} {xs : List (D × Addr × Value)} (h : IsDT p xs s.heap) : s.TypeIs (.ref p) "dict" ∧ ∀ b, Value.ref p = .ref b → ∃ ob, s.heap.get? b = some ob ∧ ob.dict = none := by
  obtain ⟨_, _, _, o, es, ep, h1, h2, _⟩ := h
  refine ⟨⟨o, h1, h2.1⟩, fun b e => ?_⟩
  cases e
  exact ⟨o, h1, h2.2.1⟩
section
variable {X : Cx} {o e f : Expr} {es : List Expr} {td : TE} {ta : TA} {apos cpos pos : Pos}
def qrr_ : TE := fun _ H Q => ∀ p, H p = none → Q (.ref p) (upd H p (.ext (IsDT p [])))
theorem qmo_ : PE X (.Dict [] [] pos) qrr_ := fun pins s σ H Q I h =>
  wpAny_Dict_empty ⟨.ref s.heap.objs.size, _, I.laid (a := s.heap.objs.size) (o := .ext (IsDT s.heap.objs.size [])) (t' := s.toks) (fun _ _ q => Heap.get?_push_of_some _ q) (Nat.le_refl _) (qsv_ ⟨beq_eq_false_iff_ne.mpr (Ne.symm (Nat.ne_of_lt I.big)), Nat.zero_le _, List.nodup_nil, _, #[], 0, Heap.get?_push_size _ rfl, ⟨rfl, rfl, rfl⟩, rfl, rfl⟩), rfl, h _ (I.hok.fresh (Nat.le_refl _))⟩
def tSD (X : Cx) (td : TE) (ta : TA) : TE := fun σ H Q => td σ H fun x H1 => ∃ a xs0, x = .ref a ∧ H1 a = some (.ext (IsDT a xs0)) ∧ ta σ H1 fun vs H2 => ∃ (b : Addr) (v : V) (kd : D) (xs : List (D × Addr × Value)), vs = [.ref b, v] ∧ H2 a = some (.ext (IsDT a xs)) ∧ dep kd ≤ 8 ∧ xs.length < sizeLine ∧ (∀ x ∈ xs, dep x.1 ≤ 8) ∧
  (∀ (pins : List (Addr × Obj)) (s : Shared), Inv X pins σ H2 s → HD s.heap kd (.ref b) ∧ ∀ x ∈ xs, HD s.heap x.1 (.ref x.2.1)) ∧
  (∀ p, atKey xs kd = some p → ∃ v', RelV v' p.2 ∧ Q v' H2) ∧ (atKey xs kd = none → ∀ u, RelV v u → Q v (upd H2 a (.ext (IsDT a (xs ++ [(kd, b, u)])))))
theorem quc_ {pins : List (Addr × Obj)} {σ : L2.St} {H : Hp} {s : Shared} {a b : Addr} {v : V} {u : Value} {kd : D} {xs : List (D × Addr × Value)} {Q : VK} (hu : X.A.units + 10 < cLine) (I : Inv X pins σ H s) (ha : H a = some (.ext (IsDT a xs))) (dk : dep kd ≤ 8) (lx : xs.length < sizeLine) (dx : ∀ x ∈ xs, dep x.1 ≤ 8) (hk : HD s.heap kd (.ref b)) (hx : ∀ x ∈ xs, HD s.heap x.1 (.ref x.2.1)) (rv : RelV v u)
    (h1 : ∀ p, atKey xs kd = some p → ∃ v', RelV v' p.2 ∧ Q v' H) (h2 : atKey xs kd = none → Q v (upd H a (.ext (IsDT a (xs ++ [(kd, b, u)]))))) :
    wpAny (model X.prog X.w) X.A (call (.builtin "dict.setdefault") [.ref a, .ref b, u]) (EP X pins σ Q) X.xe s := by
  have dt := qq9_ I ha
  obtain ⟨hd, hz, hn, o, es, ep, e1, e2, e3, e4⟩ := dt
  have hm : s.heap.DictOfH (treeKind X.prog X.w) a xs := ⟨o, es, ep, e1, e2, e3, e4, fun x h => ⟨hx x h, dx x h⟩, hn⟩
  refine call_meetsIn F.slot_dict_setdefault hm.typeIs F.entry_dict_setdefault (F.args_dict_setdefault_3 _ _ _) (qcx_ (treeKind X.prog X.w) a b hd u) ⟨by show X.A.in1.units + 8 < cLine; rw [qcd_]; omega, kd, xs, ⟨hk, dk⟩, hm, Nat.le_of_lt lx, fun p hp => ?_, fun hnone h' hm' hs => ?_⟩
  · obtain ⟨v', r, q⟩ := h1 p hp
    exact ⟨v', H, I.tok _, r, q⟩
  · obtain ⟨o', es', ep', f1, f2, f3, f4, _, f5⟩ := hm'
    refine ⟨v, _, I.write (x := a) (e := a) (by rw [ha]; exact trivial) (.inl rfl) (fun c w hc e => (hs.2 c hc).trans e) ⟨o', f1⟩ (qsv_ ⟨hd, ?_, f5, o', es', ep', f1, f2, f3, f4⟩), rv, h2 hnone⟩
    rw [List.length_append]; exact lx
theorem qwa_ (hu : X.A.units + 10 < cLine) (ho : PE X o td) (ha : PA X [e, f] ta)
    (hbase : attributeBase o "setdefault" X.env (eval o X.env) = eval o X.env := by rfl)
    (hfew : ((backTo cpos (starEach [e, f] X.env)).all (fun x => !x.1) && (backToKw cpos (keywordEach [] X.env)).all (fun x => x.1.isSome)
      && decide ([e, f].length + ([] : List Keyword).length + (if ([] : List Keyword).isEmpty then 0 else 1) < 30)) = true := by rfl)
    (hline : (apos.endLine == cpos.line) = true := by rfl) (hs : starEach [e, f] X.env = (false, eval e X.env) :: starEach [f] X.env := by rfl) (hplain : (backTo cpos (starEach [f] X.env)).any (·.1) = false := by rfl) :
    PE X (.Call (.Attribute o "setdefault" apos) [e, f] [] cpos) (tSD X td ta) := by
  intro pins s σ H Q I h
  refine wpAny_Call_method_late hbase hfew hline rfl (thn (ho pins s σ H _ I h) fun v s1 ⟨x, H1, I1, r1, a, xs0, ex, hx0, q1⟩ => ?_)
  subst ex
  cases r1
  obtain ⟨h1, h2⟩ := qt7_ (s := s1) (qq9_ I1 hx0)
  refine ⟨"dict", "dict.setdefault", F.plainAttrs_dict, F.slot_dict_setdefault, F.type_dict_setdefault, h1, h2, ?_⟩
  have hA := ha cpos pins s1 σ H1 _ I1 q1
  rw [hs] at hA ⊢
  refine Calls.callWith_builtin (by show (false || (backTo cpos (starEach [f] X.env)).any (·.1)) = false; rw [hplain] <;> rfl) (Calls.evalArgs_plain ?_)
  refine thn hA fun us s2 ⟨vs, H2, I2, r2, b, v, kd, xs, ev, ha2, dk, lx, dx, hk, g1, g2⟩ => ?_
  subst ev
  obtain ⟨u1, u2, rfl, ru1, ru2⟩ := qhn_ r2
  cases ru1
  obtain ⟨hk1, hk2⟩ := hk _ _ I2
  exact quc_ hu I2 ha2 dk lx dx hk1 hk2 ru2 g1 fun hn => g2 hn u2 ru2
def tLV (td : TE) : TE := fun σ H Q => td σ H fun x H1 => ∃ a xs vs, x = .ref a ∧ H1 a = some (.ext (IsDT a xs)) ∧ xs.length ≤ 100000 ∧ Vals vs (xs.map fun x => x.2.2) ∧ ∀ l, H1 l = none → Q (.ref l) (upd H1 l (.lst vs))
theorem qif_ {p pos2 : Pos} (hgl : Gl X "list") (hml : X.mg "list" = none) (hc : X.calm = true) (ho : PE X o td)
    (hbase : attributeBase o "values" X.env (eval o X.env) = eval o X.env := by rfl) (hline : (apos.endLine == cpos.line) = true := by rfl)
    (hs3 : starEach [.Call (.Attribute o "values" apos) [] [] cpos] X.env = [(false, eval (.Call (.Attribute o "values" apos) [] [] cpos) X.env)] := by rfl) :
    PE X (.Call (.Name "list" p) [.Call (.Attribute o "values" apos) [] [] cpos] [] pos) (tLV td) := by
  intro pins s σ H Q I h
  refine wpAny_Call_Name_kw (qcc_ I hgl hml boot_list (PyProof.Rows.callWith_type1 ?_ hs3 rfl))
  rw [hs3]
  show wpAny _ _ (spliced ((false, eval (.Call (.Attribute o "values" apos) [] [] cpos) X.env) :: [])) _ _ s
  refine Calls.spliced_cons (wpAny_Call_method0_late hbase hline (thn (ho pins s σ H _ I h) fun v s1 ⟨x, H1, I1, r1, a, xs, vs, ex, ha, hz, rv, q⟩ => ?_))
  subst ex
  cases r1
  have dt := qq9_ I1 ha
  obtain ⟨h1, h2⟩ := qt7_ (s := s1) dt
  obtain ⟨hd, hz2, hn, o, es, ep, e1, e2, e3, e4⟩ := dt
  have rw1 : RawD s1.heap a es ep := ⟨o, e1, e2, e3⟩
  refine ⟨"dict", "dict.values", F.plainAttrs_dict, F.slot_dict_values, F.type_dict_values, h1, h2, Calls.callWith_builtin rfl (PySem.evalArgs_none ?_)⟩
  refine call_meetsIn F.slot_dict_values h1 F.entry_dict_values (F.args_dict_values_1 _) (qgu_ a hd) ⟨⟨es, ep, rw1⟩, Calls.spliced_nil ?_⟩
  have v0 : (s1.heap.push { cls := .type "dict_values", data := .fields #[.ref a] }).IsValuesView s1.heap.objs.size a := ⟨_, Heap.get?_push_size _ rfl, rfl, rfl⟩
  have k1 : ∀ b o, s1.heap.get? b = some o → (s1.heap.push { cls := .type "dict_values", data := .fields #[.ref a] }).get? b = some o := fun b o e => Heap.get?_push_of_some _ e
  have sz : (s1.heap.push { cls := .type "dict_values", data := .fields #[.ref a] }).objs.size = s1.heap.objs.size + 1 := Heap.size_push _ _
  generalize s1.heap.push { cls := .type "dict_values", data := .fields #[.ref a] } = g at v0 k1 sz
  refine callType_codes (Q₁ := fun obj t => obj = .ref g.objs.size ∧ t = { s1 with heap := g.push { cls := .type "list", data := .seq #[] } }) F.called_list (F.typeCall_list_1 _) F.entry_list_init (code_list_new _ ⟨rfl, rfl⟩) fun obj t ht => ?_
  obtain ⟨rfl, rfl⟩ := ht
  have hSo : (g.push { cls := .type "list", data := .seq #[] }).get? g.objs.size = some { cls := .type "list", data := .seq #[] } := Heap.get?_push_size _ rfl
  refine ⟨⟨_, hSo, rfl⟩, F.args_list_init_2 _ _, ?_⟩
  have lz : es.size = xs.length := by rw [← Array.length_toList, e4, List.length_map]
  have lta := Heap.lt_size e1
  refine qj8_ (s := { s1 with heap := g.push { cls := .type "list", data := .seq #[] } }) (I1.ok.hd hc) (Nat.ne_of_gt (by rw [sz]; exact Nat.lt_succ_self _)) (Nat.ne_of_gt (by rw [sz]; exact Nat.lt_succ_of_lt lta)) (by omega) (let ⟨o, y1, y2⟩ := v0; ⟨o, Heap.get?_push_of_some _ y1, y2⟩) ⟨o, Heap.get?_push_of_some _ (k1 _ _ e1), e2, e3⟩ hSo fun h' c' kk u1 => ⟨rfl, ?_⟩
  have keep : ∀ b o, s1.heap.get? b = some o → h'.get? b = some o := fun b o e => kk b o (Nat.ne_of_lt (by rw [sz]; exact Nat.lt_succ_of_lt (Heap.lt_size e))) (Heap.get?_push_of_some _ (k1 b o e))
  have ve : qed_ es = xs.map fun x => x.2.2 := by
    unfold qed_
    rw [e4, List.map_map]; rfl
  rw [ve] at u1
  refine ⟨.ref g.objs.size, _, I1.laid (a := g.objs.size) (o := .lst vs) (t' := s1.toks) keep (by rw [sz]; omega) ⟨?_, _, c', rv, u1⟩, rfl, q _ (I1.hok.fresh (by rw [sz]; omega))⟩
  have := rv.length
  rw [List.length_map] at this
  rw [this, sizeLine_eq]; omega
end
end L3
namespace L3
open PySem PySem.Spec PyProof.Rows L2
def Itd (lo : Int) (n : Nat) : It := ⟨fun i _ => i < n, fun i H x H' => H' = H ∧ x = .int (lo - i), fun i _ => n ≤ i⟩
theorem qln_ {P : Program} {w : World} {K : PySem.W.Frag} {tg : Expr} (it : Addr) (lo : Int) (n : Nat) : Turn P w K tg (Itd lo n) [it] it (fun i h => IsRangeIter h it (lo + (i : Nat) * (-1)) ((n : Int) - (i : Nat)) (-1)) where
  mem := by simp
  obj := fun i h st b hb => by
    have e : b = it := by simpa using hb
    subst e
    exact ⟨_, st, fun v z => by
      have z' : Data.fields _ = Data.cell v := z
      cases z'⟩
  keep := fun i h h' st k => k it (by simp) _ st
  item := by
    intro X hP hw hK hc i pins s σ H E I hf st hg
    subst hP hw hK
    obtain ⟨f0, f1, f2, f3, f4, f5⟩ := hf it (by simp)
    have W := Walks.range (prog := X.prog) (w := X.w) (I.ok.hd hc) it lo (-1) n
    refine W.item i s _ _ hg st fun v h' tk hv st' kk => ?_
    obtain ⟨t, rfl⟩ := hv
    have I1 : Inv X pins σ H { s with heap := h', toks := tk } := I.turned (fun b o hb e => kk b o (by simpa using hb) e) f0 f1 f3 f4 f5
    refine ⟨_, rfl, qm7_ (s := { s with heap := h', toks := tk }) (n := "range_iterator") st' rfl rfl (by decide) ⟨.int (lo - i), H, I1, ⟨t, ?_⟩, ⟨rfl, rfl⟩, st', fun b hb => (hf b hb).1⟩⟩
    have : lo + (i : Int) * -1 = lo - i := by omega
    rw [this]
  done := by
    intro X hP hw hK hc i pins s σ H E I hf st hg
    subst hP hw hK
    obtain ⟨f0, f1, f2, f3, f4, f5⟩ := hf it (by simp)
    exact wpAny_pyNext_range_end (I.ok.hd hc) st (by have : n ≤ i := hg; omega) fun h' eb => ⟨rfl, I.turned (t' := s.toks) (fun b o hb e => eb b o hb e) f0 f1 f3 f4 f5⟩
  self := fun _ _ _ _ _ st h => wpAny_pyIter_rangeiter st h
section
variable {X : Cx} {tg : Expr}
theorem qq8_ {pins : List (Addr × Obj)} {σ : L2.St} {H : Hp} {s : Shared} {R : It → Hp → Prop} {E : Value → Shared → Prop} {lo hi : Int} {t u v : Tok} {tk : Nat} (I : Inv X pins σ H s) (h1 : -(2 ^ 62) ≤ lo) (h2 : lo < 2 ^ 62) (h3 : -(2 ^ 62) ≤ hi) (h4 : hi < 2 ^ 62)
    (q : R (Itd lo (lo - hi).toNat) H) : wpAny (model X.prog X.w) X.A (pyIter (.ref s.heap.objs.size)) (PIE X pins σ tg R) E { s with heap := s.heap.push { cls := .type "range", data := .fields #[.int lo t, .int hi u, .int (-1) v] }, toks := tk } := by
  refine wpAny_pyIter_range (IsRange.new ..) ?_ ?_
  · have rs : Builtin.Range.rangeSize lo hi (-1) = if lo > hi then lo - hi else 0 := by
      unfold Builtin.Range.rangeSize
      rw [if_neg (by omega)]
      split
      · have : (lo - hi - 1) / (- -1) = lo - hi - 1 := by simp
        rw [this]; omega
      · rfl
    unfold Builtin.Range.small
    rw [rs]
    simp only [Builtin.Range.rangeFitsLong, Bool.and_eq_true, Bool.or_eq_true, decide_eq_true_eq, beq_iff_eq, show ¬ ((-1 : Int) > 0) by decide, if_false]
    split <;> omega
  have I1 : Inv X pins σ H { s with heap := s.heap.push { cls := .type "range", data := .fields #[.int lo t, .int hi u, .int (-1) v] }, toks := tk } := I.kept fun b o e => Heap.get?_push_of_some _ e
  refine ⟨(s.heap.push { cls := .type "range", data := .fields #[.int lo t, .int hi u, .int (-1) v] }).objs.size, [(s.heap.push { cls := .type "range", data := .fields #[.int lo t, .int hi u, .int (-1) v] }).objs.size], _, _, H, rfl,
    I1.kept (t' := tk) fun b o e => Heap.get?_push_of_some _ e, qln_ _ lo (lo - hi).toNat, ?_, fun b hb => ?_, q⟩
  · have e1 : lo + ((0 : Nat) : Int) * (-1) = lo := by simp
    have e2 : (((lo - hi).toNat : Nat) : Int) - ((0 : Nat) : Int) = Builtin.Range.rangeSize lo hi (-1) := by
      unfold Builtin.Range.rangeSize
      rw [if_neg (by omega)]
      split
      · have : (lo - hi - 1) / (- -1) = lo - hi - 1 := by simp
        rw [this]; omega
      · omega
    show IsRangeIter _ _ (lo + ((0 : Nat) : Int) * (-1)) ((((lo - hi).toNat : Nat) : Int) - ((0 : Nat) : Int)) (-1)
    rw [e1, e2]
    exact Heap.get?_push_size _ rfl
  · have e : b = (s.heap.push { cls := .type "range", data := .fields #[.int lo t, .int hi u, .int (-1) v] }).objs.size := by simpa using hb
    subst e
    exact I1.fpOk (Nat.le_refl _) (I1.hok.fresh (Nat.le_refl _))
def quv_ (ta : TA) : TI := fun σ H R => ta σ H fun vs H1 => ∃ i j : Int, vs = [.int i, .int j, .int (-1)] ∧ (-(2 ^ 62) ≤ i ∧ i < 2 ^ 62 ∧ -(2 ^ 62) ≤ j ∧ j < 2 ^ 62) ∧ R (Itd i (i - j).toNat) H1
theorem qo7_ {a b c : Expr} {ta : TA} {p pos : Pos} (hg : Gl X "range") (hm : X.mg "range" = none) (ha : PA X [a, b, c] ta) (hs : starEach [a, b, c] X.env = [(false, eval a X.env), (false, eval b X.env), (false, eval c X.env)] := by rfl) (hs2 : starEach [b, c] X.env = [(false, eval b X.env), (false, eval c X.env)] := by rfl) :
    PI X tg (.Call (.Name "range" p) [a, b, c] [] pos) (quv_ ta) := by
  intro pins s σ H R I h
  refine Call_ (qcc_ I hg hm boot_range (PyProof.Rows.callWith_type1 (thn (ha pos pins s σ H _ I h) fun us s1 ⟨vs, H1, I1, r1, q1⟩ => ?_) (by rw [hs, hs2]) (by rw [hs2]; rfl)))
  obtain ⟨i, j, e, ⟨q1, q2, q3, q4⟩, q⟩ := q1
  subst e
  cases r1 with
  | cons r rr =>
    cases rr with
    | cons r' rr =>
      cases rr with
      | cons r'' rr =>
        cases rr
        obtain ⟨t, rfl⟩ := r
        obtain ⟨t', rfl⟩ := r'
        obtain ⟨t'', rfl⟩ := r''
        exact call_range_3 (by decide) (qq8_ I1 q1 q2 q3 q4 q) (Or.inl (PyProof.noPylong_small (by omega)))
end
theorem qgl_ : bootBuiltins "reversed" = some (.type "reversed") := by kernel_rfl
theorem qpg_ : typeLookup (.type "list_reverseiterator") "__len__" = pure none := by rw [typeLookup_type, builtinLookup_eq_fast]; kernel_rfl
theorem qnl_ : typeLookup (.type "list_reverseiterator") "__length_hint__" = pure (some (.builtin "list_reverseiterator.__length_hint__")) := by rw [typeLookup_type, builtinLookup_eq_fast]; kernel_rfl
theorem qrb_ : isSubtype (.type "list_reverseiterator") (.type "list_reverseiterator") = pure true := by rw [isSubtype_type]; kernel_rfl
section
variable {prog : Program} {w : World} {A : Around} {E : Value → Shared → Prop} {s : Shared}
theorem qml_ {S it l : Addr} {us : List Value} {R : Result → Shared → Prop} {res : Value} (hh : A.in1.handled = none) (nSi : S ≠ it) (nSl : S ≠ l) (nil : it ≠ l) (hz : us.length ≤ 10000) :
    ∀ (k i : Nat) (s : Shared) (c : Nat), us.length - i = k → i ≤ us.length → s.heap.IsRevIter it l ((us.length : Int) - 1 - i) → s.heap.IsList l us.toArray → s.heap.get? S = some { cls := .type "list", dict := none, data := .seq (us.reverse.take i).toArray c, slots := #[] } →
    (∀ h' c', (∀ b o, b ≠ S → b ≠ it → s.heap.get? b = some o → h'.get? b = some o) → h'.get? S = some { cls := .type "list", dict := none, data := .seq us.reverse.toArray c', slots := #[] } → R (.ok (.ret res)) { s with heap := h' }) →
    codeAny (model prog w) A (.builtin "list.extend.loop" ⟨[.ref S, .ref it, res], []⟩) R s := by
  have lv : us.reverse.length = us.length := List.length_reverse
  intro k
  induction k with
  | zero =>
    intro i s c hk hi hit hm hS hR
    have hin : i = us.length := by omega
    refine codeAny_builtin F.entry_extend_loop ?_
    rw [Around.under_plainId F.plain_extend_loop _]
    show wpAny _ A.in1 (pyNext (.ref it) >>= _) _ _ s
    have e : (us.length : Int) - 1 - i = -1 := by omega
    rw [e] at hit
    refine wpAny_bind (wpAny_pyNext_rev_end hh hit fun h' kk => ?_)
    refine wpAny_pure (hR h' c (fun b o _ hb e => kk b o hb e) ?_)
    have := kk S _ nSi hS
    rw [hin, ← lv, List.take_length] at this
    exact this
  | succ k ih =>
    intro i s c hk hi hit hm hS hR
    have hlt : i < us.length := by omega
    have hj : us.length - 1 - i < us.length := by omega
    have e : (us.length : Int) - 1 - i = ((us.length - 1 - i : Nat) : Int) := by omega
    rw [e] at hit
    refine codeAny_builtin F.entry_extend_loop ?_
    rw [Around.under_plainId F.plain_extend_loop _]
    show wpAny _ A.in1 (pyNext (.ref it) >>= _) _ _ s
    have hx : us.toArray[us.length - 1 - i]? = some us[us.length - 1 - i] := by simp [hj]
    generalize hy : us[us.length - 1 - i] = y at hx
    refine wpAny_bind (wpAny_pyNext_rev_item hit hm hx fun h' hit' sb => ?_)
    have kk : ∀ b o, b ≠ it → s.heap.get? b = some o → h'.get? b = some o := fun b o hb e => (sb.2 b hb).trans e
    have hS2 := kk S _ nSi hS
    show wpAny _ A.in1 (updateSeq S (·.push y) >>= _) _ _ _
    refine wpAny_bind ?_
    have lps : (us.reverse.take i).toArray.size = i := by simp; omega
    refine wpAny_updateSeq hS2 rfl (wpAny_pure ⟨plainId_quiet F.plain_extend_loop _, ?_⟩) (by rw [lps, sizeLine_eq]; omega) (by show ((us.reverse.take i).toArray.push _).size ≤ sizeLine + 1; rw [Array.size_push, lps, sizeLine_eq]; omega)
    have upS := Heap.get?_update_self (Obj.mapSeq (·.push y)) hS2 rfl
    have upO : ∀ b o, b ≠ S → h'.get? b = some o → (h'.update S (Obj.mapSeq (·.push y))).get? b = some o := fun b o hb e => (Heap.get?_update_other _ _ (Ne.symm hb)).trans e
    have earr : (us.reverse.take (i + 1)).toArray = (us.reverse.take i).toArray.push y := by
      have : us.reverse[i]? = some y := by
        rw [List.getElem?_reverse hlt, List.getElem?_eq_getElem hj, hy]
      rw [List.take_add_one, this]; simp
    refine ih (i + 1) { s with heap := h'.update S (Obj.mapSeq (·.push y)) } _ (by omega) hlt ?_ ?_ (by rw [earr]; exact upS) fun h'' c'' k2 q2 => ?_
    · have e2 : (us.length : Int) - 1 - ((i + 1 : Nat) : Int) = ((us.length - 1 - i : Nat) : Int) - 1 := by omega
      rw [e2]
      obtain ⟨o, h1, h2⟩ := hit'
      exact ⟨o, upO _ _ (Ne.symm nSi) h1, h2⟩
    · obtain ⟨o, h1, h2⟩ := hm
      exact ⟨o, upO _ _ (Ne.symm nSl) (kk _ _ (Ne.symm nil) h1), h2⟩
    · exact hR h'' c'' (fun b o h1 h2 e => k2 b o h1 h2 (upO b o h1 (kk b o h2 e))) q2
theorem qni_ {S it l : Addr} {us : List Value} {R : Result → Shared → Prop} (hh : A.in1.handled = none) (nSi : S ≠ it) (nSl : S ≠ l) (nil : it ≠ l) (hz : us.length ≤ 10000) (hit : s.heap.IsRevIter it l ((us.length : Int) - 1)) (hm : s.heap.IsList l us.toArray) (hSo : s.heap.get? S = some { cls := .type "list", data := .seq #[] })
    (hR : ∀ h' c', (∀ b o, b ≠ S → b ≠ it → s.heap.get? b = some o → h'.get? b = some o) → h'.get? S = some { cls := .type "list", dict := none, data := .seq us.reverse.toArray c', slots := #[] } → R (.ok (.ret .none)) { s with heap := h' }) :
    wpAny (model prog w) A.in1 (Builtin.«list.__init__» ⟨[.ref S, .ref it], []⟩)
      (fun fin s' => match fin with | .done f => R (.ok f) s' | .again c' => c'.quiet = true ∧ codeAny (model prog w) A c' R s') (fun e s' => R (.error e) s') s := by
  show wpAny _ A.in1 (do let was ← Builtin.List.listItems (.ref S); Builtin.List.listUpdate (.ref S) (fun _ => #[]); letGo was.toList.reverse; Builtin.List.listExtendWith (.ref S) (.ref it) .none) _ _ s
  refine wpAny_bind ?_
  unfold Builtin.List.listItems
  refine wpAny_bind (wpAny_seqItems hSo rfl (wpAny_pure ?_))
  show wpAny _ A.in1 (updateSeq S (fun _ => #[]) >>= fun _ => letGo (#[] : Array Value).toList.reverse >>= fun _ => Builtin.List.listExtendWith (.ref S) (.ref it) .none) _ _ s
  refine wpAny_bind (wpAny_updateSeq hSo rfl (wpAny_bind (wpAny_letGo ?_)))
  have q1 := Heap.get?_update_self (Obj.mapSeq (fun _ => (#[] : Array Value))) hSo rfl
  have o1 : ∀ b o, b ≠ S → s.heap.get? b = some o → (s.heap.update S (Obj.mapSeq (fun _ => (#[] : Array Value)))).get? b = some o := fun b o hb e => (Heap.get?_update_other _ _ (Ne.symm hb)).trans e
  generalize hg1 : s.heap.update S (Obj.mapSeq (fun _ => (#[] : Array Value))) = g1 at q1 o1
  have i1 : g1.IsRevIter it l ((us.length : Int) - 1) := let ⟨o, h1, h2⟩ := hit; ⟨o, o1 _ _ (Ne.symm nSi) h1, h2⟩
  have m1 : g1.IsList l us.toArray := let ⟨o, h1, h2⟩ := hm; ⟨o, o1 _ _ (Ne.symm nSl) h1, h2⟩
  have T1 : Shared.TypeIs { s with heap := g1 } (.ref it) "list_reverseiterator" := Heap.IsRevIter.typeIs (s := { s with heap := g1 }) i1
  unfold Builtin.List.listExtendWith
  refine wpAny_bind (wpAny_typeOf T1 ?_)
  have b1 : Builtin.List.listSameRef (.ref S) (.ref it) = false := by simp [Builtin.List.listSameRef, nSi]
  have b2 : (Value.type "list_reverseiterator" == Value.type "list") = false := by decide
  have b3 : (Value.type "list_reverseiterator" == Value.type "tuple") = false := by decide
  simp only [b1, b2, b3, Bool.or_false, Bool.false_eq_true, if_false]
  refine wpAny_bind (wpAny_pyIter_revIter (s := { s with heap := g1 }) i1 (wpAny_bind (wpAny_holding ?_)))
  unfold Builtin.List.listLengthHint
  refine wpAny_bind (wpAny_specialOf T1 qpg_ ?_)
  show wpAny _ A.in1 (specialOf (Value.ref it) (Str.ofString "__length_hint__") >>= _) _ _ _
  refine wpAny_bind (wpAny_specialOf T1 qnl_ ?_)
  show wpAny _ A.in1 (isInstance (.ref it) (.type "list_reverseiterator") >>= _) _ _ _
  refine wpAny_bind (wpAny_isInstance T1 qrb_ ?_)
  simp only [Bool.not_true, Bool.false_eq_true, if_false]
  show wpAny _ A.in1 (pure false) _ _ _
  refine wpAny_pure ?_
  show wpAny _ A.in1 (again (.builtin "list.extend.loop" ⟨[.ref S, .ref it, .none], []⟩)) _ _ _
  refine wpAny_pure ⟨plainId_quiet F.plain_extend_loop _, ?_⟩
  refine qml_ (res := .none) hh nSi nSl nil hz us.length 0 _ _ rfl (Nat.zero_le _) (by simpa using i1) m1 q1 fun h' c' kk u1 => ?_
  exact hR h' c' (fun b o hb hi e => kk b o hb hi (o1 b o hb e)) u1
end
section
variable {X : Cx} {a : Expr} {ta : TA} {p p2 pos pos2 : Pos}
def qu8_ (K : PySem.W.Frag) (ta : TA) : TE := fun σ H Q => ta σ H fun vs H1 => ∃ l xs, vs = [.ref l] ∧ SqL K H1 l xs ∧ xs.length ≤ 10000 ∧ ∀ q, H1 q = none → Q (.ref q) (upd H1 q (.lst xs.reverse))
theorem qj3_ (hgl : Gl X "list") (hml : X.mg "list" = none) (hgz : Gl X "reversed") (hmz : X.mg "reversed" = none) (hc : X.calm = true) (ha : PA X [a] ta)
    (hs : starEach [a] X.env = [(false, eval a X.env)] := by rfl)
    (hs3 : starEach [.Call (.Name "reversed" p2) [a] [] pos2] X.env = [(false, eval (.Call (.Name "reversed" p2) [a] [] pos2) X.env)] := by rfl) :
    PE X (.Call (.Name "list" p) [.Call (.Name "reversed" p2) [a] [] pos2] [] pos) (qu8_ X.K ta) := by
  intro pins s σ H Q I h
  refine wpAny_Call_Name_kw (qcc_ I hgl hml boot_list (PyProof.Rows.callWith_type1 ?_ hs3 rfl))
  rw [hs3]
  show wpAny _ _ (spliced ((false, eval (.Call (.Name "reversed" p2) [a] [] pos2) X.env) :: [])) _ _ s
  refine Calls.spliced_cons (wpAny_Call_Name_kw (qcc_ I hgz hmz qgl_ (PyProof.Rows.callWith_type1 (thn (ha pos2 pins s σ H _ I h) fun us s1 ⟨vs, H1, I1, r1, q1⟩ => ?_) hs rfl)))
  obtain ⟨l, xs, rfl, hq, hz, q⟩ := q1
  obtain ⟨u, rfl, ru⟩ := r1.one
  cases ru
  obtain ⟨its, rv, pl, hz2⟩ := I1.list hq
  have ll := rv.length
  refine call_reversed_list pl.isList (Calls.spliced_nil ?_)
  have i0 : (s1.heap.push (revObj l ((its.toArray.size : Int) - 1))).IsRevIter s1.heap.objs.size l ((its.length : Int) - 1) := ⟨_, Heap.get?_push_size _ rfl, rfl, by simp [revObj]⟩
  have k1 : ∀ b o, s1.heap.get? b = some o → (s1.heap.push (revObj l ((its.toArray.size : Int) - 1))).get? b = some o := fun b o e => Heap.get?_push_of_some _ e
  have sz : (s1.heap.push (revObj l ((its.toArray.size : Int) - 1))).objs.size = s1.heap.objs.size + 1 := Heap.size_push _ _
  generalize s1.heap.push (revObj l ((its.toArray.size : Int) - 1)) = g at i0 k1 sz
  refine callType_codes (Q₁ := fun obj t => obj = .ref g.objs.size ∧ t = { s1 with heap := g.push { cls := .type "list", data := .seq #[] } }) F.called_list (F.typeCall_list_1 _) F.entry_list_init (code_list_new _ ⟨rfl, rfl⟩) fun obj t ht => ?_
  obtain ⟨rfl, rfl⟩ := ht
  have hSo : (g.push { cls := .type "list", data := .seq #[] }).get? g.objs.size = some { cls := .type "list", data := .seq #[] } := Heap.get?_push_size _ rfl
  refine ⟨⟨_, hSo, rfl⟩, F.args_list_init_2 _ _, ?_⟩
  have ltl : l < s1.heap.objs.size := by obtain ⟨o, e, _⟩ := pl.isList; exact Heap.lt_size e
  refine qni_ (us := its) (s := { s1 with heap := g.push { cls := .type "list", data := .seq #[] } }) (I1.ok.hd hc) (Nat.ne_of_gt (by rw [sz]; exact Nat.lt_succ_self _)) (Nat.ne_of_gt (by rw [sz]; exact Nat.lt_succ_of_lt ltl)) (Nat.ne_of_gt ltl) (by omega) (let ⟨o, y1, y2⟩ := i0; ⟨o, Heap.get?_push_of_some _ y1, y2⟩) (let ⟨o, y1, y2⟩ := pl.isList; ⟨o, Heap.get?_push_of_some _ (k1 _ _ y1), y2⟩) hSo fun h' c' kk u1 => ⟨rfl, ?_⟩
  have keep : ∀ b o, s1.heap.get? b = some o → h'.get? b = some o := fun b o e => kk b o (Nat.ne_of_lt (by rw [sz]; exact Nat.lt_succ_of_lt (Heap.lt_size e))) (Nat.ne_of_lt (Heap.lt_size e)) (Heap.get?_push_of_some _ (k1 b o e))
  have rr : ∀ {xs : List V} {us : List Value}, Vals xs us → Vals xs.reverse us.reverse := by
    intro xs us h
    induction h with
    | nil => exact .nil
    | cons h1 _ ih => rw [List.reverse_cons, List.reverse_cons]; exact ih.append (.cons h1 .nil)
  refine ⟨.ref g.objs.size, _, I1.laid (a := g.objs.size) (o := .lst xs.reverse) (t' := s1.toks) keep (by rw [sz]; omega) ⟨?_, _, c', rr rv, u1⟩, rfl, q _ (I1.hok.fresh (by rw [sz]; omega))⟩
  rw [List.length_reverse, sizeLine_eq]; omega
end
end L3
namespace L3
open PySem PySem.Spec PySem.Calls PyProof.Rows L2
section
variable {P : Program} {w : World} {K : PySem.W.Frag} {mg : Str → Option Value} {base : Heap} {A : Around} {outer : List Env} {s : Shared} {H : Hp} {x y qual : Str} {scope : Scope} {f cy c' : Addr} {params : Arguments} {body : Expr} {pm ct u ux : Value} {vx vy : V} {Q : VK}
end
section
variable {X : Cx} {pins : List (Addr × Obj)} {σ : L2.St} {H : Hp} {s : Shared} {l q It S : Addr} {vs : List V} {R : Result → Shared → Prop}
end
def qu7_ (c : Addr) (q : Str) : Heap → Prop := fun h => h.CodeRec (.ref c) q
def qvv_ (F : Hp) (pos : Pos) (q : Str) (ps : Array Value) : Prop := TriplesOk ps.toList ∧ (codeAmong pos ps.toList = none ∨ ∃ c, codeAmong pos ps.toList = some (.ref c) ∧ F c = some (.ext (qu7_ c q)))
section
variable {X : Cx} {pins : List (Addr × Obj)} {σ : L2.St} {H : Hp} {s : Shared} {c P cy : Addr} {params : Arguments} {body : Expr} {scope : Scope} {pos : Pos} {y : Str} {ps : Array Value} {Q : Value → Shared → Prop} {E : Value → Shared → Prop}
end
section
variable {X : Cx} {e : Expr} {te : TE} {i : Nat} {x y fld : Str} {c P cy C : Addr} {params : Arguments} {scope : Scope} {p pos lpos kp1 kp2 np p1 p2 p3 p4 : Pos}
end
end L3
namespace L4
open PySem PySem.Spec PyProof.Rows L2 L3
theorem ex5 {α β γ δ ε : Type} {A B C : α → β → γ → δ → ε → Prop} {R : Prop} (h : ∃ z f r m p, A z f r m p ∧ B z f r m p ∧ C z f r m p) (k : ∀ z f r m p, A z f r m p → B z f r m p → C z f r m p → R) : R :=
  h.elim fun z h => h.elim fun f h => h.elim fun r h => h.elim fun m h => h.elim fun p h => k z f r m p h.1 h.2.1 h.2.2
theorem ex6 {α β γ δ ε ζ : Type} {A B C G : α → β → γ → δ → ε → ζ → Prop} {R : Prop} (h : ∃ z f r m d p, A z f r m d p ∧ B z f r m d p ∧ C z f r m d p ∧ G z f r m d p) (k : ∀ z f r m d p, A z f r m d p → B z f r m d p → C z f r m d p → G z f r m d p → R) : R :=
  h.elim fun z h => h.elim fun f h => h.elim fun r h => h.elim fun m h => h.elim fun d h => h.elim fun p h => k z f r m d p h.1 h.2.1 h.2.2.1 h.2.2.2
mutual
def Rp (K : PySem.W.Frag) (F : Hp) : D → V → Prop
  | .non, v => v = .non
  | .bl b, v => v = .bl b
  | .int i, v => v = .int i
  | .str x, v => v = .str x
  | .tup ds, v => ∃ a vs, v = .ref a ∧ SqT K F a vs ∧ Rps K F ds vs
  | .lst ds, v => ∃ a vs, v = .ref a ∧ Rd F a (.lst vs) ∧ Rps K F ds vs
def Rps (K : PySem.W.Frag) (F : Hp) : List D → List V → Prop
  | [], vs => vs = []
  | d :: ds, vs => ∃ v r, vs = v :: r ∧ Rp K F d v ∧ Rps K F ds r
end
section
variable {K : PySem.W.Frag} {F F' H : Hp}
theorem qk_ {a : Addr} {u : HO} (e : Same F F') (h : Rd F a u) : Rd F' a u := by
  rcases h with h | ⟨o, h⟩
  · exact .inl (e _ _ h)
  · exact .inr ⟨o, e _ _ h⟩
theorem qx_ {a : Addr} {vs : List V} (e : Same F F') (h : SqT K F a vs) : SqT K F' a vs := h.imp (qk_ e) id
mutual
theorem Rp.same (e : Same F F') : ∀ {d : D} {v : V}, Rp K F d v → Rp K F' d v
  | .non, _, h => by rw [Rp] at *; exact h
  | .bl _, _, h => by rw [Rp] at *; exact h
  | .int _, _, h => by rw [Rp] at *; exact h
  | .str _, _, h => by rw [Rp] at *; exact h
  | .tup ds, _, h => by
    rw [Rp] at *
    obtain ⟨a, vs, h1, h2, h3⟩ := h
    exact ⟨a, vs, h1, qx_ e h2, Rps.same e h3⟩
  | .lst ds, _, h => by
    rw [Rp] at *
    obtain ⟨a, vs, h1, h2, h3⟩ := h
    exact ⟨a, vs, h1, qk_ e h2, Rps.same e h3⟩
theorem Rps.same (e : Same F F') : ∀ {d : List D} {v : List V}, Rps K F d v → Rps K F' d v
  | [], _, h => by rw [Rps] at *; exact h
  | d :: ds, _, h => by
    rw [Rps] at *
    obtain ⟨v, r, h1, h2, h3⟩ := h
    exact ⟨v, r, h1, Rp.same e h2, Rps.same e h3⟩
end
theorem Rps.nil : Rps K F [] [] := by rw [Rps]
theorem Rps.cons {d : D} {v : V} {ds : List D} {vs : List V} (h : Rp K F d v) (k : Rps K F ds vs) : Rps K F (d :: ds) (v :: vs) := by
  rw [Rps]; exact ⟨v, vs, rfl, h, k⟩
theorem Rps.length : ∀ {d : List D} {v : List V}, Rps K F d v → d.length = v.length
  | [], v, h => by rw [Rps] at h; subst h; rfl
  | d :: ds, v, h => by
    rw [Rps] at h
    obtain ⟨v, r, rfl, h2, h3⟩ := h
    rw [List.length_cons, List.length_cons, Rps.length h3]
theorem Rps.get : ∀ {d : List D} {v : List V} {i : Nat} {x : D}, Rps K F d v → d[i]? = some x → ∃ y, v[i]? = some y ∧ Rp K F x y
  | [], v, i, x, h, e => by simp at e
  | d :: ds, v, 0, x, h, e => by
    rw [Rps] at h
    obtain ⟨v, r, rfl, h2, h3⟩ := h
    simp at e; subst e
    exact ⟨v, rfl, h2⟩
  | d :: ds, v, i + 1, x, h, e => by
    rw [Rps] at h
    obtain ⟨v, r, rfl, h2, h3⟩ := h
    obtain ⟨y, h4, h5⟩ := Rps.get (i := i) (x := x) h3 (by simpa using e)
    exact ⟨y, by simpa using h4, h5⟩
theorem Rps.append : ∀ {d e : List D} {v w : List V}, Rps K F d v → Rps K F e w → Rps K F (d ++ e) (v ++ w)
  | [], e, v, w, h, k => by rw [Rps] at h; subst h; exact k
  | d :: ds, e, v, w, h, k => by
    rw [Rps] at h
    obtain ⟨v, r, rfl, h2, h3⟩ := h
    rw [List.cons_append, Rps]
    exact ⟨v, r ++ w, rfl, h2, Rps.append h3 k⟩
theorem Rps.take : ∀ (n : Nat) {d : List D} {v : List V}, Rps K F d v → Rps K F (d.take n) (v.take n)
  | 0, _, _, _ => .nil
  | n + 1, [], v, h => by rw [Rps] at h; subst h; exact .nil
  | n + 1, d :: ds, v, h => by
    rw [Rps] at h
    obtain ⟨v, r, rfl, h2, h3⟩ := h
    exact .cons h2 (Rps.take n h3)
theorem Rps.drop : ∀ (n : Nat) {d : List D} {v : List V}, Rps K F d v → Rps K F (d.drop n) (v.drop n)
  | 0, _, _, h => h
  | n + 1, [], v, h => by rw [Rps] at h; subst h; exact .nil
  | n + 1, d :: ds, v, h => by
    rw [Rps] at h
    obtain ⟨v, r, rfl, h2, h3⟩ := h
    exact Rps.drop n h3
theorem Rps.set {x : D} {y : V} (hx : Rp K F x y) : ∀ (n : Nat) {d : List D} {v : List V}, Rps K F d v → Rps K F (d.set n x) (v.set n y)
  | _, [], v, h => by rw [Rps] at h; subst h; exact .nil
  | 0, d :: ds, v, h => by
    rw [Rps] at h
    obtain ⟨v, r, rfl, h2, h3⟩ := h
    exact .cons hx h3
  | n + 1, d :: ds, v, h => by
    rw [Rps] at h
    obtain ⟨v, r, rfl, h2, h3⟩ := h
    exact .cons h2 (Rps.set hx n h3)
end
inductive U where
  | d (x : D) | adr (p : Addr) | tup (us : List U) | ins (C : Addr) (ns : List Str) (ds : List D)
mutual
def RU (K : PySem.W.Frag) (F : Hp) : U → V → Prop
  | .d x, v => Rp K F x v
  | .adr p, v => v = .ref p
  | .ins C ns ds, v => ∃ a dx vs, v = .ref a ∧ F a = some (.ins C dx (ns.zip vs)) ∧ Rps K F ds vs
  | .tup us, v => ∃ a vs, v = .ref a ∧ SqT K F a vs ∧ RUs K F us vs
def RUs (K : PySem.W.Frag) (F : Hp) : List U → List V → Prop
  | [], vs => vs = []
  | u :: us, vs => ∃ v r, vs = v :: r ∧ RU K F u v ∧ RUs K F us r
end
section
variable {K : PySem.W.Frag} {F F' H : Hp}
mutual
theorem RU.same (e : Same F F') : ∀ {u : U} {v : V}, RU K F u v → RU K F' u v
  | .d _, _, h => by rw [RU] at *; exact Rp.same e h
  | .adr _, _, h => by rw [RU] at *; exact h
  | .ins _ _ _, _, h => by
    rw [RU] at *
    obtain ⟨a, dx, vs, h1, h2, h3⟩ := h
    exact ⟨a, dx, vs, h1, e _ _ h2, Rps.same e h3⟩
  | .tup us, _, h => by
    rw [RU] at *
    obtain ⟨a, vs, h1, h2, h3⟩ := h
    exact ⟨a, vs, h1, qx_ e h2, RUs.same e h3⟩
theorem RUs.same (e : Same F F') : ∀ {u : List U} {v : List V}, RUs K F u v → RUs K F' u v
  | [], _, h => by rw [RUs] at *; exact h
  | u :: us, _, h => by
    rw [RUs] at *
    obtain ⟨v, r, h1, h2, h3⟩ := h
    exact ⟨v, r, h1, RU.same e h2, RUs.same e h3⟩
end
theorem RUs.nil : RUs K F [] [] := by rw [RUs]
theorem RUs.cons {u : U} {v : V} {us : List U} {vs : List V} (h : RU K F u v) (k : RUs K F us vs) : RUs K F (u :: us) (v :: vs) := by
  rw [RUs]; exact ⟨v, vs, rfl, h, k⟩
theorem RUs.length : ∀ {d : List U} {v : List V}, RUs K F d v → d.length = v.length
  | [], v, h => by rw [RUs] at h; subst h; rfl
  | d :: ds, v, h => by
    rw [RUs] at h
    obtain ⟨v, r, rfl, h2, h3⟩ := h
    rw [List.length_cons, List.length_cons, RUs.length h3]
theorem RUs.append : ∀ {d e : List U} {v w : List V}, RUs K F d v → RUs K F e w → RUs K F (d ++ e) (v ++ w)
  | [], e, v, w, h, k => by rw [RUs] at h; subst h; exact k
  | d :: ds, e, v, w, h, k => by
    rw [RUs] at h
    obtain ⟨v, r, rfl, h2, h3⟩ := h
    rw [List.cons_append, RUs]
    exact ⟨v, r ++ w, rfl, h2, RUs.append h3 k⟩
theorem RUs.ofD : ∀ {ds : List D} {vs : List V}, Rps K F ds vs → RUs K F (ds.map U.d) vs
  | [], vs, h => by rw [Rps] at h; subst h; exact .nil
  | d :: ds, vs, h => by
    rw [Rps] at h
    obtain ⟨v, r, rfl, h2, h3⟩ := h
    exact .cons (by rw [RU]; exact h2) (RUs.ofD h3)
end
section
variable {X : Cx} {pins : List (Addr × Obj)} {σ : L2.St} {H : Hp} {s : Shared}
mutual
theorem Rp.inj (I : Inv X pins σ H s) : ∀ {d e : D} {v : V}, Rp X.K H d v → Rp X.K H e v → d = e
  | .non, e, v, h, k => by
    rw [Rp] at h; subst h
    cases e <;> rw [Rp] at k <;> first | (obtain ⟨_, _, k, _⟩ := k; cases k; done) | rfl | (cases k; done)
  | .bl _, e, v, h, k => by
    rw [Rp] at h; subst h
    cases e <;> rw [Rp] at k <;> first | (obtain ⟨_, _, k, _⟩ := k; cases k; done) | (cases k; rfl) | (cases k; done)
  | .int _, e, v, h, k => by
    rw [Rp] at h; subst h
    cases e <;> rw [Rp] at k <;> first | (obtain ⟨_, _, k, _⟩ := k; cases k; done) | (cases k; rfl) | (cases k; done)
  | .str _, e, v, h, k => by
    rw [Rp] at h; subst h
    cases e <;> rw [Rp] at k <;> first | (obtain ⟨_, _, k, _⟩ := k; cases k; done) | (cases k; rfl) | (cases k; done)
  | .tup ds, e, v, h, k => by
    rw [Rp] at h
    obtain ⟨a, vs, rfl, h2, h3⟩ := h
    cases e <;> rw [Rp] at k
    case tup es =>
      obtain ⟨b, ws, e1, k2, k3⟩ := k
      cases e1
      have := I.tuple_inj h2 k2
      subst this
      rw [Rps.inj I h3 k3]
    case lst es =>
      obtain ⟨b, ws, e1, k2, k3⟩ := k
      cases e1
      obtain ⟨_, _, ⟨o, q1, q2, _⟩, _⟩ := I.tuple h2
      obtain ⟨_, _, ⟨o', n', p1, p2, _⟩, _⟩ := I.list (.inl k2)
      rw [q1] at p1
      cases p1
      rw [q2] at p2
      simp at p2
    all_goals cases k
  | .lst ds, e, v, h, k => by
    rw [Rp] at h
    obtain ⟨a, vs, rfl, h2, h3⟩ := h
    cases e <;> rw [Rp] at k
    case lst es =>
      obtain ⟨b, ws, e1, k2, k3⟩ := k
      cases e1
      have := I.list_inj (.inl h2) (.inl k2)
      subst this
      rw [Rps.inj I h3 k3]
    case tup es =>
      obtain ⟨b, ws, e1, k2, k3⟩ := k
      cases e1
      obtain ⟨_, _, ⟨o, q1, q2, _⟩, _⟩ := I.tuple k2
      obtain ⟨_, _, ⟨o', n', p1, p2, _⟩, _⟩ := I.list (.inl h2)
      rw [q1] at p1
      cases p1
      rw [q2] at p2
      simp at p2
    all_goals cases k
theorem Rps.inj (I : Inv X pins σ H s) : ∀ {d e : List D} {v : List V}, Rps X.K H d v → Rps X.K H e v → d = e
  | [], e, v, h, k => by
    rw [Rps] at h; subst h
    cases e with
    | nil => rfl
    | cons => rw [Rps] at k; obtain ⟨_, _, k, _⟩ := k; cases k
  | d :: ds, e, v, h, k => by
    rw [Rps] at h
    obtain ⟨v, r, rfl, h2, h3⟩ := h
    cases e with
    | nil => rw [Rps] at k; cases k
    | cons e es =>
      rw [Rps] at k
      obtain ⟨v', r', k1, k2, k3⟩ := k
      cases k1
      rw [Rp.inj I h2 k2, Rps.inj I h3 k3]
end
theorem qdn_ {a : Addr} {vs : List V} (I : Inv X pins σ H s) (h : Rd H a (.lst vs)) : ∃ its : List Value, Vals vs its ∧ s.heap.IsList a its.toArray := by
  obtain ⟨its, r, p, _⟩ := I.list (.inl h)
  exact ⟨its, r, p.isList⟩
theorem qcj_ {a : Addr} {vs : List V} (I : Inv X pins σ H s) (h : SqT X.K H a vs) : ∃ its : List Value, Vals vs its ∧ s.heap.IsTuple a its.toArray := by
  obtain ⟨its, r, p, _⟩ := I.tuple h
  exact ⟨its, r, p⟩
open SeqAt
theorem qhj_ {A : Around} {ds es : List D} {vs ws : List V} {us ts : List Value} (hd : Rps X.K H ds vs) (he : Rps X.K H es ws) (r : Vals vs us) (q : Vals ws ts)
    (ih : ∀ (i : Nat) (d e : D), ds[i]? = some d → es[i]? = some e → ∀ x y u v, Rp X.K H d x → Rp X.K H e y → RelV x u → RelV y v → EqAt A s u v (peq d e)) :
    ∀ j (h1 : j < us.toArray.size) (h2 : j < ts.toArray.size), EqAt A s us.toArray[j] ts.toArray[j] (peq (ds.getD j .non) (es.getD j .non)) := by
  intro j h1 h2
  have l1 : ds.length = us.length := hd.length.trans r.length
  have l2 : es.length = ts.length := he.length.trans q.length
  have h1' : j < ds.length := by rw [l1]; simpa using h1
  have h2' : j < es.length := by rw [l2]; simpa using h2
  have e1 : ds[j]? = some ds[j] := List.getElem?_eq_getElem h1'
  have e2 : es[j]? = some es[j] := List.getElem?_eq_getElem h2'
  obtain ⟨x, hx, rx⟩ := hd.get e1
  obtain ⟨y, hy, ry⟩ := he.get e2
  obtain ⟨u, hu, ru⟩ := r.get hx
  obtain ⟨v, hv, rv⟩ := q.get hy
  have g1 : us.toArray[j] = u := by
    have : us[j]? = some us[j] := List.getElem?_eq_getElem (by simpa using h1)
    rw [this] at hu
    simpa using hu
  have g2 : ts.toArray[j] = v := by
    have : ts[j]? = some ts[j] := List.getElem?_eq_getElem (by simpa using h2)
    rw [this] at hv
    simpa using hv
  rw [g1, g2, List.getD_eq_getElem?_getD, List.getD_eq_getElem?_getD, e1, e2]
  exact ih j _ _ e1 e2 x y u v rx ry ru rv
theorem qp1_ {n : Nat} (I : Inv X pins σ H s) : ∀ (A : Around) (d e : D) (x y : V) (u v : Value), dep d ≤ n → A.units + n < cLine → Rp X.K H d x → Rp X.K H e y → RelV x u → RelV y v →
    EqAt A s u v (peq d e) ∧ RcAt A s u v (peq d e) ∧ RcNeAt A s u v (!peq d e) := by
  induction n with
  | zero =>
    intro A d e x y u v hn hu hd he ru rv
    cases d with
    | tup ds => rw [dep] at hn; omega
    | lst ds => rw [dep] at hn; omega
    | non =>
      rw [Rp] at hd; subst hd; cases ru
      cases e with
      | non => rw [Rp] at he; subst he; cases rv; simp only [peq]; exact ⟨EqAt.same _, RcAt.none_none, RcNeAt.none_none⟩
      | bl b => rw [Rp] at he; subst he; cases rv; simp only [peq]; exact ⟨EqAt.none_bool _, RcAt.none_bool _, RcNeAt.none_bool _⟩
      | int b => rw [Rp] at he; subst he; obtain ⟨t, rfl⟩ := rv; simp only [peq]; exact ⟨EqAt.none_int _ _, RcAt.none_int _ _, RcNeAt.none_int _ _⟩
      | str b => rw [Rp] at he; subst he; obtain ⟨t, rfl⟩ := rv; simp only [peq]; exact ⟨EqAt.none_str _ _, RcAt.none_str _ _, RcNeAt.none_str _ _⟩
      | tup es =>
        rw [Rp] at he; obtain ⟨a, vs, rfl, h2, _⟩ := he; cases rv
        obtain ⟨its, _, ht⟩ := qcj_ I h2
        simp only [peq]; exact ⟨EqAt.none_tuple ht (Nat.lt_of_le_of_lt (Nat.le_add_right _ _) hu), RcAt.none_tuple ht (Nat.lt_of_le_of_lt (Nat.le_add_right _ _) hu), RcNeAt.none_tuple ht (Nat.lt_of_le_of_lt (Nat.le_add_right _ _) hu)⟩
      | lst es =>
        rw [Rp] at he; obtain ⟨a, vs, rfl, h2, _⟩ := he; cases rv
        obtain ⟨its, _, ht⟩ := qdn_ I h2
        simp only [peq]; exact ⟨EqAt.none_list ht (Nat.lt_of_le_of_lt (Nat.le_add_right _ _) hu), RcAt.none_list ht (Nat.lt_of_le_of_lt (Nat.le_add_right _ _) hu), RcNeAt.none_list ht (Nat.lt_of_le_of_lt (Nat.le_add_right _ _) hu)⟩
    | bl c =>
      rw [Rp] at hd; subst hd; cases ru
      cases e with
      | non => rw [Rp] at he; subst he; cases rv; simp only [peq]; exact ⟨EqAt.bool_none _, RcAt.bool_none _, RcNeAt.bool_none _⟩
      | bl b => rw [Rp] at he; subst he; cases rv; simp only [peq]; exact ⟨EqAt.bool_bool _ _, RcAt.bool_bool _ _, RcNeAt.bool_bool _ _⟩
      | int b => rw [Rp] at he; subst he; obtain ⟨t, rfl⟩ := rv; simp only [peq]; exact ⟨EqAt.bool_int _ _ _, RcAt.bool_int _ _ _, RcNeAt.bool_int _ _ _⟩
      | str b => rw [Rp] at he; subst he; obtain ⟨t, rfl⟩ := rv; simp only [peq]; exact ⟨EqAt.bool_str _ _ _, RcAt.bool_str _ _ _, RcNeAt.bool_str _ _ _⟩
      | tup es =>
        rw [Rp] at he; obtain ⟨a, vs, rfl, h2, _⟩ := he; cases rv
        obtain ⟨its, _, ht⟩ := qcj_ I h2
        simp only [peq]; exact ⟨EqAt.bool_tuple _ ht (Nat.lt_of_le_of_lt (Nat.le_add_right _ _) hu), RcAt.bool_tuple _ ht (Nat.lt_of_le_of_lt (Nat.le_add_right _ _) hu), RcNeAt.bool_tuple _ ht (Nat.lt_of_le_of_lt (Nat.le_add_right _ _) hu)⟩
      | lst es =>
        rw [Rp] at he; obtain ⟨a, vs, rfl, h2, _⟩ := he; cases rv
        obtain ⟨its, _, ht⟩ := qdn_ I h2
        simp only [peq]; exact ⟨EqAt.bool_list _ ht (Nat.lt_of_le_of_lt (Nat.le_add_right _ _) hu), RcAt.bool_list _ ht (Nat.lt_of_le_of_lt (Nat.le_add_right _ _) hu), RcNeAt.bool_list _ ht (Nat.lt_of_le_of_lt (Nat.le_add_right _ _) hu)⟩
    | int c =>
      rw [Rp] at hd; subst hd; obtain ⟨t', rfl⟩ := ru
      cases e with
      | non => rw [Rp] at he; subst he; cases rv; simp only [peq]; exact ⟨EqAt.int_none _ _, RcAt.int_none _ _, RcNeAt.int_none _ _⟩
      | bl b => rw [Rp] at he; subst he; cases rv; simp only [peq]; exact ⟨EqAt.int_bool _ _ _, RcAt.int_bool _ _ _, RcNeAt.int_bool _ _ _⟩
      | int b => rw [Rp] at he; subst he; obtain ⟨t, rfl⟩ := rv; simp only [peq]; exact ⟨EqAt.int_int _ _ _ _, RcAt.int_int _ _ _ _, RcNeAt.int_int _ _ _ _⟩
      | str b => rw [Rp] at he; subst he; obtain ⟨t, rfl⟩ := rv; simp only [peq]; exact ⟨EqAt.int_str _ _ _ _, RcAt.int_str _ _ _ _, RcNeAt.int_str _ _ _ _⟩
      | tup es =>
        rw [Rp] at he; obtain ⟨a, vs, rfl, h2, _⟩ := he; cases rv
        obtain ⟨its, _, ht⟩ := qcj_ I h2
        simp only [peq]; exact ⟨EqAt.int_tuple _ _ ht (Nat.lt_of_le_of_lt (Nat.le_add_right _ _) hu), RcAt.int_tuple _ _ ht (Nat.lt_of_le_of_lt (Nat.le_add_right _ _) hu), RcNeAt.int_tuple _ _ ht (Nat.lt_of_le_of_lt (Nat.le_add_right _ _) hu)⟩
      | lst es =>
        rw [Rp] at he; obtain ⟨a, vs, rfl, h2, _⟩ := he; cases rv
        obtain ⟨its, _, ht⟩ := qdn_ I h2
        simp only [peq]; exact ⟨EqAt.int_list _ _ ht (Nat.lt_of_le_of_lt (Nat.le_add_right _ _) hu), RcAt.int_list _ _ ht (Nat.lt_of_le_of_lt (Nat.le_add_right _ _) hu), RcNeAt.int_list _ _ ht (Nat.lt_of_le_of_lt (Nat.le_add_right _ _) hu)⟩
    | str c =>
      rw [Rp] at hd; subst hd; obtain ⟨t', rfl⟩ := ru
      cases e with
      | non => rw [Rp] at he; subst he; cases rv; simp only [peq]; exact ⟨EqAt.str_none _ _, RcAt.str_none _ _, RcNeAt.str_none _ _⟩
      | bl b => rw [Rp] at he; subst he; cases rv; simp only [peq]; exact ⟨EqAt.str_bool _ _ _, RcAt.str_bool _ _ _, RcNeAt.str_bool _ _ _⟩
      | int b => rw [Rp] at he; subst he; obtain ⟨t, rfl⟩ := rv; simp only [peq]; exact ⟨EqAt.str_int _ _ _ _, RcAt.str_int _ _ _ _, RcNeAt.str_int _ _ _ _⟩
      | str b => rw [Rp] at he; subst he; obtain ⟨t, rfl⟩ := rv; simp only [peq]; exact ⟨EqAt.str_str _ _ _ _, RcAt.str_str _ _ _ _, RcNeAt.str_str _ _ _ _⟩
      | tup es =>
        rw [Rp] at he; obtain ⟨a, vs, rfl, h2, _⟩ := he; cases rv
        obtain ⟨its, _, ht⟩ := qcj_ I h2
        simp only [peq]; exact ⟨EqAt.str_tuple _ _ ht (Nat.lt_of_le_of_lt (Nat.le_add_right _ _) hu), RcAt.str_tuple _ _ ht (Nat.lt_of_le_of_lt (Nat.le_add_right _ _) hu), RcNeAt.str_tuple _ _ ht (Nat.lt_of_le_of_lt (Nat.le_add_right _ _) hu)⟩
      | lst es =>
        rw [Rp] at he; obtain ⟨a, vs, rfl, h2, _⟩ := he; cases rv
        obtain ⟨its, _, ht⟩ := qdn_ I h2
        simp only [peq]; exact ⟨EqAt.str_list _ _ ht (Nat.lt_of_le_of_lt (Nat.le_add_right _ _) hu), RcAt.str_list _ _ ht (Nat.lt_of_le_of_lt (Nat.le_add_right _ _) hu), RcNeAt.str_list _ _ ht (Nat.lt_of_le_of_lt (Nat.le_add_right _ _) hu)⟩
  | succ n ih =>
    intro A d e x y u v hn hu hd he ru rv
    by_cases hz : dep d ≤ n
    · exact ih A d e x y u v hz (by omega) hd he ru rv
    cases d with
    | non => simp only [dep] at hz; omega
    | bl _ => simp only [dep] at hz; omega
    | int _ => simp only [dep] at hz; omega
    | str _ => simp only [dep] at hz; omega
    | tup ds =>
      rw [dep] at hn
      have hd0 := hd
      rw [Rp] at hd; obtain ⟨a, vs, rfl, h2, hs⟩ := hd; cases ru
      obtain ⟨its, rI, ht⟩ := qcj_ I h2
      cases e with
      | non => rw [Rp] at he; subst he; cases rv; simp only [peq]; exact ⟨EqAt.tuple_none ht (Nat.lt_of_le_of_lt (Nat.le_add_right _ _) hu), RcAt.tuple_none ht (Nat.lt_of_le_of_lt (Nat.le_add_right _ _) hu), RcNeAt.tuple_none ht (Nat.lt_of_le_of_lt (Nat.le_add_right _ _) hu)⟩
      | bl b => rw [Rp] at he; subst he; cases rv; simp only [peq]; exact ⟨EqAt.tuple_bool _ ht (Nat.lt_of_le_of_lt (Nat.le_add_right _ _) hu), RcAt.tuple_bool _ ht (Nat.lt_of_le_of_lt (Nat.le_add_right _ _) hu), RcNeAt.tuple_bool _ ht (Nat.lt_of_le_of_lt (Nat.le_add_right _ _) hu)⟩
      | int b => rw [Rp] at he; subst he; obtain ⟨t, rfl⟩ := rv; simp only [peq]; exact ⟨EqAt.tuple_int _ _ ht (Nat.lt_of_le_of_lt (Nat.le_add_right _ _) hu), RcAt.tuple_int _ _ ht (Nat.lt_of_le_of_lt (Nat.le_add_right _ _) hu), RcNeAt.tuple_int _ _ ht (Nat.lt_of_le_of_lt (Nat.le_add_right _ _) hu)⟩
      | str b => rw [Rp] at he; subst he; obtain ⟨t, rfl⟩ := rv; simp only [peq]; exact ⟨EqAt.tuple_str _ _ ht (Nat.lt_of_le_of_lt (Nat.le_add_right _ _) hu), RcAt.tuple_str _ _ ht (Nat.lt_of_le_of_lt (Nat.le_add_right _ _) hu), RcNeAt.tuple_str _ _ ht (Nat.lt_of_le_of_lt (Nat.le_add_right _ _) hu)⟩
      | lst es =>
        rw [Rp] at he; obtain ⟨b, ws, rfl, k2, _⟩ := he; cases rv
        obtain ⟨jts, _, hl⟩ := qdn_ I k2
        simp only [peq]; exact ⟨EqAt.tuple_list ht hl (by omega), RcAt.tuple_list ht hl (by omega), RcNeAt.tuple_list ht hl (by omega)⟩
      | tup es =>
        have he0 := he
        rw [Rp] at he; obtain ⟨b, ws, rfl, k2, ks⟩ := he; cases rv
        obtain ⟨jts, rJ, hj⟩ := qcj_ I k2
        have items := qhj_ (A := A.in1) (s := s) hs ks rI rJ fun i d e e1 e2 x y u v h1 h2 h3 h4 => (ih A.in1 d e x y u v (by have := qfp_ e1; omega) (by rw [qcd_]; omega) h1 h2 h3 h4).1
        have rc := RcAt.tuples ht hj (by omega) items
        rw [qi7_ (hs.length.trans rI.length) (ks.length.trans rJ.length)] at rc
        have rn := RcNeAt.tuples ht hj (by omega) items
        rw [qi7_ (hs.length.trans rI.length) (ks.length.trans rJ.length)] at rn
        simp only [peq]
        refine ⟨?_, rc, rn⟩
        by_cases ab : a = b
        · subst ab
          have := Rp.inj I hd0 he0
          injection this with this
          subst this
          rw [qcz_]
          exact EqAt.same _
        · exact EqAt.of_refs ab rc
    | lst ds =>
      rw [dep] at hn
      have hd0 := hd
      rw [Rp] at hd; obtain ⟨a, vs, rfl, h2, hs⟩ := hd; cases ru
      obtain ⟨its, rI, ht⟩ := qdn_ I h2
      cases e with
      | non => rw [Rp] at he; subst he; cases rv; simp only [peq]; exact ⟨EqAt.list_none ht (Nat.lt_of_le_of_lt (Nat.le_add_right _ _) hu), RcAt.list_none ht (Nat.lt_of_le_of_lt (Nat.le_add_right _ _) hu), RcNeAt.list_none ht (Nat.lt_of_le_of_lt (Nat.le_add_right _ _) hu)⟩
      | bl b => rw [Rp] at he; subst he; cases rv; simp only [peq]; exact ⟨EqAt.list_bool _ ht (Nat.lt_of_le_of_lt (Nat.le_add_right _ _) hu), RcAt.list_bool _ ht (Nat.lt_of_le_of_lt (Nat.le_add_right _ _) hu), RcNeAt.list_bool _ ht (Nat.lt_of_le_of_lt (Nat.le_add_right _ _) hu)⟩
      | int b => rw [Rp] at he; subst he; obtain ⟨t, rfl⟩ := rv; simp only [peq]; exact ⟨EqAt.list_int _ _ ht (Nat.lt_of_le_of_lt (Nat.le_add_right _ _) hu), RcAt.list_int _ _ ht (Nat.lt_of_le_of_lt (Nat.le_add_right _ _) hu), RcNeAt.list_int _ _ ht (Nat.lt_of_le_of_lt (Nat.le_add_right _ _) hu)⟩
      | str b => rw [Rp] at he; subst he; obtain ⟨t, rfl⟩ := rv; simp only [peq]; exact ⟨EqAt.list_str _ _ ht (Nat.lt_of_le_of_lt (Nat.le_add_right _ _) hu), RcAt.list_str _ _ ht (Nat.lt_of_le_of_lt (Nat.le_add_right _ _) hu), RcNeAt.list_str _ _ ht (Nat.lt_of_le_of_lt (Nat.le_add_right _ _) hu)⟩
      | tup es =>
        rw [Rp] at he; obtain ⟨b, ws, rfl, k2, _⟩ := he; cases rv
        obtain ⟨jts, _, hl⟩ := qcj_ I k2
        simp only [peq]; exact ⟨EqAt.list_tuple ht hl (by omega), RcAt.list_tuple ht hl (by omega), RcNeAt.list_tuple ht hl (by omega)⟩
      | lst es =>
        have he0 := he
        rw [Rp] at he; obtain ⟨b, ws, rfl, k2, ks⟩ := he; cases rv
        obtain ⟨jts, rJ, hj⟩ := qdn_ I k2
        have l1 := hs.length.trans rI.length
        have l2 := ks.length.trans rJ.length
        have items := qhj_ (A := A.in1) (s := s) hs ks rI rJ fun i d e e1 e2 x y u v h1 h2 h3 h4 => (ih A.in1 d e x y u v (by have := qfp_ e1; omega) (by rw [qcd_]; omega) h1 h2 h3 h4).1
        have key : RcAt A s (.ref a) (.ref b) (peqs ds es) ∧ RcNeAt A s (.ref a) (.ref b) (!peqs ds es) := by
          by_cases hl : ds.length = es.length
          · have hz : its.toArray.size = jts.toArray.size := by simp only [List.size_toArray]; omega
            have e1 : its.toArray.size = ds.length := by simp [l1]
            have q1 := RcAt.lists ht hj hz (by omega) items
            have q2 := RcNeAt.lists ht hj hz (by omega) items
            rw [e1] at q1 q2
            rw [qfz_ ds es hl]
            exact ⟨q1, q2⟩
          · have hz : (its.toArray.size != jts.toArray.size) = true := by
              rw [bne_iff_ne]
              simp only [List.size_toArray]
              omega
            rw [qgj_ ds es hl]
            exact ⟨RcAt.lists_lengths ht hj hz (by omega), RcNeAt.lists_lengths ht hj hz (by omega)⟩
        simp only [peq]
        refine ⟨?_, key.1, key.2⟩
        by_cases ab : a = b
        · subst ab
          have := Rp.inj I hd0 he0
          injection this with this
          subst this
          rw [qcz_]
          exact EqAt.same _
        · exact EqAt.of_refs ab key.1
end
end L4
namespace L4
open PySem PySem.Spec PyProof.Rows L2 L3
inductive Ent where
  | un | sh (d : D) | ow (ds : List D) | rf (p : Addr) | ut (u : U)
inductive MO where
  | lst (ds : List D) | dct (kvs : List (Key × D)) | xc (C : Addr) | op (φ : HO → Prop) | own (us : List U) | tk (kvs : List (D × D)) | tab (pos : Pos) (q : Str)
abbrev Rho := List Ent
abbrev Mm := Addr → Option MO
def mset (M : Mm) (p : Addr) (o : MO) : Mm := fun q => if q = p then some o else M q
theorem qf_ {M : Mm} {p : Addr} {o : MO} : mset M p o p = some o := by unfold mset; rw [if_pos rfl]
theorem qq_ {M : Mm} {p q : Addr} {o : MO} (h : q ≠ p) : mset M p o q = M q := by unfold mset; rw [if_neg h]
def KVp (K : PySem.W.Frag) (F : Hp) (kvs : List (Key × D)) (ws : List (Key × V)) : Prop := Paired (fun (p : Key × D) (q : Key × V) => p.1 = q.1 ∧ Rp K F p.2 q.2) kvs ws
mutual
def kOk : D → Bool
  | .int _ => true
  | .tup ds => kOks ds
  | .non => false
  | .bl _ => false
  | .str _ => false
  | .lst _ => false
def kOks : List D → Bool
  | [] => true
  | d :: ds => kOk d && kOks ds
end
def TKp (K : PySem.W.Frag) (F : Hp) (kvs : List (D × D)) (xs : List (D × Addr × Value)) : Prop := Paired (fun (q : D × D) (x : D × Addr × Value) => q.1 = x.1 ∧ (kOk q.1 = true ∧ dep q.1 ≤ 8) ∧ Rp K F q.1 (.ref x.2.1) ∧ ∃ v, RelV v x.2.2 ∧ Rp K F q.2 v) kvs xs
theorem TKp.same {K : PySem.W.Frag} {F F' : Hp} (e : Same F F') {kvs : List (D × D)} {xs : List (D × Addr × Value)} (h : TKp K F kvs xs) : TKp K F' kvs xs :=
  Paired.mapP h fun _ _ z => ⟨z.1, z.2.1, Rp.same e z.2.2.1, z.2.2.2.elim fun v q => ⟨v, q.1, Rp.same e q.2⟩⟩
def MOk (K : PySem.W.Frag) (F H : Hp) (p : Addr) : MO → Prop
  | .lst ds => ∃ vs, H p = some (.lst vs) ∧ Rps K F ds vs
  | .dct kvs => ∃ ws, H p = some (.dK ws) ∧ KVp K F kvs ws
  | .xc C => H p = some (.ext (IsX p C))
  | .op φ => ∃ o, H p = some o ∧ φ o
  | .own us => ∃ vs, H p = some (.lst vs) ∧ RUs K F us vs
  | .tk kvs => ∃ xs, H p = some (.ext (IsDT p xs)) ∧ TKp K F kvs xs
  | .tab pos q => ∃ ps, H p = some (.tbl ps) ∧ qvv_ F pos q ps
structure AgM (K : PySem.W.Frag) (Z F : Hp) (M : Mm) (H : Hp) : Prop where
  sm : Same F H
  zz : ∀ p o, Z p = some o → H p = some o ∧ F p = none ∧ M p = none
  mo : ∀ p o, M p = some o → F p = none ∧ MOk K F H p o
def EOk (K : PySem.W.Frag) (Z F : Hp) (M : Mm) (H : Hp) : Ent → Option V → Prop
  | .un, _ => True
  | .sh d, o => ∃ v, o = some v ∧ Rp K F d v
  | .rf p, o => o = some (.ref p)
  | .ut u, o => ∃ v, o = some v ∧ RU K F u v
  | .ow ds, o => ∃ p vs, o = some (.ref p) ∧ H p = some (.lst vs) ∧ F p = none ∧ M p = none ∧ Z p = none ∧ Rps K F ds vs
structure Ag (K : PySem.W.Frag) (Z F : Hp) (M : Mm) (H : Hp) (ρ : Rho) (σ : L2.St) : Prop where
  m : AgM K Z F M H
  len : ρ.length = σ.length
  en : ∀ (i : Nat) (e : Ent), ρ[i]? = some e → EOk K Z F M H e (σ[i]?).join
  di : ∀ (i j : Nat) (ds es : List D) (p : Addr), i ≠ j → ρ[i]? = some (.ow ds) → ρ[j]? = some (.ow es) → σ[i]? = some (some (.ref p)) → σ[j]? ≠ some (some (.ref p))
theorem KVp.same {K : PySem.W.Frag} {F F' : Hp} (e : Same F F') {kvs : List (Key × D)} {ws : List (Key × V)} (h : KVp K F kvs ws) : KVp K F' kvs ws := Paired.mapP h fun _ _ z => ⟨z.1, Rp.same e z.2⟩
theorem MOk.same {K : PySem.W.Frag} {F F' H H' : Hp} {p : Addr} {o : MO} (e : Same F F') (h : H' p = H p) (k : MOk K F H p o) : MOk K F' H' p o := by
  cases o with
  | lst ds => obtain ⟨vs, a, b⟩ := k; exact ⟨vs, h.trans a, Rps.same e b⟩
  | dct kvs => obtain ⟨vs, a, b⟩ := k; exact ⟨vs, h.trans a, KVp.same e b⟩
  | xc C => exact h.trans k
  | op φ => obtain ⟨o, a, b⟩ := k; exact ⟨o, h.trans a, b⟩
  | own us => obtain ⟨vs, a, b⟩ := k; exact ⟨vs, h.trans a, RUs.same e b⟩
  | tk kvs => obtain ⟨vs, a, b⟩ := k; exact ⟨vs, h.trans a, TKp.same e b⟩
  | tab pos q =>
    obtain ⟨ps, a, b1, b2⟩ := k
    refine ⟨ps, h.trans a, b1, ?_⟩
    rcases b2 with b2 | ⟨c, b3, b4⟩
    · exact .inl b2
    · exact .inr ⟨c, b3, e _ _ b4⟩
theorem MOk.there {K : PySem.W.Frag} {F H : Hp} {p : Addr} {o : MO} (k : MOk K F H p o) : ∃ u, H p = some u := by
  cases o with
  | lst ds => obtain ⟨vs, a, b⟩ := k; exact ⟨_, a⟩
  | dct kvs => obtain ⟨vs, a, b⟩ := k; exact ⟨_, a⟩
  | xc C => exact ⟨_, k⟩
  | op φ => obtain ⟨o, a, b⟩ := k; exact ⟨o, a⟩
  | own us => obtain ⟨vs, a, b⟩ := k; exact ⟨_, a⟩
  | tk kvs => obtain ⟨vs, a, b⟩ := k; exact ⟨_, a⟩
  | tab pos q => obtain ⟨ps, a, b⟩ := k; exact ⟨_, a⟩
section
variable {K : PySem.W.Frag} {Z F F' H H' : Hp} {M : Mm} {ρ : Rho} {σ : L2.St}
theorem AgM.grow (a : AgM K Z F M H) (hF : Same F F') (hH : Same H H') (sm : Same F' H') (new : ∀ p, F p = none → H p ≠ none → F' p = none) : AgM K Z F' M H' := by
  refine ⟨sm, fun p o h => ?_, fun p o h => ?_⟩
  · obtain ⟨z1, z2, z3⟩ := a.zz p o h
    exact ⟨hH _ _ z1, new p z2 (by rw [z1]; simp), z3⟩
  obtain ⟨n, k⟩ := a.mo p o h
  obtain ⟨u, hu⟩ := k.there
  refine ⟨new p n (by rw [hu]; simp), k.same hF ?_⟩
  rw [hu]; exact hH _ _ hu
theorem Ag.grow (a : Ag K Z F M H ρ σ) (hF : Same F F') (hH : Same H H') (sm : Same F' H') (new : ∀ p, F p = none → H p ≠ none → F' p = none) : Ag K Z F' M H' ρ σ := by
  refine ⟨a.m.grow hF hH sm new, a.len, fun i e h => ?_, a.di⟩
  have := a.en i e h
  cases e with
  | un => trivial
  | sh d => obtain ⟨v, h1, h2⟩ := this; exact ⟨v, h1, Rp.same hF h2⟩
  | rf p => exact this
  | ut u => obtain ⟨v, h1, h2⟩ := this; exact ⟨v, h1, RU.same hF h2⟩
  | ow ds => obtain ⟨p, vs, h1, h2, h3, h4, h6, h5⟩ := this; exact ⟨p, vs, h1, hH _ _ h2, new p h3 (by rw [h2]; simp), h4, h6, Rps.same hF h5⟩
theorem qnd_ {p : Addr} {o : HO} (sm : Same F H) (hp : H p = none) : Same (upd F p o) (upd H p o) := fun b u e => by
  by_cases hb : b = p
  · subst hb; rw [qi_] at *; exact e
  · rw [qh_ hb] at *; exact sm b u e
theorem q5_ {p : Addr} (sm : Same F H) (hp : H p = none) : F p = none := by
  cases e : F p with
  | none => rfl
  | some u => rw [sm _ _ e] at hp; cases hp
theorem Ag.new {p : Addr} {o : HO} (a : Ag K Z F M H ρ σ) (hp : H p = none) : Ag K Z (upd F p o) M (upd H p o) ρ σ :=
  a.grow (Same.new (q5_ a.m.sm hp)) (Same.new hp) (qnd_ a.m.sm hp) fun q h1 h2 => by
    have : q ≠ p := fun z => h2 (z ▸ hp)
    rw [qh_ this]; exact h1
theorem Ag.newO {p : Addr} {o : HO} (a : Ag K Z F M H ρ σ) (hp : H p = none) : Ag K Z F M (upd H p o) ρ σ :=
  a.grow (Same.refl _) (Same.new hp) (a.m.sm.trans (Same.new hp)) fun q h1 _ => h1
theorem Ag.put {i : Nat} {e : Ent} {o : Option V} (a : Ag K Z F M H ρ σ) (h : EOk K Z F M H e o) (hd : ∀ (ds : List D) (p : Addr), e = .ow ds → o = some (.ref p) → ∀ (j : Nat) (es : List D), j ≠ i → ρ[j]? = some (.ow es) → σ[j]? ≠ some (some (.ref p))) : Ag K Z F M H (ρ.set i e) (σ.set i o) := by
  refine ⟨a.m, by rw [List.length_set, List.length_set, a.len], fun j e' q => ?_, fun j k ds es p ne q1 q2 q3 => ?_⟩
  · by_cases hj : j = i
    · subst hj
      have hl : j < ρ.length := by
        have := (List.getElem?_eq_some_iff.mp q).1
        rwa [List.length_set] at this
      rw [List.getElem?_set_self hl] at q
      cases q
      rw [List.getElem?_set_self (by rw [← a.len]; exact hl)]
      exact h
    · rw [List.getElem?_set_ne (Ne.symm hj)] at q ⊢
      exact a.en j e' q
  · have hl : ∀ {j : Nat} {x : Ent}, (ρ.set i e)[j]? = some x → j < ρ.length := fun q => by
      have := (List.getElem?_eq_some_iff.mp q).1
      rwa [List.length_set] at this
    by_cases hj : j = i
    · subst hj
      have hk : k ≠ j := Ne.symm ne
      rw [List.getElem?_set_self (hl q1)] at q1
      cases q1
      have hl3 : j < σ.length := by
        have := (List.getElem?_eq_some_iff.mp q3).1
        rwa [List.length_set] at this
      rw [List.getElem?_set_self hl3] at q3
      rw [List.getElem?_set_ne (Ne.symm hk)] at q2 ⊢
      injection q3 with q3
      exact hd ds p rfl q3 k es hk q2
    · by_cases hk : k = i
      · subst hk
        rw [List.getElem?_set_self (hl q2)] at q2
        cases q2
        rw [List.getElem?_set_ne (Ne.symm hj)] at q1 q3
        intro q4
        rw [List.getElem?_set_self (by
          have := (List.getElem?_eq_some_iff.mp q4).1
          rw [List.length_set] at this
          exact this)] at q4
        injection q4 with q4
        exact hd es p rfl q4 j ds hj q1 q3
      · rw [List.getElem?_set_ne (Ne.symm hj)] at q1 q3
        rw [List.getElem?_set_ne (Ne.symm hk)] at q2 ⊢
        exact a.di j k ds es p ne q1 q2 q3
theorem Ag.set {i : Nat} {d : D} {v : V} (a : Ag K Z F M H ρ σ) (h : Rp K F d v) : Ag K Z F M H (ρ.set i (.sh d)) (σ.set i (some v)) := a.put ⟨v, rfl, h⟩ fun _ _ z => nomatch z
theorem Ag.setU {i : Nat} {u : U} {v : V} (a : Ag K Z F M H ρ σ) (h : RU K F u v) : Ag K Z F M H (ρ.set i (.ut u)) (σ.set i (some v)) := a.put ⟨v, rfl, h⟩ fun _ _ z => nomatch z
theorem Ag.setO {i : Nat} {ds : List D} {p : Addr} {vs : List V} (a : Ag K Z F M H ρ σ) (h1 : H p = some (.lst vs)) (h2 : F p = none) (h3 : M p = none) (hz : Z p = none) (h4 : Rps K F ds vs) (h5 : ∀ (j : Nat) (es : List D), ρ[j]? = some (.ow es) → σ[j]? ≠ some (some (.ref p))) : Ag K Z F M H (ρ.set i (.ow ds)) (σ.set i (some (.ref p))) :=
  a.put ⟨p, vs, rfl, h1, h2, h3, hz, h4⟩ fun _ q _ z j es _ hj => by cases z; exact h5 j es hj
theorem qgy_ {α : Type} : ∀ {l : List α} {i : Nat} {x : α}, l[i]? = some x → l.set i x = l
  | [], _, _, h => by simp at h
  | _ :: _, 0, _, h => by simp at h; subst h; rfl
  | _ :: l, i + 1, _, h => by rw [List.set_cons_succ, qgy_ (by simpa using h)]
theorem Ag.fz {i : Nat} {ds : List D} (a : Ag K Z F M H ρ σ) (h : ρ[i]? = some (.ow ds)) : ∃ F' v, σ[i]? = some (some v) ∧ Same F F' ∧ Rp K F' (.lst ds) v ∧ Ag K Z F' M H (ρ.set i (.sh (.lst ds))) σ := by
  have hi := a.en i _ h
  obtain ⟨p, vs, h1, h2, h3, h4, h6, h5⟩ := hi
  have hs : σ[i]? = some (some (.ref p)) := by
    cases q : σ[i]? with
    | none => rw [q] at h1; cases h1
    | some o => rw [q] at h1; simp at h1; rw [h1]
  have s1 : Same F (upd F p (.lst vs)) := Same.new h3
  have r : Rp K (upd F p (.lst vs)) (.lst ds) (.ref p) := by rw [Rp]; exact ⟨p, vs, rfl, .inl qi_, Rps.same s1 h5⟩
  refine ⟨upd F p (.lst vs), .ref p, hs, s1, r, ?_⟩
  have s2 : Same (upd F p (.lst vs)) H := fun b u e => by
    by_cases hb : b = p
    · subst hb; rw [qi_] at e; cases e; exact h2
    · rw [qh_ hb] at e; exact a.m.sm b u e
  have nm : ∀ q o, M q = some o → q ≠ p := fun q o e z => by rw [z, h4] at e; cases e
  have e2 : σ = σ.set i (some (.ref p)) := (qgy_ hs).symm
  have hi' : i < ρ.length := (List.getElem?_eq_some_iff.mp h).1
  refine ⟨⟨s2, fun q o e => ?_, fun q o e => ?_⟩, by rw [List.length_set]; exact a.len, fun j e q => ?_, fun j k es fs q ne q1 q2 q3 => ?_⟩
  · obtain ⟨z1, z2, z3⟩ := a.m.zz q o e
    have : q ≠ p := fun z => by rw [z, h6] at e; cases e
    exact ⟨z1, by rw [qh_ this]; exact z2, z3⟩
  · obtain ⟨z1, z2⟩ := a.m.mo q o e
    exact ⟨by rw [qh_ (nm q o e)]; exact z1, z2.same s1 rfl⟩
  · by_cases hj : j = i
    · subst hj
      rw [List.getElem?_set_self hi'] at q
      cases q
      exact ⟨.ref p, by rw [hs]; rfl, r⟩
    · rw [List.getElem?_set_ne (Ne.symm hj)] at q
      have := a.en j e q
      cases e with
      | un => trivial
      | sh d => obtain ⟨v, g1, g2⟩ := this; exact ⟨v, g1, Rp.same s1 g2⟩
      | rf p => exact this
      | ut u => obtain ⟨v, g1, g2⟩ := this; exact ⟨v, g1, RU.same s1 g2⟩
      | ow es =>
        obtain ⟨q', ws, g1, g2, g3, g4, g6, g5⟩ := this
        have hne : q' ≠ p := fun z => by
          subst z
          have hj' : σ[j]? = some (some (.ref q')) := by
            cases y : σ[j]? with
            | none => rw [y] at g1; cases g1
            | some o => rw [y] at g1; simp at g1; rw [g1]
          exact a.di i j ds es q' (Ne.symm hj) h q hs hj'
        exact ⟨q', ws, g1, g2, by rw [qh_ hne]; exact g3, g4, g6, Rps.same s1 g5⟩
  · have n1 : j ≠ i := fun z => by subst z; rw [List.getElem?_set_self hi'] at q1; cases q1
    have n2 : k ≠ i := fun z => by subst z; rw [List.getElem?_set_self hi'] at q2; cases q2
    rw [List.getElem?_set_ne (Ne.symm n1)] at q1
    rw [List.getElem?_set_ne (Ne.symm n2)] at q2
    exact a.di j k es fs q ne q1 q2 q3
end
end L4
namespace L4
open PySem PySem.Spec PyProof.Rows L2 L3
abbrev WE := Rho → Mm → (D → Rho → Mm → Prop) → Prop
abbrev WT := Rho → Mm → (Bool → Rho → Mm → Prop) → Prop
abbrev WA := Rho → Mm → (List D → Rho → Mm → Prop) → Prop
abbrev WN := Rho → Mm → (List D → Rho → Mm → Prop) → Prop
abbrev WG := D → Rho → Mm → (Rho → Mm → Prop) → Prop
abbrev WGs := List D → Rho → Mm → (Rho → Mm → Prop) → Prop
structure WEnds where
  nx : Rho → Mm → Prop
  rt : U → Mm → Prop
  bk : Rho → Mm → Prop := fun _ _ => False
  ct : Rho → Mm → Prop := fun _ _ => False
abbrev WS := WEnds → Rho → Mm → Prop
def lf (K : PySem.W.Frag) (f : WE) : TE := fun σ H Q => ∃ Z F ρ M P, Ag K Z F M H ρ σ ∧ f ρ M P ∧ ∀ v H' F' d ρ' M', Same F F' → Ag K Z F' M' H' ρ' σ → Rp K F' d v → P d ρ' M' → Q v H'
def lfT (K : PySem.W.Frag) (f : WT) : TT := fun σ H Q => ∃ Z F ρ M P, Ag K Z F M H ρ σ ∧ f ρ M P ∧ ∀ b H' F' ρ' M', Same F F' → Ag K Z F' M' H' ρ' σ → P b ρ' M' → Q b H'
def lfA (K : PySem.W.Frag) (f : WA) : TA := fun σ H Q => ∃ Z F ρ M P, Ag K Z F M H ρ σ ∧ f ρ M P ∧ ∀ vs H' F' ds ρ' M', Same F F' → Ag K Z F' M' H' ρ' σ → Rps K F' ds vs → P ds ρ' M' → Q vs H'
def lfN (K : PySem.W.Frag) (f : WN) : TE := fun σ H Q => ∃ Z F ρ M P, Ag K Z F M H ρ σ ∧ f ρ M P ∧ ∀ p vs H' F' ds ρ' M', Same F F' → Ag K Z F' M' H' ρ' σ → H' p = some (.lst vs) → F' p = none → M' p = none → Z p = none → (∀ (j : Nat) (es : List D), ρ'[j]? = some (.ow es) → σ[j]? ≠ some (some (.ref p))) → Rps K F' ds vs → P ds ρ' M' → Q (.ref p) H'
def lfG (K : PySem.W.Frag) (f : WG) : TG := fun v σ H Q => ∃ Z F ρ M d P, Ag K Z F M H ρ σ ∧ Rp K F d v ∧ f d ρ M P ∧ ∀ σ' H' F' ρ' M', Same F F' → Ag K Z F' M' H' ρ' σ' → P ρ' M' → Q σ' H'
def lfGs (K : PySem.W.Frag) (f : WGs) : TGs := fun vs σ H Q => ∃ Z F ρ M ds P, Ag K Z F M H ρ σ ∧ Rps K F ds vs ∧ f ds ρ M P ∧ ∀ σ' H' F' ρ' M', Same F F' → Ag K Z F' M' H' ρ' σ' → P ρ' M' → Q σ' H'
structure EndsOk (K : PySem.W.Frag) (Z F : Hp) (E : WEnds) (D' : Ends) : Prop where
  nx : ∀ σ' H' F' ρ' M', Same F F' → Ag K Z F' M' H' ρ' σ' → E.nx ρ' M' → D'.nx σ' H'
  bk : ∀ σ' H' F' ρ' M', Same F F' → Ag K Z F' M' H' ρ' σ' → E.bk ρ' M' → D'.bk σ' H'
  ct : ∀ σ' H' F' ρ' M', Same F F' → Ag K Z F' M' H' ρ' σ' → E.ct ρ' M' → D'.ct σ' H'
  rt : ∀ v H' F' u M', Same F F' → AgM K Z F' M' H' → RU K F' u v → E.rt u M' → D'.rt v H'
def lfS (K : PySem.W.Frag) (f : WS) : TS := fun D' σ H => ∃ Z F ρ M E, Ag K Z F M H ρ σ ∧ f E ρ M ∧ EndsOk K Z F E D'
structure JE (X : Cx) (e : Expr) (f : WE) : Prop where
  h : PE X e (lf X.K f)
structure JT (X : Cx) (e : Expr) (f : WT) : Prop where
  h : PT X e (lfT X.K f)
structure JW (X : Cx) (e : Expr) (f : WT) : Prop where
  h : PW X e (lfT X.K f)
structure JA (X : Cx) (es : List Expr) (f : WA) : Prop where
  h : PA X es (lfA X.K f)
structure JN (X : Cx) (e : Expr) (f : WN) : Prop where
  h : PE X e (lfN X.K f)
structure JG (X : Cx) (e : Expr) (f : WG) : Prop where
  h : PG X e (lfG X.K f)
structure JGs (X : Cx) (es : List Expr) (f : WGs) : Prop where
  h : PGs X es (lfGs X.K f)
structure JS (X : Cx) (st : Stmt) (f : WS) : Prop where
  h : PS X st (lfS X.K f)
structure JSs (X : Cx) (st : List Stmt) (f : WS) : Prop where
  h : PSs X st (lfS X.K f)
theorem imE {X : Cx} {e : Expr} {t t' : TE} (h : PE X e t) (k : ∀ σ H Q, t' σ H Q → t σ H Q) : PE X e t' := fun pins s σ H Q I q => h pins s σ H Q I (k σ H Q q)
theorem imT {X : Cx} {e : Expr} {t t' : TT} (h : PT X e t) (k : ∀ σ H Q, t' σ H Q → t σ H Q) : PT X e t' := fun pins s σ H Q I q => h pins s σ H Q I (k σ H Q q)
theorem imW {X : Cx} {e : Expr} {t t' : TT} (h : PW X e t) (k : ∀ σ H Q, t' σ H Q → t σ H Q) : PW X e t' := fun w pins s σ H Q I q => h w pins s σ H Q I (k σ H Q q)
theorem imA {X : Cx} {e : List Expr} {t t' : TA} (h : PA X e t) (k : ∀ σ H Q, t' σ H Q → t σ H Q) : PA X e t' := fun pos pins s σ H Q I q => h pos pins s σ H Q I (k σ H Q q)
theorem imS {X : Cx} {st : Stmt} {t t' : TS} (h : PS X st t) (k : ∀ D' σ H, t' D' σ H → t D' σ H) : PS X st t' := fun pins s σ H D' I q => h pins s σ H D' I (k D' σ H q)
theorem imSs {X : Cx} {st : List Stmt} {t t' : TS} (h : PSs X st t) (k : ∀ D' σ H, t' D' σ H → t D' σ H) : PSs X st t' := fun pins s σ H D' I q => h pins s σ H D' I (k D' σ H q)
theorem imG {X : Cx} {e : Expr} {t t' : TG} (h : PG X e t) (k : ∀ v σ H Q, t' v σ H Q → t v σ H Q) : PG X e t' := fun pins s σ H v u Q I r q => h pins s σ H v u Q I r (k v σ H Q q)
theorem imGs {X : Cx} {e : List Expr} {t t' : TGs} (h : PGs X e t) (k : ∀ v σ H Q, t' v σ H Q → t v σ H Q) : PGs X e t' := fun pins s σ H v u Q I r q => h pins s σ H v u Q I r (k v σ H Q q)
inductive Gw (F H : Hp) : Hp → Hp → Prop where
  | rf : Gw F H F H
  | nw {p : Addr} {o : HO} (hp : H p = none) : Gw F H (upd F p o) (upd H p o)
theorem Gw.same {F H F' H' : Hp} (sm : Same F H) (g : Gw F H F' H') : Same F F' := by
  cases g with
  | rf => exact Same.refl _
  | nw hp => exact Same.new (q5_ sm hp)
theorem Gw.ag {K : PySem.W.Frag} {Z F H F' H' : Hp} {M : Mm} {ρ : Rho} {σ : L2.St} (a : Ag K Z F M H ρ σ) (g : Gw F H F' H') : Ag K Z F' M H' ρ σ := by
  cases g with
  | rf => exact a
  | nw hp => exact a.new hp
section
variable {X : Cx} {a b c e : Expr} {es rest : List Expr} {pos : Pos} {fa fb fe : WE} {ft fu : WT} {fl : WA} {fn : WN}
def wV (i : Nat) : WE := fun ρ M P => match ρ[i]? with
  | some (.sh d) => P d ρ M
  | some (.ow ds) => P (.lst ds) (ρ.set i (.sh (.lst ds))) M
  | _ => False
theorem qk8_ {i : Nat} (h : PE X e (tVar i)) : JE X e (wV i) := ⟨imE h fun σ H Q hh => ex5 hh fun Z F ρ M P ag hf k => by
  unfold wV at hf
  split at hf
  · rename_i d hd
    obtain ⟨v, h1, h2⟩ := ag.en i _ hd
    refine ⟨v, ?_, k v H F d ρ M (Same.refl _) ag h2 hf⟩
    cases q : σ[i]? with
    | none => rw [q] at h1; cases h1
    | some o => rw [q] at h1; simp at h1; rw [h1]
  · rename_i ds hd
    obtain ⟨F', v, h1, h2, h3, h4⟩ := ag.fz hd
    exact ⟨v, h1, k v H F' _ _ M h2 h4 h3 hf⟩
  · exact hf.elim⟩
theorem jv (i : Nat) {x : Str} (hN : X.N[i]? = some x := by rfl) (hv : Vis X.env.scope x := by first | exact Or.inl rfl | exact Or.inr (Or.inl rfl) | exact Or.inr (Or.inr rfl)) (hd : (x == ("__debug__" : Str)) = false := by decide) (hcd : (x == ("__classdict__" : Str)) = false := by decide) : JE X (.Name x pos) (wV i) := qk8_ (L2.pv i hN hv hd hcd)
def wC (d : D) : WE := fun ρ M P => P d ρ M
theorem qew_ {d : D} {v : V} (h : PE X e (tC v)) (r : ∀ F, Rp X.K F d v) : JE X e (wC d) := ⟨imE h fun σ H Q hh => ex5 hh fun Z F ρ M P ag hf k => k v H F d ρ M (Same.refl _) ag (r F) hf⟩
theorem qe_ {i : Int} {j : Nat} : JE X (.Constant (.int i) j pos) (wC (.int i)) := qew_ qdl_ fun F => by rw [Rp]
theorem j_bl {i : Bool} {j : Nat} : JE X (.Constant (.bool i) j pos) (wC (.bl i)) := qew_ qu2_ fun F => by rw [Rp]
theorem quy_ {i : Str} {j : Nat} : JE X (.Constant (.str i) j pos) (wC (.str i)) := qew_ qbu_ fun F => by rw [Rp]
theorem qic_ {j : Nat} : JE X (.Constant .none j pos) (wC .non) := qew_ qoc_ fun F => by rw [Rp]
def OpW (X : Cx) (r : R2) (R : D → D → (D → Prop) → Prop) : Prop := ∀ (x y : D) (v u : V) (F H : Hp) (Q : VK) (P : D → Prop), Same F H → Rp X.K F x v → Rp X.K F y u → R x y P → (∀ d w F' H', Gw F H F' H' → Rp X.K F' d w → P d → Q w H') → r v u H Q
def UnW (X : Cx) (r : V → Hp → VK → Prop) (R : D → (D → Prop) → Prop) : Prop := ∀ (x : D) (v : V) (F H : Hp) (Q : VK) (P : D → Prop), Same F H → Rp X.K F x v → R x P → (∀ d w F' H', Gw F H F' H' → Rp X.K F' d w → P d → Q w H') → r v H Q
def CaW (X : Cx) (r : List V → Hp → VK → Prop) (R : List D → (D → Prop) → Prop) : Prop := ∀ (xs : List D) (vs : List V) (F H : Hp) (Q : VK) (P : D → Prop), Same F H → Rps X.K F xs vs → R xs P → (∀ d w F' H', Gw F H F' H' → Rp X.K F' d w → P d → Q w H') → r vs H Q
def wOp (R : D → D → (D → Prop) → Prop) (fa fb : WE) : WE := fun ρ M P => fa ρ M fun x ρ1 M1 => fb ρ1 M1 fun y ρ2 M2 => R x y fun d => P d ρ2 M2
def wUn (R : D → (D → Prop) → Prop) (fa : WE) : WE := fun ρ M P => fa ρ M fun x ρ1 M1 => R x fun d => P d ρ1 M1
def qeo_ (R : List D → (D → Prop) → Prop) (fl : WA) : WE := fun ρ M P => fl ρ M fun xs ρ1 M1 => R xs fun d => P d ρ1 M1
theorem qm5_ {r : R2} {R : D → D → (D → Prop) → Prop} (w : OpW X r R) {fa fb : WE} : ∀ σ H Q, lf X.K (wOp R fa fb) σ H Q → tOp r (lf X.K fa) (lf X.K fb) σ H Q := fun σ H Q hh => ex5 hh fun Z F ρ M P ag hf k =>
  ⟨Z, F, ρ, M, _, ag, hf, fun v H1 F1 d1 ρ1 M1 s1 ag1 r1 h1 => ⟨Z, F1, ρ1, M1, _, ag1, h1, fun u H2 F2 d2 ρ2 M2 s2 ag2 r2 h2 =>
    w d1 d2 v u F2 H2 Q _ ag2.m.sm (r1.same s2) r2 h2 fun d w F' H' g rp hp => k w H' F' d ρ2 M2 (s1.trans (s2.trans (g.same ag2.m.sm))) (g.ag ag2) rp hp⟩⟩
theorem quw_ {r : V → Hp → VK → Prop} {R : D → (D → Prop) → Prop} (w : UnW X r R) {fa : WE} : ∀ σ H Q, lf X.K (wUn R fa) σ H Q → tUn r (lf X.K fa) σ H Q := fun σ H Q hh => ex5 hh fun Z F ρ M P ag hf k =>
  ⟨Z, F, ρ, M, _, ag, hf, fun v H1 F1 d1 ρ1 M1 s1 ag1 r1 h1 => w d1 v F1 H1 Q _ ag1.m.sm r1 h1 fun d w F' H' g rp hp => k w H' F' d ρ1 M1 (s1.trans (g.same ag1.m.sm)) (g.ag ag1) rp hp⟩
theorem qlx_ {r : List V → Hp → VK → Prop} {R : List D → (D → Prop) → Prop} (w : CaW X r R) {fl : WA} : ∀ σ H Q, lf X.K (qeo_ R fl) σ H Q → tCB r (lfA X.K fl) σ H Q := fun σ H Q hh => ex5 hh fun Z F ρ M P ag hf k =>
  ⟨Z, F, ρ, M, _, ag, hf, fun v H1 F1 d1 ρ1 M1 s1 ag1 r1 h1 => w d1 v F1 H1 Q _ ag1.m.sm r1 h1 fun d w F' H' g rp hp => k w H' F' d ρ1 M1 (s1.trans (g.same ag1.m.sm)) (g.ag ag1) rp hp⟩
theorem j_op {op : Operator} {r : R2} {R : D → D → (D → Prop) → Prop} (o : OpR X (binaryOp op) r) (w : OpW X r R) (ha : JE X a fa) (hb : JE X b fb) : JE X (.BinOp a op b pos) (wOp R fa fb) := ⟨imE (qdk_ o ha.h hb.h) (qm5_ w)⟩
theorem j_un {op : UnaryOp} {r : V → Hp → VK → Prop} {R : D → (D → Prop) → Prop} (o : UnR X (unaryOp op) r) (w : UnW X r R) (ha : JE X a fa) : JE X (.UnaryOp op a pos) (wUn R fa) := ⟨imE (qv9_ o ha.h) (quw_ w)⟩
theorem qq3_ {op : CmpOp} {r : R2} {R : D → D → (D → Prop) → Prop} (o : OpR X (compareOp op) r) (w : OpW X r R) (ha : JE X a fa) (hb : JE X b fb) (hm : behindInMarks op b = false) : JE X (.Compare a [op] [b] pos) (wOp R fa fb) := ⟨imE (qqg_ o ha.h hb.h hm) (qm5_ w)⟩
theorem j_ix {r : R2} {R : D → D → (D → Prop) → Prop} (o : IxR X r) (w : OpW X r R) (ha : JE X a fa) (hb : JE X b fb) (hs : qe8_ b) : JE X (.Subscript a b pos) (wOp R fa fb) := ⟨imE (qnp_ o ha.h hb.h hs) (qm5_ w)⟩
def RI (C : Int → Int → Prop) (g : Int → Int → D) : D → D → (D → Prop) → Prop := fun x y P => match x, y with
  | .int i, .int j => C i j ∧ P (g i j)
  | _, _ => False
def RI0 (g : Int → Int → D) : D → D → (D → Prop) → Prop := fun x y P => match x, y with
  | .int i, .int j => P (g i j)
  | _, _ => False
def dI : V → D → Prop := fun v d => match v, d with
  | .int i, .int j => i = j
  | .bl i, .bl j => i = j
  | _, _ => False
theorem dI.rp {K : PySem.W.Frag} {F : Hp} {v : V} {d : D} (h : dI v d) : Rp K F d v := by
  unfold dI at h
  split at h
  · subst h; rw [Rp]
  · subst h; rw [Rp]
  · exact h.elim
theorem w_I {C : Int → Int → Prop} {g : Int → Int → V} {g' : Int → Int → D} (e : ∀ i j, dI (g i j) (g' i j)) : OpW X (rI C g) (RI C g') := by
  intro x y v u F H Q P sm rx ry h k
  unfold RI at h
  split at h
  · rename_i i j
    rw [Rp] at rx ry
    exact ⟨i, j, rx, ry, h.1, k _ _ F H .rf (e i j).rp h.2⟩
  · exact h.elim
theorem w_I0 {g : Int → Int → V} {g' : Int → Int → D} (e : ∀ i j, dI (g i j) (g' i j)) : OpW X (rI0 g) (RI0 g') := by
  intro x y v u F H Q P sm rx ry h k
  unfold RI0 at h
  split at h
  · rename_i i j
    rw [Rp] at rx ry
    exact ⟨i, j, rx, ry, k _ _ F H .rf (e i j).rp h⟩
  · exact h.elim
def CM (i j : Int) : Prop := CMul i j ∨ CMulS i j
theorem qq1_ : OpR X (binaryOp .Mult) (rI CM fun i j => .int (i * j)) := by
  intro pins s σ H x y u v Q I rx ry h
  obtain ⟨i, j, h1, h2, h3, h4⟩ := h
  rcases h3 with h3 | h3
  · exact qr8_ pins s σ H x y u v Q I rx ry ⟨i, j, h1, h2, h3, h4⟩
  · exact qgh_ pins s σ H x y u v Q I rx ry ⟨i, j, h1, h2, h3, h4⟩
theorem qds_ (ha : JE X a fa) (hb : JE X b fb) : JE X (.BinOp a .Add b pos) (wOp (RI0 fun i j => .int (i + j)) fa fb) := j_op qjc_ (w_I0 fun _ _ => rfl) ha hb
theorem qhq_ (ha : JE X a fa) (hb : JE X b fb) : JE X (.BinOp a .Sub b pos) (wOp (RI0 fun i j => .int (i - j)) fa fb) := j_op qsb_ (w_I0 fun _ _ => rfl) ha hb
theorem qby_ (ha : JE X a fa) (hb : JE X b fb) : JE X (.BinOp a .Mult b pos) (wOp (RI CM fun i j => .int (i * j)) fa fb) := j_op qq1_ (w_I fun _ _ => rfl) ha hb
theorem qc0_ (ha : JE X a fa) (hb : JE X b fb) : JE X (.BinOp a .FloorDiv b pos) (wOp (RI qnc_ fun i j => .int (i.fdiv j)) fa fb) := j_op qgp_ (w_I fun _ _ => rfl) ha hb
theorem qfb_ (ha : JE X a fa) (hb : JE X b fb) : JE X (.BinOp a .Mod b pos) (wOp (RI (fun _ j => j ≠ 0) fun i j => .int (i.fmod j)) fa fb) := j_op qdo_ (w_I fun _ _ => rfl) ha hb
theorem qrs_ (ha : JE X a fa) (hb : JE X b fb) : JE X (.BinOp a .Pow b pos) (wOp (RI CPow fun i j => .int (i ^ j.toNat)) fa fb) := j_op qs1_ (w_I fun _ _ => rfl) ha hb
theorem j_lt (ha : JE X a fa) (hb : JE X b fb) : JE X (.Compare a [.Lt] [b] pos) (wOp (RI0 fun i j => .bl (decide (i < j))) fa fb) := qq3_ qsl_ (w_I0 fun _ _ => rfl) ha hb (qdm_ _)
theorem j_gt (ha : JE X a fa) (hb : JE X b fb) : JE X (.Compare a [.Gt] [b] pos) (wOp (RI0 fun i j => .bl (decide (j < i))) fa fb) := qq3_ qtk_ (w_I0 fun _ _ => rfl) ha hb (qdm_ _)
end
end L4
namespace L4
open PySem PySem.Spec PyProof.Rows L2 L3
section
variable {X : Cx} {a b c e : Expr} {es rest : List Expr} {pos : Pos} {fa fb fe : WE} {ft fu : WT} {fl : WA} {fn : WN}
def RE : D → D → (D → Prop) → Prop := fun x y P => dep x ≤ 60 ∧ P (.bl (peq x y))
def RNe : D → D → (D → Prop) → Prop := fun x y P => dep x ≤ 60 ∧ P (.bl (!peq x y))
def rEq4 (K : PySem.W.Frag) : R2 := fun x y H Q => ∃ d e, Rp K H d x ∧ Rp K H e y ∧ dep d ≤ 60 ∧ Q (.bl (peq d e)) H
def rNe4 (K : PySem.W.Frag) : R2 := fun x y H Q => ∃ d e, Rp K H d x ∧ Rp K H e y ∧ dep d ≤ 60 ∧ Q (.bl (!peq d e)) H
theorem qo0_ (hu : X.A.units + 60 < cLine) : OpR X (compareOp .Eq) (rEq4 X.K) := by
  intro pins s σ H x y u v Q I rx ry h
  obtain ⟨d, e, hd, he, hn, q⟩ := h
  exact (qp1_ I X.A d e x y u v hn hu hd he rx ry).2.1 _ _ _ _ ⟨.bl (peq d e), H, I, rfl, q⟩
theorem qri_ (hu : X.A.units + 60 < cLine) : OpR X (compareOp .NotEq) (rNe4 X.K) := by
  intro pins s σ H x y u v Q I rx ry h
  obtain ⟨d, e, hd, he, hn, q⟩ := h
  exact (qp1_ I X.A d e x y u v hn hu hd he rx ry).2.2 _ _ _ _ ⟨.bl (!peq d e), H, I, rfl, q⟩
theorem w_eq : OpW X (rEq4 X.K) RE := fun x y v u F H Q P sm rx ry h k => ⟨x, y, rx.same sm, ry.same sm, h.1, k _ _ F H .rf (by rw [Rp]) h.2⟩
theorem w_ne : OpW X (rNe4 X.K) RNe := fun x y v u F H Q P sm rx ry h k => ⟨x, y, rx.same sm, ry.same sm, h.1, k _ _ F H .rf (by rw [Rp]) h.2⟩
def isN : D → Bool
  | .non => true
  | _ => false
def RNo (g : Bool → Bool) : D → D → (D → Prop) → Prop := fun x y P => match y with
  | .non => P (.bl (g (isN x)))
  | _ => False
theorem qod_ {F : Hp} {x : D} {v : V} (h : Rp X.K F x v) : decide (v = .non) = isN x := by
  cases x <;> rw [Rp] at h
  case non => subst h; rfl
  case bl => subst h; rfl
  case int => subst h; rfl
  case str => subst h; rfl
  case tup => obtain ⟨_, _, rfl, _⟩ := h; rfl
  case lst => obtain ⟨_, _, rfl, _⟩ := h; rfl
theorem qv8_ : OpW X (fun x y H Q => y = .non ∧ Q (.bl (decide (x = .non))) H) (RNo id) := fun x y v u F H Q P sm rx ry h k => by
  unfold RNo at h
  split at h
  · rw [Rp] at ry
    refine ⟨ry, k _ _ F H .rf ?_ h⟩
    rw [Rp, qod_ rx]; rfl
  · exact h.elim
theorem qs4_ : OpW X (fun x y H Q => y = .non ∧ Q (.bl (!decide (x = .non))) H) (RNo not) := fun x y v u F H Q P sm rx ry h k => by
  unfold RNo at h
  split at h
  · rw [Rp] at ry
    refine ⟨ry, k _ _ F H .rf ?_ h⟩
    rw [Rp, qod_ rx]
  · exact h.elim
theorem j_eq {k : Nat} (hr : Room k X.A) (ha : JE X a fa) (hb : JE X b fb) : JE X (.Compare a [.Eq] [b] pos) (wOp RE fa fb) := qq3_ (qo0_ (Room.u60 hr)) w_eq ha hb (qdm_ _)
def RNeg : D → (D → Prop) → Prop := fun x P => match x with
  | .int i => P (.int (-i))
  | _ => False
theorem qfe_ (ha : JE X a fa) : JE X (.UnaryOp .USub a pos) (wUn RNeg fa) := j_un qty_ (fun x v F H Q P sm rx h k => by
  unfold RNeg at h
  split at h
  · rw [Rp] at rx
    exact ⟨_, rx, k _ _ F H .rf (by rw [Rp]) h⟩
  · exact h.elim) ha
def wB (f : WE) : WT := fun ρ M P => f ρ M fun d ρ1 M1 => match d with
  | .bl k => P k ρ1 M1
  | _ => False
theorem of_B {fa : WE} : ∀ σ H Q, lfT X.K (wB fa) σ H Q → tB (lf X.K fa) σ H Q := fun σ H Q hh => ex5 hh fun Z F ρ M P ag hf k => ⟨Z, F, ρ, M, _, ag, hf, fun v H' F' d ρ' M' s' ag' r h => by
  split at h
  · rw [Rp] at r
    exact ⟨_, r, k _ H' F' ρ' M' s' ag' h⟩
  · exact h.elim⟩
theorem jt (ha : JE X a fa) (he : ∀ whole, isTrue a X.env whole = (do let v ← whole; standAt a.pos; holding [v] (truthy v)) := by intro _; rfl) : JT X a (wB fa) := ⟨imT (qos_ ha.h he) of_B⟩
theorem qe4_ {op : CmpOp} {r : R2} {R : D → D → (D → Prop) → Prop} (o : OpR X (compareOp op) r) (w : OpW X r R) (ha : JE X a fa) (hb : JE X b fb) (hm : behindInMarks op b = false) : JT X (.Compare a [op] [b] pos) (wB (wOp R fa fb)) :=
  ⟨imT (qkw_ o ha.h hb.h hm) fun σ H Q h => qm5_ w σ H _ (by
    obtain ⟨Z, F, ρ, M, P, ag, hf, k⟩ := h
    refine ⟨Z, F, ρ, M, _, ag, hf, fun v H' F' d ρ' M' s' ag' r h => ?_⟩
    split at h
    · rw [Rp] at r
      exact ⟨_, r, k _ H' F' ρ' M' s' ag' h⟩
    · exact h.elim)⟩
theorem qj9_ (ha : JE X a fa) (hb : JE X b fb) : JT X (.Compare a [.Lt] [b] pos) (wB (wOp (RI0 fun i j => .bl (decide (i < j))) fa fb)) := qe4_ qsl_ (w_I0 fun _ _ => rfl) ha hb (qdm_ _)
theorem qts_ (ha : JE X a fa) (hb : JE X b fb) : JT X (.Compare a [.Gt] [b] pos) (wB (wOp (RI0 fun i j => .bl (decide (j < i))) fa fb)) := qe4_ qtk_ (w_I0 fun _ _ => rfl) ha hb (qdm_ _)
theorem qmn_ {k : Nat} (hr : Room k X.A) (ha : JE X a fa) (hb : JE X b fb) : JT X (.Compare a [.Eq] [b] pos) (wB (wOp RE fa fb)) := qe4_ (qo0_ (Room.u60 hr)) w_eq ha hb (qdm_ _)
theorem qjy_ {k : Nat} (hr : Room k X.A) (ha : JE X a fa) (hb : JE X b fb) : JT X (.Compare a [.NotEq] [b] pos) (wB (wOp RNe fa fb)) := qe4_ (qri_ (Room.u60 hr)) w_ne ha hb (qdm_ _)
theorem qsd_ (ha : JE X a fa) (hb : JE X b fb) : JT X (.Compare a [.Is] [b] pos) (wB (wOp (RNo id) fa fb)) := qe4_ qn7_ qv8_ ha hb (qdm_ _)
theorem qqa_ (ha : JE X a fa) (hb : JE X b fb) : JT X (.Compare a [.IsNot] [b] pos) (wB (wOp (RNo not) fa fb)) := qe4_ qpo_ qs4_ ha hb (qdm_ _)
def wNot (f : WT) : WT := fun ρ M P => f ρ M fun b ρ1 M1 => P (!b) ρ1 M1
def wAnd (f g : WT) : WT := fun ρ M P => f ρ M fun b ρ1 M1 => if b = true then g ρ1 M1 P else P false ρ1 M1
def wOr (f g : WT) : WT := fun ρ M P => f ρ M fun b ρ1 M1 => if b = true then P true ρ1 M1 else g ρ1 M1 P
theorem qfm_ (ha : JT X a ft) : JT X (.UnaryOp .Not a pos) (wNot ft) := ⟨imT (qol_ ha.h) fun σ H Q hh => ex5 hh fun Z F ρ M P ag hf k => ⟨Z, F, ρ, M, _, ag, hf, fun b H' F' ρ' M' s' ag' h => k _ H' F' ρ' M' s' ag' h⟩⟩
theorem qk4_ (ha : JT X a ft) : JW X (.BoolOp .And [a] pos) ft := ⟨qpp_ ha.h⟩
theorem qji_ (ha : JT X a ft) : JW X (.BoolOp .Or [a] pos) ft := ⟨qso_ ha.h⟩
theorem qo2_ (ha : JT X a ft) (hb : JW X (.BoolOp .And (b :: rest) pos) fu) : JW X (.BoolOp .And (a :: b :: rest) pos) (wAnd ft fu) := ⟨imW (qtn_ ha.h hb.h) fun σ H Q hh => ex5 hh fun Z F ρ M P ag hf k => ⟨Z, F, ρ, M, _, ag, hf, fun b H' F' ρ' M' s' ag' h => by
  cases b with
  | true => rw [if_pos rfl] at h ⊢; exact ⟨Z, F', ρ', M', P, ag', h, fun b H2 F2 ρ2 M2 s2 => k b H2 F2 ρ2 M2 (s'.trans s2)⟩
  | false => rw [if_neg Bool.false_ne_true] at h ⊢; exact k _ H' F' ρ' M' s' ag' h⟩⟩
theorem ql6_ (ha : JT X a ft) (hb : JW X (.BoolOp .Or (b :: rest) pos) fu) : JW X (.BoolOp .Or (a :: b :: rest) pos) (wOr ft fu) := ⟨imW (qu6_ ha.h hb.h) fun σ H Q hh => ex5 hh fun Z F ρ M P ag hf k => ⟨Z, F, ρ, M, _, ag, hf, fun b H' F' ρ' M' s' ag' h => by
  cases b with
  | true => rw [if_pos rfl] at h ⊢; exact k _ H' F' ρ' M' s' ag' h
  | false => rw [if_neg Bool.false_ne_true] at h ⊢; exact ⟨Z, F', ρ', M', P, ag', h, fun b H2 F2 ρ2 M2 s2 => k b H2 F2 ρ2 M2 (s'.trans s2)⟩⟩⟩
theorem JW.jt (h : JW X e ft) : JT X e ft := ⟨h.h.pt⟩
def qv5_ (f : WE) : WE := fun ρ M P => f ρ M fun d ρ1 M1 => match d with
  | .bl k => P (.bl (!k)) ρ1 M1
  | _ => False
def qwb_ (f g : WE) : WE := fun ρ M P => f ρ M fun d ρ1 M1 => match d with
  | .bl k => if k = true then g ρ1 M1 P else P (.bl false) ρ1 M1
  | _ => False
theorem qpf_ (ha : JE X a fa) : JE X (.UnaryOp .Not a pos) (qv5_ fa) := ⟨imE (qs8_ ha.h) fun σ H Q hh => ex5 hh fun Z F ρ M P ag hf k => ⟨Z, F, ρ, M, _, ag, hf, fun v H' F' d ρ' M' s' ag' r h => by
  split at h
  · rw [Rp] at r
    exact ⟨_, r, k _ H' F' _ ρ' M' s' ag' (by rw [Rp]) h⟩
  · exact h.elim⟩⟩
theorem qpa_ {op : BoolOp} (ha : JE X a fa) : JE X (.BoolOp op [a] pos) fa := ⟨qst_ ha.h⟩
theorem qn3_ (ha : JE X a fa) (hb : JE X (.BoolOp .And (b :: rest) pos) fb) : JE X (.BoolOp .And (a :: b :: rest) pos) (qwb_ fa fb) := ⟨imE (qr6_ ha.h hb.h) fun σ H Q hh => ex5 hh fun Z F ρ M P ag hf k => ⟨Z, F, ρ, M, _, ag, hf, fun v H' F' d ρ' M' s' ag' r h => by
  split at h
  · rename_i kk
    rw [Rp] at r
    refine ⟨_, r, ?_⟩
    cases kk with
    | true => rw [if_pos rfl] at h ⊢; exact ⟨Z, F', ρ', M', P, ag', h, fun v H2 F2 d ρ2 M2 s2 => k v H2 F2 d ρ2 M2 (s'.trans s2)⟩
    | false => rw [if_neg Bool.false_ne_true] at h ⊢; exact k _ H' F' _ ρ' M' s' ag' (by rw [Rp]) h
  · exact h.elim⟩⟩
end
end L4
namespace L4
open PySem PySem.Spec PyProof.Rows L2 L3
section
variable {X : Cx} {a b c e : Expr} {es rest : List Expr} {pos : Pos} {fa fb fe : WE} {ft fu : WT} {fl : WA} {fn : WN}
def wNil : WA := fun ρ M P => P [] ρ M
def qsw_ (f : WE) (g : WA) : WA := fun ρ M P => f ρ M fun d ρ1 M1 => g ρ1 M1 fun ds ρ2 M2 => P (d :: ds) ρ2 M2
theorem qb_ : JA X [] wNil := ⟨imA qd9_ fun σ H Q hh => ex5 hh fun Z F ρ M P ag hf k => k [] H F [] ρ M (Same.refl _) ag .nil hf⟩
theorem qa_ (ha : JE X e fe) (hr : JA X es fl) (hs : starEach (e :: es) X.env = (false, eval e X.env) :: starEach es X.env := by rfl) : JA X (e :: es) (qsw_ fe fl) := ⟨imA (q4_ ha.h hr.h hs) fun σ H Q hh => ex5 hh fun Z F ρ M P ag hf k =>
  ⟨Z, F, ρ, M, _, ag, hf, fun v H1 F1 d1 ρ1 M1 s1 ag1 r1 h1 => ⟨Z, F1, ρ1, M1, _, ag1, h1, fun vs H2 F2 ds ρ2 M2 s2 ag2 r2 h2 => k _ H2 F2 _ ρ2 M2 (s1.trans s2) ag2 (.cons (r1.same s2) r2) h2⟩⟩⟩
def wTup (f : WA) : WE := fun ρ M P => f ρ M fun ds ρ1 M1 => ds.length ≤ sizeLine ∧ P (.tup ds) ρ1 M1
theorem qbl_ {x1} (h : JA X es fl) : JE X (.Tuple es x1 pos) (wTup fl) := ⟨imE (qo1_ h.h) fun σ H Q hh => ex5 hh fun Z F ρ M P ag hf k => ⟨Z, F, ρ, M, _, ag, hf, fun vs H1 F1 ds ρ1 M1 s1 ag1 r1 h1 => by
  refine ⟨by rw [← r1.length]; exact h1.1, fun p hp => ?_⟩
  have s2 : Same F1 (upd F1 p (.tup vs)) := Same.new (q5_ ag1.m.sm hp)
  exact k _ _ (upd F1 p (.tup vs)) _ ρ1 M1 (s1.trans s2) (ag1.new hp) (by rw [Rp]; exact ⟨p, vs, rfl, SqT.of qi_, r1.same s2⟩) h1.2⟩⟩
theorem newN {Z F H : Hp} {M : Mm} {ρ : Rho} {σ : L2.St} {p : Addr} {vs : List V} {ds : List D} {K : PySem.W.Frag} (ag : Ag K Z F M H ρ σ) (hp : H p = none) (r : Rps K F ds vs) :
    Ag K Z F M (upd H p (.lst vs)) ρ σ ∧ upd H p (.lst vs) p = some (.lst vs) ∧ F p = none ∧ M p = none ∧ Z p = none ∧ (∀ (j : Nat) (es : List D), ρ[j]? = some (.ow es) → σ[j]? ≠ some (some (.ref p))) ∧ Rps K F ds vs := by
  refine ⟨ag.newO hp, qi_, q5_ ag.m.sm hp, ?_, ?_, fun j es h z => ?_, r⟩
  · cases q : M p with
    | none => rfl
    | some o =>
      obtain ⟨_, k⟩ := ag.m.mo p o q
      obtain ⟨u, hu⟩ := k.there
      rw [hp] at hu; cases hu
  · cases q : Z p with
    | none => rfl
    | some o => have := (ag.m.zz p o q).1; rw [hp] at this; cases this
  · obtain ⟨q, ws, h1, h2, _⟩ := ag.en j _ h
    rw [z] at h1
    cases h1
    rw [hp] at h2; cases h2
def wLst (f : WA) : WN := fun ρ M P => f ρ M fun ds ρ1 M1 => ds.length ≤ sizeLine ∧ P ds ρ1 M1
theorem qbn_ (h : JA X es fl) : JN X (.List es pos) (wLst fl) := ⟨imE (qt5_ h.h) fun σ H Q hh => ex5 hh fun Z F ρ M P ag hf k => ⟨Z, F, ρ, M, _, ag, hf, fun vs H1 F1 ds ρ1 M1 s1 ag1 r1 h1 => by
  refine ⟨by rw [← r1.length]; exact h1.1, fun p hp => ?_⟩
  obtain ⟨n1, n2, n3, n4, nz, n5, n6⟩ := newN ag1 hp r1
  exact k p vs _ F1 ds ρ1 M1 s1 n1 n2 n3 n4 nz n5 n6 h1.2⟩⟩
def wFz (f : WN) : WE := fun ρ M P => f ρ M fun ds ρ1 M1 => P (.lst ds) ρ1 M1
theorem qt2_ {Z F H : Hp} {M : Mm} {ρ : Rho} {σ : L2.St} {p : Addr} {vs : List V} {K : PySem.W.Frag} (ag : Ag K Z F M H ρ σ) (n2 : H p = some (.lst vs)) (n3 : F p = none) (n4 : M p = none) (nz : Z p = none) (n5 : ∀ (j : Nat) (es : List D), ρ[j]? = some (.ow es) → σ[j]? ≠ some (some (.ref p))) :
    Ag K Z (upd F p (.lst vs)) M H ρ σ := by
  have s1 : Same F (upd F p (.lst vs)) := Same.new n3
  refine ⟨⟨fun b u e => ?_, fun q o e => ?_, fun q o e => ?_⟩, ag.len, fun i e h => ?_, ag.di⟩
  · by_cases hb : b = p
    · subst hb; rw [qi_] at e; cases e; exact n2
    · rw [qh_ hb] at e; exact ag.m.sm b u e
  · obtain ⟨z1, z2, z3⟩ := ag.m.zz q o e
    have : q ≠ p := fun z => by rw [z, nz] at e; cases e
    exact ⟨z1, by rw [qh_ this]; exact z2, z3⟩
  · obtain ⟨z1, z2⟩ := ag.m.mo q o e
    have : q ≠ p := fun z => by rw [z, n4] at e; cases e
    exact ⟨by rw [qh_ this]; exact z1, z2.same s1 rfl⟩
  · have := ag.en i e h
    cases e with
    | un => trivial
    | sh d => obtain ⟨v, h1, h2⟩ := this; exact ⟨v, h1, Rp.same s1 h2⟩
    | rf p => exact this
    | ut u => obtain ⟨v, h1, h2⟩ := this; exact ⟨v, h1, RU.same s1 h2⟩
    | ow es =>
      obtain ⟨q, ws, h1, h2, h3, h4, h6, h5⟩ := this
      have hne : q ≠ p := fun z => by
        subst z
        have hj' : σ[i]? = some (some (.ref q)) := by
          cases y : σ[i]? with
          | none => rw [y] at h1; cases h1
          | some o => rw [y] at h1; simp at h1; rw [h1]
        exact n5 i es h hj'
      exact ⟨q, ws, h1, h2, by rw [qh_ hne]; exact h3, h4, h6, Rps.same s1 h5⟩
theorem j_fz (h : JN X e fn) : JE X e (wFz fn) := ⟨imE h.h fun σ H Q hh => ex5 hh fun Z F ρ M P ag hf k => ⟨Z, F, ρ, M, _, ag, hf, fun p vs H1 F1 ds ρ1 M1 s1 ag1 n2 n3 n4 nz n5 r1 h1 => by
  have s2 : Same F1 (upd F1 p (.lst vs)) := Same.new n3
  exact k _ H1 (upd F1 p (.lst vs)) _ ρ1 M1 (s1.trans s2) (qt2_ ag1 n2 n3 n4 nz n5) (by rw [Rp]; exact ⟨p, vs, rfl, .inl qi_, r1.same s2⟩) h1⟩⟩
theorem qjg_ {K : PySem.W.Frag} {F : Hp} {ds : List D} {vs : List V} {i : Int} {d : D} (r : Rps K F ds vs) (h : atI ds i = some d) : ∃ v, atI vs i = some v ∧ Rp K F d v := by
  unfold atI at h ⊢
  rw [r.length] at h
  cases e : ixN vs.length i with
  | none => rw [e] at h; cases h
  | some j =>
    rw [e] at h
    exact r.get h
def RIx : D → D → (D → Prop) → Prop := fun x y P => match x, y with
  | .tup ds, .int i => (match atI ds i with
    | some d => P d
    | none => False)
  | .lst ds, .int i => (match atI ds i with
    | some d => P d
    | none => False)
  | _, _ => False
theorem w_ix : OpW X (rIx X.K) RIx := by
  intro x y v u F H Q P sm rx ry h k
  unfold RIx at h
  split at h
  · rename_i ds i
    rw [Rp] at rx
    rw [Rp] at ry
    obtain ⟨p, vs, rfl, h1, h2⟩ := rx
    split at h
    · rename_i d hd
      obtain ⟨w, h3, h4⟩ := qjg_ h2 hd
      exact .inr (.inl ⟨p, vs, i, w, rfl, ry, qx_ sm h1, h3, k d w F H .rf h4 h⟩)
    · exact h.elim
  · rename_i ds i
    rw [Rp] at rx
    rw [Rp] at ry
    obtain ⟨p, vs, rfl, h1, h2⟩ := rx
    split at h
    · rename_i d hd
      obtain ⟨w, h3, h4⟩ := qjg_ h2 hd
      exact .inl ⟨p, vs, i, w, rfl, ry, .inl (qk_ sm h1), h3, k d w F H .rf h4 h⟩
    · exact h.elim
  · exact h.elim
theorem j_at (ha : JE X a fa) (hb : JE X b fb) (hs : qe8_ b := by intro _ _; rfl) : JE X (.Subscript a b pos) (wOp RIx fa fb) := j_ix qil_ w_ix ha hb hs
section
variable {x : Str} {p : Pos} {id T : String} {r : List V → Hp → VK → Prop} {R : List D → (D → Prop) → Prop}
theorem qee_ (hc : qdt_ X (.builtin id) r) (w : CaW X r R) (hg : Gl X x) (hm : X.mg x = none) (hv : bootBuiltins x = some (.builtin id)) (ha : JA X (e :: es) fl) (hn : x ≠ "__name__" := by decide) (hdb : (x == ("__debug__" : Str)) = false := by decide)
    (he : starEach (e :: es) X.env = (false, eval e X.env) :: starEach es X.env := by rfl) (hpl : (backTo pos (starEach es X.env)).any (·.1) = false := by rfl) : JE X (.Call (.Name x p) (e :: es) [] pos) (qeo_ R fl) := ⟨imE (qdi_ hc hg hm hv ha.h hn hdb he hpl) (qlx_ w)⟩
theorem qiu_ (hc : qdt_ X (.type T) r) (w : CaW X r R) (hg : Gl X x) (hm : X.mg x = none) (hv : bootBuiltins x = some (.type T)) (ha : JA X (e :: es) fl) (hn : x ≠ "__name__" := by decide) (hdb : (x == ("__debug__" : Str)) = false := by decide)
    (he : starEach (e :: es) X.env = (false, eval e X.env) :: starEach es X.env := by rfl) (hpl : (backTo pos (starEach es X.env)).any (·.1) = false := by rfl) : JE X (.Call (.Name x p) (e :: es) [] pos) (qeo_ R fl) := ⟨imE (qgv_ hc hg hm hv ha.h hn hdb he hpl) (qlx_ w)⟩
end
def RLen : List D → (D → Prop) → Prop := fun xs P => match xs with
  | [.lst ds] => P (.int ds.length)
  | [.tup ds] => P (.int ds.length)
  | _ => False
theorem rps1 {K : PySem.W.Frag} {F : Hp} {d : D} {vs : List V} (h : Rps K F [d] vs) : ∃ v, vs = [v] ∧ Rp K F d v := by
  rw [Rps] at h
  obtain ⟨v, r, rfl, h1, h2⟩ := h
  rw [Rps] at h2
  subst h2
  exact ⟨v, rfl, h1⟩
theorem rps2 {K : PySem.W.Frag} {F : Hp} {d e : D} {vs : List V} (h : Rps K F [d, e] vs) : ∃ v u, vs = [v, u] ∧ Rp K F d v ∧ Rp K F e u := by
  rw [Rps] at h
  obtain ⟨v, r, rfl, h1, h2⟩ := h
  obtain ⟨u, rfl, h3⟩ := rps1 h2
  exact ⟨v, u, rfl, h1, h3⟩
theorem qu1_ : CaW X (fun xs H Q => ∃ p ys, xs = [.ref p] ∧ (SqL X.K H p ys ∨ SqT X.K H p ys) ∧ Q (.int ys.length) H) RLen := by
  intro xs vs F H Q P sm rs h k
  unfold RLen at h
  split at h
  · rename_i ds
    obtain ⟨v, rfl, r⟩ := rps1 rs
    rw [Rp] at r
    obtain ⟨p, ws, rfl, h1, h2⟩ := r
    refine ⟨p, ws, rfl, .inl (.inl (qk_ sm h1)), k _ _ F H .rf ?_ h⟩
    rw [Rp, h2.length]
  · rename_i ds
    obtain ⟨v, rfl, r⟩ := rps1 rs
    rw [Rp] at r
    obtain ⟨p, ws, rfl, h1, h2⟩ := r
    refine ⟨p, ws, rfl, .inr (qx_ sm h1), k _ _ F H .rf ?_ h⟩
    rw [Rp, h2.length]
  · exact h.elim
def RAbs : List D → (D → Prop) → Prop := fun xs P => match xs with
  | [.int i] => P (.int (if i < 0 then -i else i))
  | _ => False
theorem qu0_ : CaW X (fun xs H Q => ∃ i, xs = [.int i] ∧ Q (.int (if i < 0 then -i else i)) H) RAbs := by
  intro xs vs F H Q P sm rs h k
  unfold RAbs at h
  split at h
  · obtain ⟨v, rfl, r⟩ := rps1 rs
    rw [Rp] at r
    subst r
    exact ⟨_, rfl, k _ _ F H .rf (by rw [Rp]) h⟩
  · exact h.elim
def RInt : List D → (D → Prop) → Prop := fun xs P => match xs with
  | [.int i] => P (.int i)
  | [.bl i] => P (.int (if i then 1 else 0))
  | _ => False
theorem qvt_ : CaW X (fun xs H Q => (∃ i, xs = [.int i] ∧ Q (.int i) H) ∨ ∃ k, xs = [.bl k] ∧ Q (.int (if k then 1 else 0)) H) RInt := by
  intro xs vs F H Q P sm rs h k
  unfold RInt at h
  split at h
  · obtain ⟨v, rfl, r⟩ := rps1 rs
    rw [Rp] at r
    subst r
    exact .inl ⟨_, rfl, k _ _ F H .rf (by rw [Rp]) h⟩
  · obtain ⟨v, rfl, r⟩ := rps1 rs
    rw [Rp] at r
    subst r
    exact .inr ⟨_, rfl, k _ _ F H .rf (by rw [Rp]) h⟩
  · exact h.elim
end
end L4
namespace L4
open PySem PySem.Spec PyProof.Rows L2 L3
def Zof (F : Hp) (M : Mm) (H : Hp) : Hp := fun p => if (F p).isNone = true ∧ (M p).isNone = true then H p else none
theorem qek_ {F H : Hp} {M : Mm} {p : Addr} {o : HO} (h : Zof F M H p = some o) : H p = some o ∧ F p = none ∧ M p = none := by
  unfold Zof at h
  split at h
  · rename_i c
    exact ⟨h, Option.isNone_iff_eq_none.mp c.1, Option.isNone_iff_eq_none.mp c.2⟩
  · cases h
theorem qfo_ {F H : Hp} {M : Mm} {p : Addr} {o : HO} (h1 : H p = some o) (h2 : F p = none) (h3 : M p = none) : Zof F M H p = some o := by
  unfold Zof
  rw [if_pos ⟨by rw [h2]; rfl, by rw [h3]; rfl⟩]
  exact h1
section
variable {K : PySem.W.Frag} {Z F F' H H' : Hp} {M M' : Mm} {ρ : Rho} {σ : L2.St}
theorem AgM.inner (a : AgM K Z F M H) : AgM K (Zof F M H) F M H := ⟨a.sm, fun _ _ h => qek_ h, a.mo⟩
theorem AgM.back (a : AgM K Z F M H) (b : AgM K (Zof F M H) F' M' H') : AgM K Z F' M' H' := ⟨b.sm, fun p o h => by
  obtain ⟨z1, z2, z3⟩ := a.zz p o h
  exact b.zz p o (qfo_ z1 z2 z3), b.mo⟩
theorem Ag.back (a : Ag K Z F M H ρ σ) (s : Same F F') (b : AgM K (Zof F M H) F' M' H') : Ag K Z F' M' H' ρ σ := by
  refine ⟨a.m.back b, a.len, fun i e h => ?_, a.di⟩
  have := a.en i e h
  cases e with
  | un => trivial
  | sh d => obtain ⟨v, h1, h2⟩ := this; exact ⟨v, h1, Rp.same s h2⟩
  | rf p => exact this
  | ut u => obtain ⟨v, h1, h2⟩ := this; exact ⟨v, h1, RU.same s h2⟩
  | ow ds =>
    obtain ⟨p, vs, h1, h2, h3, h4, h5, h6⟩ := this
    obtain ⟨z1, z2, z3⟩ := b.zz p _ (qfo_ h2 h3 h4)
    exact ⟨p, vs, h1, z1, z2, z3, h5, Rps.same s h6⟩
end
abbrev WF := List D → Mm → (D → Mm → Prop) → Prop
def spW (K : PySem.W.Frag) (g : WF) : Sp := fun vs H Q _ => ∃ Z F M ds P, AgM K Z F M H ∧ Rps K F ds vs ∧ g ds M P ∧ ∀ v H' F' d M', Same F F' → AgM K Z F' M' H' → Rp K F' d v → P d M' → Q v H'
def wFn (g : WF) (fl : WA) : WE := fun ρ M P => fl ρ M fun ds ρ1 M1 => g ds M1 fun d M2 => P d ρ1 M2
section
variable {X : Cx} {a b c e : Expr} {es rest : List Expr} {pos p : Pos} {fa fb fe : WE} {ft fu : WT} {fl : WA} {fn : WN} {st : Stmt} {sts : List Stmt} {fs gs : WS} {x : Str}
theorem j_h {g : WF} {k : Nat} {ps : List Str} (F : Has X.prog X.w X.K X.mg X.base CX0 k x ps (spW X.K g)) (hr : Room k X.A) (hg : Gl X x) (ha : JA X (e :: es) fl) (hdb : (x == ("__debug__" : Str)) = false := by decide) (he : starEach (e :: es) X.env = (false, eval e X.env) :: starEach es X.env := by rfl) (hpl : (backTo pos (starEach es X.env)).any (·.1) = false := by rfl) :
    JE X (.Call (.Name x p) (e :: es) [] pos) (wFn g fl) := ⟨imE (pe_h F hr hg qhm_ ha.h hdb he hpl) fun σ H Q hh => ex5 hh fun Z F ρ M P ag hf k => ⟨Z, F, ρ, M, _, ag, hf, fun vs H1 F1 ds ρ1 M1 s1 ag1 r1 h1 => by
  show spW X.K g (vs ++ []) H1 Q E0
  rw [List.append_nil]
  exact ⟨_, F1, M1, ds, _, ag1.m.inner, r1, h1, fun v H' F' d M' s' m' r h => k v H' F' d ρ1 M' (s1.trans s') (ag1.back s' m') r h⟩⟩⟩
theorem EndsOk.mono {K : PySem.W.Frag} {Z F F' : Hp} {E : WEnds} {D' : Ends} (h : EndsOk K Z F E D') (s : Same F F') : EndsOk K Z F' E D' :=
  ⟨fun σ' H' G ρ' M' t => h.nx σ' H' G ρ' M' (s.trans t), fun σ' H' G ρ' M' t => h.bk σ' H' G ρ' M' (s.trans t), fun σ' H' G ρ' M' t => h.ct σ' H' G ρ' M' (s.trans t), fun v H' G d M' t => h.rt v H' G d M' (s.trans t)⟩
def qvy_ : WS := fun E ρ M => E.nx ρ M
def wSeq (f g : WS) : WS := fun E ρ M => f ⟨fun ρ1 M1 => g E ρ1 M1, E.rt, E.bk, E.ct⟩ ρ M
theorem qv_ : JSs X [] qvy_ := ⟨imSs qhw_ fun D' σ H hh => ex5 hh fun Z F ρ M E ag hf k => k.nx σ H F ρ M (Same.refl _) ag hf⟩
theorem qg_ (h : JS X st fs) : JSs X [st] fs := ⟨qe5_ h.h⟩
theorem qc_ (h : JS X st fs) (h2 : JSs X sts gs) : JSs X (st :: sts) (wSeq fs gs) := ⟨imSs (qbs_ h.h h2.h) fun D' σ H hh => ex5 hh fun Z F ρ M E ag hf k =>
  ⟨Z, F, ρ, M, _, ag, hf, ⟨fun σ' H' F' ρ' M' s' ag' h => ⟨Z, F', ρ', M', E, ag', h, k.mono s'⟩, k.bk, k.ct, k.rt⟩⟩⟩
def qru_ : WS := fun _ _ _ => False
theorem qnt_ : JS X st qru_ := ⟨imS qns_ fun D' σ H hh => ex5 hh fun Z F ρ M E ag hf k => hf⟩
def wRet (f : WE) : WS := fun E ρ M => f ρ M fun d _ M1 => E.rt (.d d) M1
theorem qr_ (h : JE X e fe) : JS X (.Return (some e) pos) (wRet fe) := ⟨imS (qg7_ h.h) fun D' σ H hh => ex5 hh fun Z F ρ M E ag hf k => ⟨Z, F, ρ, M, _, ag, hf, fun v H' F' d ρ' M' s' ag' r h => k.rt v H' F' (.d d) M' s' ag'.m (by rw [RU]; exact r) h⟩⟩
def wIf (c : WT) (f g : WS) : WS := fun E ρ M => c ρ M fun b ρ1 M1 => if b = true then f E ρ1 M1 else g E ρ1 M1
theorem qb9_ {sa sb : List Stmt} (hc : JT X c ft) (ha : JSs X sa fs) (hb : JSs X sb gs) : JS X (.If c sa sb pos) (wIf ft fs gs) := ⟨imS (qqs_ hc.h ha.h hb.h) fun D' σ H hh => ex5 hh fun Z F ρ M E ag hf k => ⟨Z, F, ρ, M, _, ag, hf, fun b H' F' ρ' M' s' ag' h => by
  cases b with
  | true => rw [if_pos rfl] at h ⊢; exact ⟨Z, F', ρ', M', E, ag', h, k.mono s'⟩
  | false => rw [if_neg Bool.false_ne_true] at h ⊢; exact ⟨Z, F', ρ', M', E, ag', h, k.mono s'⟩⟩⟩
section
variable {i : Nat} {pos' : Pos}
def wSet (i : Nat) (f : WE) : WS := fun E ρ M => f ρ M fun d ρ1 M1 => E.nx (ρ1.set i (.sh d)) M1
theorem qo_ (hN : X.N.Nodup) (hi : X.N[i]? = some x) (hx : Loc X.env.scope x) (he : JE X e fe) (hs : swapsWith e (some (.Name x pos')) pos.line X.env = pure false := by rfl) (hf : X.fn x = true ∨ X.env.scope.names.lookup x = some .local := by first | exact .inl rfl | exact .inr rfl | assumption) :
    JS X (.Assign [.Name x pos'] e pos) (wSet i fe) := ⟨imS (qd3_ hN hi hx he.h hs hf) fun D' σ H hh => ex5 hh fun Z F ρ M E ag hf k => ⟨Z, F, ρ, M, _, ag, hf, fun v H' F' d ρ' M' s' ag' r h => k.nx _ H' F' _ M' s' (ag'.set r) h⟩⟩
def qt4_ (i : Nat) (f : WN) : WS := fun E ρ M => f ρ M fun ds ρ1 M1 => E.nx (ρ1.set i (.ow ds)) M1
theorem qib_ (hN : X.N.Nodup) (hi : X.N[i]? = some x) (hx : Loc X.env.scope x) (he : JN X e fn) (hs : swapsWith e (some (.Name x pos')) pos.line X.env = pure false := by rfl) (hf : X.fn x = true ∨ X.env.scope.names.lookup x = some .local := by first | exact .inl rfl | exact .inr rfl | assumption) :
    JS X (.Assign [.Name x pos'] e pos) (qt4_ i fn) := ⟨imS (qd3_ hN hi hx he.h hs hf) fun D' σ H hh => ex5 hh fun Z F ρ M E ag hf k => ⟨Z, F, ρ, M, _, ag, hf, fun p vs H' F' ds ρ' M' s' ag' n2 n3 n4 nz n5 r h => k.nx _ H' F' _ M' s' (ag'.setO n2 n3 n4 nz r n5) h⟩⟩
end
theorem qcw_ {K : PySem.W.Frag} {Z F H : Hp} {M : Mm} {ρ : Rho} {σ : L2.St} {i : Nat} {ds : List D} (ag : Ag K Z F M H ρ σ) (h : ρ[i]? = some (.ow ds)) : ∃ p vs, σ[i]? = some (some (.ref p)) ∧ H p = some (.lst vs) ∧ F p = none ∧ M p = none ∧ Z p = none ∧ Rps K F ds vs := by
  obtain ⟨p, vs, h1, h2⟩ := ag.en i _ h
  refine ⟨p, vs, ?_, h2⟩
  cases y : σ[i]? with
  | none => rw [y] at h1; cases h1
  | some o => rw [y] at h1; simp at h1; rw [h1]
theorem Ag.chg {K : PySem.W.Frag} {Z F H : Hp} {M : Mm} {ρ : Rho} {σ : L2.St} {i : Nat} {ds es : List D} {p : Addr} {vs ws : List V} (ag : Ag K Z F M H ρ σ) (h : ρ[i]? = some (.ow ds)) (hs : σ[i]? = some (some (.ref p))) (h2 : H p = some (.lst vs)) (h3 : F p = none) (h4 : M p = none) (h5 : Z p = none) (r : Rps K F es ws) :
    Ag K Z F M (upd H p (.lst ws)) (ρ.set i (.ow es)) σ := by
  have hi : i < ρ.length := (List.getElem?_eq_some_iff.mp h).1
  have ne : ∀ {q : Addr} {u : HO}, F q = some u → q ≠ p := fun e z => by rw [z, h3] at e; cases e
  refine ⟨⟨fun q u e => by rw [qh_ (ne e)]; exact ag.m.sm q u e, fun q o e => ?_, fun q o e => ?_⟩, by rw [List.length_set]; exact ag.len, fun j e q => ?_, fun j k ds' es' q n q1 q2 q3 => ?_⟩
  · obtain ⟨z1, z2, z3⟩ := ag.m.zz q o e
    have : q ≠ p := fun z => by rw [z, h5] at e; cases e
    exact ⟨by rw [qh_ this]; exact z1, z2, z3⟩
  · obtain ⟨z1, z2⟩ := ag.m.mo q o e
    have : q ≠ p := fun z => by rw [z, h4] at e; cases e
    exact ⟨z1, z2.same (Same.refl _) (qh_ this)⟩
  · by_cases hj : j = i
    · subst hj
      rw [List.getElem?_set_self hi] at q
      cases q
      exact ⟨p, ws, by rw [hs]; rfl, qi_, h3, h4, h5, r⟩
    · rw [List.getElem?_set_ne (Ne.symm hj)] at q
      have := ag.en j e q
      cases e with
      | un => trivial
      | sh d => exact this
      | rf p => exact this
      | ut u => exact this
      | ow ds' =>
        obtain ⟨q', us, g1, g2, g3⟩ := this
        have hne : q' ≠ p := fun z => by
          subst z
          have hj' : σ[j]? = some (some (.ref q')) := by
            cases y : σ[j]? with
            | none => rw [y] at g1; cases g1
            | some o => rw [y] at g1; simp at g1; rw [g1]
          exact ag.di i j ds ds' q' (Ne.symm hj) h q hs hj'
        exact ⟨q', us, g1, by rw [qh_ hne]; exact g2, g3⟩
  · have key : ∀ {j : Nat} {ds' : List D}, (ρ.set i (.ow es))[j]? = some (.ow ds') → ∃ ds'', ρ[j]? = some (.ow ds'') := fun {j ds'} q => by
      by_cases hj : j = i
      · subst hj; exact ⟨ds, h⟩
      · rw [List.getElem?_set_ne (Ne.symm hj)] at q; exact ⟨ds', q⟩
    obtain ⟨d1, e1⟩ := key q1
    obtain ⟨d2, e2⟩ := key q2
    exact ag.di j k d1 d2 q n e1 e2 q3
def isOw : Option Ent → Prop
  | some (.ow _) => True
  | _ => False
theorem qen_ {o : Option Ent} (h : isOw o) : ∃ ds, o = some (.ow ds) := by
  unfold isOw at h
  split at h
  · exact ⟨_, rfl⟩
  · exact h.elim
def wApp (i : Nat) (f : WE) : WS := fun E ρ M => isOw ρ[i]? ∧ f ρ M fun d ρ1 M1 => match ρ1[i]? with
  | some (.ow ds) => ds.length < sizeLine ∧ E.nx (ρ1.set i (.ow (ds ++ [d]))) M1
  | _ => False
theorem qrf_ {i : Nat} (hh : PS X st (qrm_ (tBM X.K "list" qlr_ (tVar i) (lfA X.K (qsw_ fe wNil))))) : JS X st (wApp i fe) := ⟨imS hh fun D' σ H hh => ex5 hh fun Z F ρ M E ag hf k => by
  obtain ⟨ho, hf⟩ := hf
  obtain ⟨ds0, ho⟩ := qen_ ho
  obtain ⟨p, vs, h1, h2, h3, h4, h5, h6⟩ := qcw_ ag ho
  refine ⟨.ref p, h1, .inl ⟨rfl, vs, SqL.of h2⟩, Z, F, ρ, M, fun es ρ1 M1 => match es with
    | [d] => (match ρ1[i]? with
      | some (.ow ds) => ds.length < sizeLine ∧ E.nx (ρ1.set i (.ow (ds ++ [d]))) M1
      | _ => False)
    | _ => False, ag, hf, fun ws H1 F1 es ρ1 M1 s1 ag1 r1 hh => ?_⟩
  dsimp only at hh
  split at hh
  · rename_i d
    split at hh
    · rename_i ds hd
      obtain ⟨v, rfl, rv⟩ := rps1 r1
      obtain ⟨p', us, g1, g2, g3, g4, g5, g6⟩ := qcw_ ag1 hd
      rw [h1] at g1
      cases g1
      refine ⟨p, us, v, rfl, rfl, g2, by rw [← g6.length]; exact hh.1, k.nx σ _ F1 _ M1 s1 (ag1.chg hd h1 g2 g3 g4 g5 (g6.append (.cons rv .nil))) hh.2⟩
    · exact hh.elim
  · exact hh.elim⟩
def qof_ (i : Nat) (fk fe : WE) : WS := fun E ρ M => fe ρ M fun d ρ1 M1 => isOw ρ1[i]? ∧ fk ρ1 M1 fun k ρ2 M2 => match ρ2[i]?, k with
  | some (.ow ds), .int j => (match ixN ds.length j with
    | some n => E.nx (ρ2.set i (.ow (ds.set n d))) M2
    | none => False)
  | _, _ => False
theorem qmu_ {i : Nat} {fk : WE} (hh : PS X st (tAsg (lf X.K fe) (gSub (tVar i) (lf X.K fk) qud_))) : JS X st (qof_ i fk fe) := ⟨imS hh fun D' σ H hh => ex5 hh fun Z F ρ M E ag hf k => by
  refine ⟨Z, F, ρ, M, _, ag, hf, fun v H1 F1 d ρ1 M1 s1 ag1 r1 h1 => ?_⟩
  obtain ⟨ho, h1⟩ := h1
  obtain ⟨ds0, ho⟩ := qen_ ho
  obtain ⟨p, vs, e1, e2, e3, e4, e5, e6⟩ := qcw_ ag1 ho
  refine ⟨.ref p, e1, Z, F1, ρ1, M1, _, ag1, h1, fun u H2 F2 dk ρ2 M2 s2 ag2 r2 h2 => ?_⟩
  split at h2
  · rename_i ds j hd
    rw [Rp] at r2
    split at h2
    · rename_i n hn
      obtain ⟨p', us, g1, g2, g3, g4, g5, g6⟩ := qcw_ ag2 hd
      rw [e1] at g1
      cases g1
      refine ⟨p, us, j, n, rfl, r2, g2, by rw [← g6.length]; exact hn, k.nx σ _ F2 _ M2 (s1.trans s2) (ag2.chg hd e1 g2 g3 g4 g5 (g6.set (r1.same s2) n)) h2⟩
    · exact h2.elim
  · exact h2.elim⟩
def wAtO (i : Nat) (fk : WE) : WE := fun ρ M P => isOw ρ[i]? ∧ fk ρ M fun k ρ1 M1 => match ρ1[i]?, k with
  | some (.ow ds), .int j => (match atI ds j with
    | some d => P d ρ1 M1
    | none => False)
  | _, _ => False
theorem qvx_ {i : Nat} {fk : WE} (hh : PE X e (tOp (rIx X.K) (tVar i) (lf X.K fk))) : JE X e (wAtO i fk) := ⟨imE hh fun σ H Q hh => ex5 hh fun Z F ρ M P ag hf k => by
  obtain ⟨ho, hf⟩ := hf
  obtain ⟨ds0, ho⟩ := qen_ ho
  obtain ⟨p, vs, e1, e2, e3, e4, e5, e6⟩ := qcw_ ag ho
  refine ⟨.ref p, e1, Z, F, ρ, M, _, ag, hf, fun u H2 F2 dk ρ2 M2 s2 ag2 r2 h2 => ?_⟩
  split at h2
  · rename_i ds j hd
    rw [Rp] at r2
    split at h2
    · rename_i d hn
      obtain ⟨p', us, g1, g2, g3, g4, g5, g6⟩ := qcw_ ag2 hd
      rw [e1] at g1
      cases g1
      obtain ⟨w, a1, a2⟩ := qjg_ g6 hn
      exact .inl ⟨p, us, j, w, rfl, r2, SqL.of g2, a1, k w H2 F2 d ρ2 M2 s2 ag2 a2 h2⟩
    · exact h2.elim
  · exact h2.elim⟩
def rIs4 (K : PySem.W.Frag) : List V → Hp → VK → Prop := fun xs H Q => ∃ d x n b, xs = [x, .ty n] ∧ Rp K H d x ∧ PySem.W.kitOne K (.type (tyN d)) (.type n) = some b ∧ Q (.bl b) H
theorem qmh_ : qdt_ X (.builtin "isinstance") (rIs4 X.K) := by
  intro pins s σ H vs us Q I r h
  obtain ⟨d, x, n, b, rfl, rp, e, q⟩ := h
  obtain ⟨u, w', rfl, r1, r2⟩ := qhn_ r
  cases (show w' = Value.type n from r2)
  have fin : ∀ tk : Nat, EP X pins σ Q (.bool b) { s with toks := tk } := fun tk => ⟨.bl b, H, I.tok tk, rfl, q⟩
  cases d with
  | non => rw [Rp] at rp; subst rp; exact qd0_ I r1 .non e fin
  | bl k => rw [Rp] at rp; subst rp; exact qd0_ I r1 (.bl k) e fin
  | int k => rw [Rp] at rp; subst rp; exact qd0_ I r1 (.int k) e fin
  | str k => rw [Rp] at rp; subst rp; exact qd0_ I r1 (.str k) e fin
  | tup ds =>
    rw [Rp] at rp
    obtain ⟨a, ws, rfl, h1, _⟩ := rp
    cases (show u = Value.ref a from r1)
    obtain ⟨its, _, ⟨o, g1, g2, _⟩, _⟩ := I.tuple h1
    exact PySem.W.kia_one PySem.W.kitx_tuple I.kIn ⟨o, g1, g2⟩ e (fun z => nomatch z) fin
  | lst ds =>
    rw [Rp] at rp
    obtain ⟨a, ws, rfl, h1, _⟩ := rp
    cases (show u = Value.ref a from r1)
    obtain ⟨its, _, ⟨o, n', g1, g2, _⟩, _⟩ := I.list (.inl h1)
    exact PySem.W.kia_one PySem.W.kitx_list I.kIn ⟨o, g1, g2⟩ e (fun z => nomatch z) fin
def wIs (t : D → Bool) (f : WE) : WE := fun ρ M P => f ρ M fun d ρ1 M1 => P (.bl (t d)) ρ1 M1
theorem j_is {t : D → Bool} {n : String} (hk : ∀ d, PySem.W.kitOne X.K (.type (tyN d)) (.type n) = some (t d)) (hh : ∀ {ta : TE}, PE X a ta → PE X e (tCB (rIs4 X.K) (qqh_ ta (qqh_ (tC (.ty n)) tNil)))) (ha : JE X a fa) : JE X e (wIs t fa) := ⟨imE (hh ha.h) fun σ H Q hh => ex5 hh fun Z F ρ M P ag hf k =>
  ⟨Z, F, ρ, M, _, ag, hf, fun v H1 F1 d ρ1 M1 s1 ag1 r1 h1 => ⟨d, v, n, _, rfl, r1.same ag1.m.sm, hk d, k _ H1 F1 _ ρ1 M1 s1 ag1 (by rw [Rp]) h1⟩⟩⟩
end
end L4
namespace L4
open PySem PySem.Spec PyProof.Rows L2 L3
structure ItOk (K : PySem.W.Frag) (J : It) (F : Hp) (ds : List D) : Prop where
  go : ∀ i F' H, i < ds.length → Same F F' → Same F' H → J.go i H
  stop : ∀ F' H, Same F F' → Same F' H → J.stop ds.length H
  yld : ∀ (i : Nat) d F' H x H', ds[i]? = some d → Same F F' → Same F' H → J.yld i H x H' → ∃ F'', Gw F' H F'' H' ∧ Rp K F'' d x
abbrev WI := Rho → Mm → (List D → Rho → Mm → Prop) → Prop
def lfI (K : PySem.W.Frag) (f : WI) : TI := fun σ H R => ∃ Z F ρ M P, Ag K Z F M H ρ σ ∧ f ρ M P ∧ ∀ J H' F' ds ρ' M', Same F F' → Ag K Z F' M' H' ρ' σ → ItOk K J F' ds → P ds ρ' M' → R J H'
structure JI (X : Cx) (tg iter : Expr) (f : WI) : Prop where
  h : PI X tg iter (lfI X.K f)
theorem imI {X : Cx} {tg iter : Expr} {t t' : TI} (h : PI X tg iter t) (k : ∀ σ H R, t' σ H R → t σ H R) : PI X tg iter t' := fun pins s σ H R I q => h pins s σ H R I (k σ H R q)
section
variable {X : Cx} {a b c e tg iter : Expr} {es rest : List Expr} {pos p : Pos} {fa fb fe : WE} {ft fu : WT} {fl : WA} {fn : WN} {st : Stmt} {sts : List Stmt} {fs gs : WS} {x : Str} {fi : WI} {fg : WG}
def wIL (f : WE) : WI := fun ρ M P => f ρ M fun d ρ1 M1 => match d with
  | .lst ds => P ds ρ1 M1
  | _ => False
def wIT (f : WE) : WI := fun ρ M P => f ρ M fun d ρ1 M1 => match d with
  | .tup ds => P ds ρ1 M1
  | _ => False
theorem qu_ (ha : JE X a fa) : JI X tg a (wIL fa) := ⟨imI (qql_ ha.h) fun σ H R hh => ex5 hh fun Z F ρ M P ag hf k => ⟨Z, F, ρ, M, _, ag, hf, fun v H1 F1 d ρ1 M1 s1 ag1 r1 h1 => by
  split at h1
  · rename_i ds
    rw [Rp] at r1
    obtain ⟨q, vs, rfl, g1, g2⟩ := r1
    refine ⟨q, rfl, ⟨vs, .inl (qk_ ag1.m.sm g1)⟩, k _ H1 F1 ds ρ1 M1 s1 ag1 ⟨fun i F' H hi s s' => ?_, fun F' H s s' => ?_, fun i d F' H x H' hd s s' y => ?_⟩ h1⟩
    · exact ⟨vs, _, .inl (qk_ s' (qk_ s g1)), List.getElem?_eq_getElem (by rw [← g2.length]; exact hi)⟩
    · exact ⟨vs, .inl (qk_ s' (qk_ s g1)), by rw [g2.length]; exact Nat.le_refl _⟩
    · obtain ⟨rfl, y⟩ := y
      obtain ⟨w, h2, h3⟩ := g2.get hd
      have := y vs (.inl (qk_ s' (qk_ s g1)))
      rw [h2] at this
      cases this
      exact ⟨F', .rf, h3.same s⟩
  · exact h1.elim⟩⟩
theorem qtu_ (ha : JE X a fa) : JI X tg a (wIT fa) := ⟨imI (qr0_ ha.h) fun σ H R hh => ex5 hh fun Z F ρ M P ag hf k => ⟨Z, F, ρ, M, _, ag, hf, fun v H1 F1 d ρ1 M1 s1 ag1 r1 h1 => by
  split at h1
  · rename_i ds
    rw [Rp] at r1
    obtain ⟨q, vs, rfl, g1, g2⟩ := r1
    refine ⟨q, rfl, ⟨vs, qx_ ag1.m.sm g1⟩, k _ H1 F1 ds ρ1 M1 s1 ag1 ⟨fun i F' H hi s s' => ?_, fun F' H s s' => ?_, fun i d F' H x H' hd s s' y => ?_⟩ h1⟩
    · exact ⟨vs, _, qx_ s' (qx_ s g1), List.getElem?_eq_getElem (by rw [← g2.length]; exact hi)⟩
    · exact ⟨vs, qx_ s' (qx_ s g1), by rw [g2.length]; exact Nat.le_refl _⟩
    · obtain ⟨rfl, y⟩ := y
      obtain ⟨w, h2, h3⟩ := g2.get hd
      have := y vs (qx_ s' (qx_ s g1))
      rw [h2] at this
      cases this
      exact ⟨F', .rf, h3.same s⟩
  · exact h1.elim⟩⟩
def rngD (lo : Int) (n : Nat) : List D := (List.range n).map fun (k : Nat) => D.int (lo + (k : Int))
theorem qop_ {K : PySem.W.Frag} {F : Hp} (lo : Int) (n : Nat) : ItOk K (Itr lo n) F (rngD lo n) := by
  have hl : (rngD lo n).length = n := by unfold rngD; simp
  refine ⟨fun i F' H hi _ _ => ?_, fun F' H _ _ => ?_, fun i d F' H x H' hd s s' y => ?_⟩
  · show i < n
    omega
  · show n ≤ _
    omega
  · obtain ⟨rfl, rfl⟩ := y
    refine ⟨F', .rf, ?_⟩
    unfold rngD at hd
    rw [List.getElem?_map] at hd
    cases q : (List.range n)[i]? with
    | none => rw [q] at hd; cases hd
    | some j =>
      rw [q] at hd
      obtain ⟨hj, e⟩ := List.getElem?_eq_some_iff.mp q
      simp at e
      subst e
      simp at hd
      subst hd
      rw [Rp]
def wIR1 (f : WA) : WI := fun ρ M P => f ρ M fun ds ρ1 M1 => match ds with
  | [.int j] => (-(2 ^ 62) ≤ j ∧ j < 2 ^ 62) ∧ P (rngD 0 j.toNat) ρ1 M1
  | _ => False
def wIR2 (f : WA) : WI := fun ρ M P => f ρ M fun ds ρ1 M1 => match ds with
  | [.int i, .int j] => (-(2 ^ 62) ≤ i ∧ i < 2 ^ 62 ∧ -(2 ^ 62) ≤ j ∧ j < 2 ^ 62) ∧ P (rngD i (j - i).toNat) ρ1 M1
  | _ => False
theorem qex_ (hg : Gl X "range") (hm : X.mg "range" = none) (ha : JA X [a] fl) (hs : starEach [a] X.env = [(false, eval a X.env)] := by rfl) : JI X tg (.Call (.Name "range" p) [a] [] pos) (wIR1 fl) := ⟨imI (qme_ hg hm ha.h hs) fun σ H R hh => ex5 hh fun Z F ρ M P ag hf k => ⟨Z, F, ρ, M, _, ag, hf, fun vs H1 F1 ds ρ1 M1 s1 ag1 r1 h1 => by
  split at h1
  · rename_i j
    obtain ⟨v, rfl, rv⟩ := rps1 r1
    rw [Rp] at rv
    subst rv
    exact ⟨j, rfl, h1.1.1, h1.1.2, k _ H1 F1 _ ρ1 M1 s1 ag1 (qop_ 0 _) h1.2⟩
  · exact h1.elim⟩⟩
theorem qq6_ (hg : Gl X "range") (hm : X.mg "range" = none) (ha : JA X [a, b] fl) (hs : starEach [a, b] X.env = [(false, eval a X.env), (false, eval b X.env)] := by rfl) (hs2 : starEach [b] X.env = [(false, eval b X.env)] := by rfl) : JI X tg (.Call (.Name "range" p) [a, b] [] pos) (wIR2 fl) := ⟨imI (qlt_ hg hm ha.h hs hs2) fun σ H R hh => ex5 hh fun Z F ρ M P ag hf k => ⟨Z, F, ρ, M, _, ag, hf, fun vs H1 F1 ds ρ1 M1 s1 ag1 r1 h1 => by
  split at h1
  · rename_i i j
    obtain ⟨v, u, rfl, rv, ru⟩ := rps2 r1
    rw [Rp] at rv ru
    subst rv ru
    exact ⟨i, j, rfl, h1.1, k _ H1 F1 _ ρ1 M1 s1 ag1 (qop_ i _) h1.2⟩
  · exact h1.elim⟩⟩
def zipD : List D → List D → List D
  | x :: xs, y :: ys => .tup [x, y] :: zipD xs ys
  | _, _ => []
theorem qc8_ : ∀ (xs ys : List D), (zipD xs ys).length = min xs.length ys.length
  | [], _ => by simp [zipD]
  | _ :: _, [] => by simp [zipD]
  | x :: xs, y :: ys => by rw [zipD, List.length_cons, qc8_ xs ys]; simp
theorem qgg_ : ∀ {xs ys : List D} {i : Nat} {d : D}, (zipD xs ys)[i]? = some d → ∃ x y, xs[i]? = some x ∧ ys[i]? = some y ∧ d = .tup [x, y]
  | [], _, _, _, h => by simp [zipD] at h
  | _ :: _, [], _, _, h => by simp [zipD] at h
  | x :: xs, y :: ys, 0, d, h => by simp [zipD] at h; exact ⟨x, y, rfl, rfl, h.symm⟩
  | x :: xs, y :: ys, i + 1, d, h => by
    rw [zipD, List.getElem?_cons_succ] at h
    obtain ⟨a, b, h1, h2, h3⟩ := qgg_ h
    exact ⟨a, b, by simpa using h1, by simpa using h2, h3⟩
def wIZ (f : WA) : WI := fun ρ M P => f ρ M fun ds ρ1 M1 => match ds with
  | [.lst xs, .lst ys] => P (zipD xs ys) ρ1 M1
  | _ => False
theorem qoj_ {tpos : Pos} {elts : List Expr} {k : Nat} (hg : Gl X "zip") (hm : X.mg "zip" = none) (ha : JA X [a, b] fl) (hs : starEach [a, b] X.env = [(false, eval a X.env), (false, eval b X.env)] := by rfl) (hs2 : starEach [b] X.env = [(false, eval b X.env)] := by rfl) : JI X (.Tuple elts k tpos) (.Call (.Name "zip" p) [a, b] [] pos) (wIZ fl) := ⟨imI (qsx_ hg hm ha.h hs hs2) fun σ H R hh => ex5 hh fun Z F ρ M P ag hf k => ⟨Z, F, ρ, M, _, ag, hf, fun vs H1 F1 ds ρ1 M1 s1 ag1 r1 h1 => by
  split at h1
  · rename_i xs ys
    obtain ⟨v, u, rfl, rv, ru⟩ := rps2 r1
    rw [Rp] at rv ru
    obtain ⟨q, vs, rfl, g1, g2⟩ := rv
    obtain ⟨q', us, rfl, g3, g4⟩ := ru
    refine ⟨q, q', rfl, ⟨vs, .inl (qk_ ag1.m.sm g1)⟩, ⟨us, .inl (qk_ ag1.m.sm g3)⟩, k _ H1 F1 _ ρ1 M1 s1 ag1 ⟨fun i F' H hi s s' => ?_, fun F' H s s' => ?_, fun i d F' H x H' hd s s' y => ?_⟩ h1⟩
    · rw [qc8_, g2.length, g4.length] at hi
      exact ⟨vs, us, _, _, .inl (qk_ s' (qk_ s g1)), .inl (qk_ s' (qk_ s g3)), List.getElem?_eq_getElem (by omega), List.getElem?_eq_getElem (by omega)⟩
    · refine ⟨vs, us, .inl (qk_ s' (qk_ s g1)), .inl (qk_ s' (qk_ s g3)), ?_⟩
      rw [qc8_, g2.length, g4.length]
      omega
    · obtain ⟨p, w1, w2, rfl, hp, rfl, y1, y2⟩ := y
      obtain ⟨d1, d2, e1, e2, rfl⟩ := qgg_ hd
      obtain ⟨z1, f1, f2⟩ := g2.get e1
      obtain ⟨z2, f3, f4⟩ := g4.get e2
      have q1 := y1 vs (.inl (qk_ s' (qk_ s g1)))
      have q2 := y2 us (.inl (qk_ s' (qk_ s g3)))
      rw [f1] at q1
      cases q1
      rw [f3] at q2
      cases q2
      have hF : F' p = none := q5_ s' hp
      have sn : Same F' (upd F' p (.tup [w1, w2])) := Same.new hF
      refine ⟨_, .nw hp, ?_⟩
      rw [Rp]
      exact ⟨p, _, rfl, SqT.of qi_, .cons ((f2.same s).same sn) (.cons ((f4.same s).same sn) .nil)⟩
  · exact h1.elim⟩⟩
def gN (i : Nat) : WG := fun d ρ M P => P (ρ.set i (.sh d)) M
theorem qj_ {i : Nat} (hN : X.N.Nodup) (hi : X.N[i]? = some x) (hx : Loc X.env.scope x) (hf : X.fn x = true ∨ X.env.scope.names.lookup x = some .local := by first | exact .inl rfl | exact .inr rfl | assumption) : JG X (.Name x pos) (gN i) := ⟨imG (qpk_ hN hi hx hf) fun v σ H Q hh => ex6 hh fun Z F ρ M d P ag r hf k => k _ H F _ M (Same.refl _) (ag.set r) hf⟩
def qr2_ : WGs := fun ds ρ M P => match ds with
  | [] => P ρ M
  | _ => False
def qn5_ (g : WG) (h : WGs) : WGs := fun ds ρ M P => match ds with
  | d :: r => g d ρ M fun ρ1 M1 => h r ρ1 M1 P
  | _ => False
theorem qcs_ : JGs X [] qr2_ := ⟨imGs qpd_ fun vs σ H Q hh => ex6 hh fun Z F ρ M ds P ag r hf k => by
  unfold qr2_ at hf
  split at hf
  · rw [Rps] at r
    exact ⟨r, k σ H F ρ M (Same.refl _) ag hf⟩
  · exact hf.elim⟩
theorem qs_ {fh : WGs} (h1 : JG X e fg) (h2 : JGs X es fh) (hs : (assignEach (e :: es) X.env).map (·.2) = assign e X.env :: (assignEach es X.env).map (·.2) := by rfl) : JGs X (e :: es) (qn5_ fg fh) := ⟨imGs (qmi_ h1.h h2.h hs) fun vs σ H Q hh => ex6 hh fun Z F ρ M ds P ag r hf k => by
  unfold qn5_ at hf
  split at hf
  · rw [Rps] at r
    obtain ⟨v, vr, rfl, r1, r2⟩ := r
    exact ⟨v, vr, rfl, Z, F, ρ, M, _, _, ag, r1, hf, fun σ' H' F' ρ' M' s' ag' h => ⟨Z, F', ρ', M', _, P, ag', r2.same s', h, fun σ2 H2 F2 ρ2 M2 s2 => k σ2 H2 F2 ρ2 M2 (s'.trans s2)⟩⟩
  · exact hf.elim⟩
def qs2_ (n : Nat) (g : WGs) : WG := fun d ρ M P => match d with
  | .tup ds => ds.length = n ∧ g ds ρ M P
  | _ => False
theorem qd7_ {fh : WGs} {k n : Nat} (hc : X.calm = true) (h : JGs X es fh) (hn : (assignEach es X.env).length = n := by rfl) (hst : (assignEach es X.env).findIdx? (·.1) = none := by rfl) : JG X (.Tuple es k pos) (qs2_ n fh) := ⟨imG (qtp_ hc h.h hn hst) fun v σ H Q hh => ex6 hh fun Z F ρ M d P ag r hf k => by
  unfold qs2_ at hf
  split at hf
  · rw [Rp] at r
    obtain ⟨q, vs, rfl, g1, g2⟩ := r
    exact ⟨q, vs, rfl, qx_ ag.m.sm g1, by rw [← g2.length]; exact hf.1, Z, F, ρ, M, _, P, ag, g2, hf.2, k⟩
  · exact hf.elim⟩
def wAsg (f : WE) (g : WG) : WS := fun E ρ M => f ρ M fun d ρ1 M1 => g d ρ1 M1 E.nx
theorem qsu_ (he : JE X e fe) (hg : JG X tg fg) (hs : swapsWithSole [tg] e pos.line X.env = pure false := by rfl) (hw : swappedStores [tg] e X.env = pure none := by rfl) (h1 : (assignEach [tg] X.env).map (·.2) = [assign tg X.env] := by rfl) : JS X (.Assign [tg] e pos) (wAsg fe fg) := ⟨imS (qoz_ he.h hg.h hs hw h1) fun D' σ H hh => ex5 hh fun Z F ρ M E ag hf k =>
  ⟨Z, F, ρ, M, _, ag, hf, fun v H1 F1 d ρ1 M1 s1 ag1 r1 h1 => ⟨Z, F1, ρ1, M1, d, _, ag1, r1, h1, fun σ' H' F' ρ' M' s' ag' h => k.nx σ' H' F' ρ' M' (s1.trans s') ag' h⟩⟩⟩
def wPar (i j : Nat) (f : WA) : WS := fun E ρ M => f ρ M fun ds ρ1 M1 => match ds with
  | [d, e] => E.nx ((ρ1.set i (.sh d)).set j (.sh e)) M1
  | _ => False
theorem qtd_ {i j : Nat} (hh : PS X st (tPar i j (lfA X.K fl))) : JS X st (wPar i j fl) := ⟨imS hh fun D' σ H hh => ex5 hh fun Z F ρ M E ag hf k =>
  ⟨Z, F, ρ, M, _, ag, hf, fun vs H1 F1 ds ρ1 M1 s1 ag1 r1 h1 => by
    split at h1
    · obtain ⟨v, u, rfl, rv, ru⟩ := rps2 r1
      exact ⟨v, u, rfl, k.nx _ H1 F1 _ M1 s1 ((ag1.set rv).set ru) h1⟩
    · exact h1.elim⟩⟩
def wFor (f : WI) (g : WG) (b : WS) : WS := fun E ρ M => f ρ M fun ds ρ1 M1 => ∃ I : Nat → Rho → Mm → Prop, I 0 ρ1 M1 ∧ (∀ (i : Nat) d ρ2 M2, ds[i]? = some d → I i ρ2 M2 → g d ρ2 M2 fun ρ3 M3 => b ⟨I (i + 1), E.rt, E.nx, I (i + 1)⟩ ρ3 M3) ∧ ∀ ρ2 M2, I ds.length ρ2 M2 → E.nx ρ2 M2
theorem qbv_ {body : List Stmt} (hp : PassesOwn (model X.prog X.w) X.A X.env X.xe) (hc : X.calm = true) (hi : JI X tg iter fi) (hg : JG X tg fg) (hb : JSs X body fs) (hs : ∀ x, foldedSetIterable iter X.env x = pure x := by intro _; rfl) : JS X (.For tg iter body [] pos) (wFor fi fg fs) := ⟨imS (quj_ hp hc hi.h hg.h hb.h hs) fun D' σ H hh => ex5 hh fun Z F ρ M E ag hf k => ⟨Z, F, ρ, M, _, ag, hf, fun J H1 F1 ds ρ1 M1 s1 ag1 it h1 => by
  obtain ⟨In, i0, step, fin⟩ := h1
  refine ⟨fun i m σ' H' => m = ds.length - i ∧ i ≤ ds.length ∧ ∃ F' ρ' M', Same F1 F' ∧ Ag X.K Z F' M' H' ρ' σ' ∧ In i ρ' M', ⟨_, rfl, Nat.zero_le _, F1, ρ1, M1, Same.refl _, ag1, i0⟩, ?_⟩
  rintro i m σ2 H2 ⟨rfl, hi, F2, ρ2, M2, s2, ag2, h2⟩
  by_cases hl : i < ds.length
  · have e : ds[i]? = some ds[i] := List.getElem?_eq_getElem hl
    refine .inr ⟨it.go i F2 H2 hl s2 ag2.m.sm, fun σ' H' => ∃ F' ρ' M', Same F1 F' ∧ Ag X.K Z F' M' H' ρ' σ' ∧ In (i + 1) ρ' M', fun σ' H' q => ⟨ds.length - (i + 1), by omega, rfl, hl, q⟩, fun x H' y => ?_⟩
    obtain ⟨F3, gw, r3⟩ := it.yld i _ F2 H2 x H' e s2 ag2.m.sm y
    have s3 := gw.same ag2.m.sm
    refine ⟨Z, F3, ρ2, M2, _, _, gw.ag ag2, r3, step i _ ρ2 M2 e h2, fun σ4 H4 F4 ρ4 M4 s4 ag4 h4 => ⟨Z, F4, ρ4, M4, _, ag4, h4, ?_⟩⟩
    have s14 := s2.trans (s3.trans s4)
    refine ⟨fun σ' H' F' ρ' M' t a q => ⟨F', ρ', M', s14.trans t, a, q⟩, fun σ' H' F' ρ' M' t a q => k.nx σ' H' F' ρ' M' (s1.trans (s14.trans t)) a q, fun σ' H' F' ρ' M' t a q => ⟨F', ρ', M', s14.trans t, a, q⟩, fun v H' F' d M' t a r q => k.rt v H' F' d M' (s1.trans (s14.trans t)) a r q⟩
  · have : i = ds.length := by omega
    subst this
    exact .inl ⟨it.stop F2 H2 s2 ag2.m.sm, k.nx σ2 H2 F2 ρ2 M2 (s1.trans s2) ag2 (fin ρ2 M2 h2)⟩⟩⟩
def quf_ (c : WT) (b : WS) : WS := fun E ρ M => ∃ W : Nat → Rho → Mm → Prop, (∃ m, W m ρ M) ∧ ∀ m ρ M, W m ρ M → c ρ M fun k ρ1 M1 => if k = true then b ⟨fun ρ2 M2 => ∃ m', m' < m ∧ W m' ρ2 M2, E.rt, E.nx, fun ρ2 M2 => ∃ m', m' < m ∧ W m' ρ2 M2⟩ ρ1 M1 else E.nx ρ1 M1
theorem qjn_ {body : List Stmt} (hp : PassesOwn (model X.prog X.w) X.A X.env X.xe) (hc : JT X c ft) (hb : JSs X body fs) : JS X (.While c body [] pos) (quf_ ft fs) := ⟨imS (qmy_ hp hc.h hb.h) fun D' σ H hh => ex5 hh fun Z F ρ M E ag hf k => by
  obtain ⟨W, ⟨m0, w0⟩, turn⟩ := hf
  refine ⟨fun m σ' H' => ∃ F' ρ' M', Same F F' ∧ Ag X.K Z F' M' H' ρ' σ' ∧ W m ρ' M', ⟨m0, F, ρ, M, Same.refl _, ag, w0⟩, ?_⟩
  rintro m σ1 H1 ⟨F1, ρ1, M1, s1, ag1, w1⟩
  refine ⟨Z, F1, ρ1, M1, _, ag1, turn m ρ1 M1 w1, fun b H2 F2 ρ2 M2 s2 ag2 h2 => ?_⟩
  cases b with
  | false => rw [if_neg Bool.false_ne_true] at h2 ⊢; exact k.nx σ1 H2 F2 ρ2 M2 (s1.trans s2) ag2 h2
  | true =>
    rw [if_pos rfl] at h2 ⊢
    refine ⟨fun σ' H' => ∃ m', m' < m ∧ ∃ F' ρ' M', Same F F' ∧ Ag X.K Z F' M' H' ρ' σ' ∧ W m' ρ' M', fun _ _ h => h, Z, F2, ρ2, M2, _, ag2, h2, ?_⟩
    have s02 := s1.trans s2
    exact ⟨fun σ' H' F' ρ' M' t a ⟨m', hm, q⟩ => ⟨m', hm, F', ρ', M', s02.trans t, a, q⟩, fun σ' H' F' ρ' M' t a q => k.nx σ' H' F' ρ' M' (s02.trans t) a q, fun σ' H' F' ρ' M' t a ⟨m', hm, q⟩ => ⟨m', hm, F', ρ', M', s02.trans t, a, q⟩, fun v H' F' d M' t a r q => k.rt v H' F' d M' (s02.trans t) a r q⟩⟩
end
def iniR (src : List (Option Nat)) (ρ : Rho) : Rho := src.map fun o => match o with
  | none => .un
  | some j => (match ρ[j]? with
    | some (.sh d) => .sh d
    | some (.rf p) => .rf p
    | some (.ut u) => .ut u
    | _ => .un)
theorem qtc_ {K : PySem.W.Frag} {Z F H : Hp} {M : Mm} {ρ : Rho} {σ : L2.St} (src : List (Option Nat)) (ag : Ag K Z F M H ρ σ) : Ag K (Zof F M H) F M H (iniR src ρ) (ini src σ) := by
  refine ⟨ag.m.inner, by unfold iniR ini; rw [List.length_map, List.length_map], fun i e h => ?_, fun i j ds es p n h1 h2 h3 => ?_⟩
  · unfold iniR at h
    rw [List.getElem?_map] at h
    unfold ini
    rw [List.getElem?_map]
    cases q : src[i]? with
    | none => rw [q] at h; cases h
    | some o =>
      rw [q] at h
      cases o with
      | none => cases h; trivial
      | some j =>
        simp only [Option.map_some, Option.some.injEq] at h
        simp only [Option.map_some, Option.bind_some, Option.join_some]
        cases q2 : ρ[j]? with
        | none => rw [q2] at h; subst h; trivial
        | some en =>
          rw [q2] at h
          have hen := ag.en j en q2
          cases en with
          | un => subst h; trivial
          | sh d => subst h; exact hen
          | rf p => subst h; exact hen
          | ut u => subst h; exact hen
          | ow ds => subst h; trivial
  · exfalso
    unfold iniR at h1
    rw [List.getElem?_map] at h1
    cases q : src[i]? with
    | none => rw [q] at h1; cases h1
    | some o =>
      rw [q] at h1
      cases o with
      | none => cases h1
      | some j =>
        simp only [Option.map_some, Option.some.injEq] at h1
        split at h1 <;> cases h1
def clr (ρ : Rho) : Rho := ρ.map fun e => match e with
  | .ow _ => .un
  | e => e
theorem qhc_ {K : PySem.W.Frag} {Z Z' F H : Hp} {M : Mm} {ρ : Rho} {σ : L2.St} (ag : Ag K Z F M H ρ σ) (m : AgM K Z' F M H) : Ag K Z' F M H (clr ρ) σ := by
  have key : ∀ {i : Nat} {e : Ent}, (clr ρ)[i]? = some e → (e = .un ∨ ρ[i]? = some e) ∧ ∀ ds, e ≠ .ow ds := fun {i e} h => by
    unfold clr at h
    rw [List.getElem?_map] at h
    cases q : ρ[i]? with
    | none => rw [q] at h; cases h
    | some en =>
      rw [q] at h
      cases en with
      | un => cases h; exact ⟨.inl rfl, fun _ z => nomatch z⟩
      | sh d => cases h; exact ⟨.inr rfl, fun _ z => nomatch z⟩
      | rf p => cases h; exact ⟨.inr rfl, fun _ z => nomatch z⟩
      | ut u => cases h; exact ⟨.inr rfl, fun _ z => nomatch z⟩
      | ow ds => cases h; exact ⟨.inl rfl, fun _ z => nomatch z⟩
  refine ⟨m, by unfold clr; rw [List.length_map]; exact ag.len, fun i e h => ?_, fun i j ds es p n h1 _ _ => absurd rfl ((key h1).2 ds)⟩
  obtain ⟨h1, h2⟩ := key h
  rcases h1 with rfl | h1
  · trivial
  · have := ag.en i e h1
    cases e with
    | un => trivial
    | sh d => exact this
    | rf p => exact this
    | ut u => exact this
    | ow ds => exact absurd rfl (h2 ds)
def qnf_ (fi : WI) (g : WG) (c : WT) (f : WE) (src : List (Option Nat)) : WN := fun ρ M P => fi ρ M fun ds ρ1 M1 => ∃ I : Nat → List D → Rho → Mm → Prop, I 0 [] (iniR src ρ1) M1 ∧
  (∀ (i : Nat) d out ρ2 M2, ds[i]? = some d → I i out ρ2 M2 → g d ρ2 M2 fun ρ3 M3 => c ρ3 M3 fun b ρ4 M4 => if b = true then f ρ4 M4 fun y ρ5 M5 => out.length < sizeLine ∧ I (i + 1) (out ++ [y]) (clr ρ5) M5 else I (i + 1) out (clr ρ4) M4) ∧
  ∀ out ρ2 M2, I ds.length out ρ2 M2 → P out ρ1 M2
def wYes : WT := fun ρ M P => P true ρ M
theorem qtz_ {K : PySem.W.Frag} : ∀ σ H Q, lfT K wYes σ H Q → tYes σ H Q := fun σ H Q hh => ex5 hh fun Z F ρ M P ag hf k => k true H F ρ M (Same.refl _) ag hf
abbrev lfX {α : Type} (K : PySem.W.Frag) (R : Hp → α → V → Prop) (f : Rho → Mm → (α → Rho → Mm → Prop) → Prop) : TE := fun σ H Q => ∃ Z F ρ M P, Ag K Z F M H ρ σ ∧ f ρ M P ∧ ∀ v H' F' d ρ' M', Same F F' → Ag K Z F' M' H' ρ' σ → R F' d v → P d ρ' M' → Q v H'
abbrev lfNX {α : Type} (K : PySem.W.Frag) (RL : Hp → List α → List V → Prop) (f : Rho → Mm → (List α → Rho → Mm → Prop) → Prop) : TE := fun σ H Q => ∃ Z F ρ M P, Ag K Z F M H ρ σ ∧ f ρ M P ∧ ∀ p vs H' F' ds ρ' M', Same F F' → Ag K Z F' M' H' ρ' σ → H' p = some (.lst vs) → F' p = none → M' p = none → Z p = none → (∀ (j : Nat) (es : List D), ρ'[j]? = some (.ow es) → σ[j]? ≠ some (some (.ref p))) → RL F' ds vs → P ds ρ' M' → Q (.ref p) H'
abbrev qre_ {α : Type} (fi : WI) (g : WG) (c : WT) (f : Rho → Mm → (α → Rho → Mm → Prop) → Prop) (src : List (Option Nat)) : Rho → Mm → (List α → Rho → Mm → Prop) → Prop := fun ρ M P => fi ρ M fun ds ρ1 M1 => ∃ I : Nat → List α → Rho → Mm → Prop, I 0 [] (iniR src ρ1) M1 ∧
  (∀ (i : Nat) d out ρ2 M2, ds[i]? = some d → I i out ρ2 M2 → g d ρ2 M2 fun ρ3 M3 => c ρ3 M3 fun b ρ4 M4 => if b = true then f ρ4 M4 fun y ρ5 M5 => out.length < sizeLine ∧ I (i + 1) (out ++ [y]) (clr ρ5) M5 else I (i + 1) out (clr ρ4) M4) ∧
  ∀ out ρ2 M2, I ds.length out ρ2 M2 → P out ρ1 M2
theorem qip_ {α : Type} {K : PySem.W.Frag} {R : Hp → α → V → Prop} {RL : Hp → List α → List V → Prop} (rn : ∀ F, RL F [] []) (rs : ∀ {F F' out ws}, Same F F' → RL F out ws → RL F' out ws) (rl : ∀ {F out ws}, RL F out ws → out.length = ws.length) (rc : ∀ {F out ws d v}, RL F out ws → R F d v → RL F (out ++ [d]) (ws ++ [v]))
    {fi : WI} {fg : WG} {fc : WT} {fe : Rho → Mm → (α → Rho → Mm → Prop) → Prop} {src : List (Option Nat)} {g : TG} {tc : TT} {te : TE} (hg : ∀ v σ H Q, lfG K fg v σ H Q → g v σ H Q) (hc : ∀ σ H Q, lfT K fc σ H Q → tc σ H Q) (he : ∀ σ H Q, lfX K R fe σ H Q → te σ H Q) :
    ∀ σ H Q, lfNX K RL (qre_ fi fg fc fe src) σ H Q → ql7_ (lfI K fi) g tc te src σ H Q := fun σ H Q hh => ex5 hh fun Z F ρ M P ag hf k => ⟨Z, F, ρ, M, _, ag, hf, fun J H1 F1 ds ρ1 M1 s1 ag1 it h1 D0 hD => by
  -- the new list at D0, the outer state as it was
  obtain ⟨In, i0, step, fin⟩ := h1
  obtain ⟨n1, n2, n3, n4, n5, n6, _⟩ := newN (ds := []) (vs := []) ag1 hD .nil
  refine ⟨fun i m σc Hc => m = ds.length - i ∧ i ≤ ds.length ∧ ∃ F' ρc M' out ws, Same F1 F' ∧ AgM K (Zof F1 M1 H1) F' M' Hc ∧ Hc D0 = some (.lst ws) ∧ F' D0 = none ∧ M' D0 = none ∧ RL F' out ws ∧
      Ag K (Zof F' M' Hc) F' M' Hc ρc σc ∧ In i out ρc M', ⟨_, rfl, Nat.zero_le _, F1, iniR src ρ1, M1, [], [], Same.refl _, ?_, n2, n3, n4, rn _, ?_, i0⟩, ?_⟩
  · refine ⟨n1.m.sm, fun p o h => ?_, n1.m.mo⟩
    obtain ⟨z1, z2, z3⟩ := qek_ h
    have : p ≠ D0 := fun z => by rw [z, hD] at z1; cases z1
    exact ⟨by rw [qh_ this]; exact z1, z2, z3⟩
  · exact qtc_ src n1
  rintro i m σ2 H2 ⟨rfl, hi, F2, ρ2, M2, out, ws, s2, m2, d1, d2, d3, r2, ag2, h2⟩
  by_cases hl : i < ds.length
  · have e : ds[i]? = some ds[i] := List.getElem?_eq_getElem hl
    refine .inr ⟨it.go i F2 H2 hl s2 ag2.m.sm, fun σc Hc => ∃ F' ρc M' out ws, Same F1 F' ∧ AgM K (Zof F1 M1 H1) F' M' Hc ∧ Hc D0 = some (.lst ws) ∧ F' D0 = none ∧ M' D0 = none ∧ RL F' out ws ∧
      Ag K (Zof F' M' Hc) F' M' Hc ρc σc ∧ In (i + 1) out ρc M', fun σ' H' q => ⟨ds.length - (i + 1), by omega, rfl, hl, q⟩, fun x H' y => ?_⟩
    obtain ⟨F3, gw, r3⟩ := it.yld i _ F2 H2 x H' e s2 ag2.m.sm y
    have s3 := gw.same ag2.m.sm
    have zd : Zof F2 M2 H2 D0 = some (.lst ws) := qfo_ d1 d2 d3
    refine hg _ _ _ _ ⟨Zof F2 M2 H2, F3, ρ2, M2, _, _, gw.ag ag2, r3, step i _ out ρ2 M2 e h2, fun σ4 H4 F4 ρ4 M4 s4 ag4 h4 => ?_⟩
    refine hc _ _ _ ⟨Zof F2 M2 H2, F4, ρ4, M4, _, ag4, h4, fun b H5 F5 ρ5 M5 s5 ag5 h5 => ?_⟩
    have s25 := s3.trans (s4.trans s5)
    dsimp only
    cases b with
    | false =>
      rw [if_neg Bool.false_ne_true] at h5 ⊢
      obtain ⟨z1, z2, z3⟩ := ag5.m.zz _ _ zd
      exact ⟨F5, clr ρ5, M5, out, ws, s2.trans s25, m2.back ag5.m, z1, z2, z3, rs s25 r2, qhc_ ag5 ag5.m.inner, h5⟩
    | true =>
      rw [if_pos rfl] at h5 ⊢
      refine he _ _ _ ⟨Zof F2 M2 H2, F5, ρ5, M5, _, ag5, h5, fun v H6 F6 d ρ6 M6 s6 ag6 r6 h6 => ?_⟩
      obtain ⟨z1, z2, z3⟩ := ag6.m.zz _ _ zd
      have s26 := s25.trans s6
      have m6 := m2.back ag6.m
      have ne : ∀ {q : Addr} {u : HO}, F6 q = some u → q ≠ D0 := fun e z => by rw [z, z2] at e; cases e
      have nz : Zof F1 M1 H1 D0 = none := by
        cases q : Zof F1 M1 H1 D0 with
        | none => rfl
        | some o => have := (qek_ q).1; rw [hD] at this; cases this
      have up : ∀ {Z' : Hp}, (∀ p o, Z' p = some o → p ≠ D0) → AgM K Z' F6 M6 H6 → AgM K Z' F6 M6 (upd H6 D0 (.lst (ws ++ [v]))) := fun {Z'} hz a => ⟨fun q u e => by rw [qh_ (ne e)]; exact a.sm q u e, fun q o e => by
          obtain ⟨y1, y2, y3⟩ := a.zz q o e
          exact ⟨by rw [qh_ (hz q o e)]; exact y1, y2, y3⟩, fun q o e => by
          obtain ⟨y1, y2⟩ := a.mo q o e
          have : q ≠ D0 := fun z => by rw [z, z3] at e; cases e
          exact ⟨y1, y2.same (Same.refl _) (qh_ this)⟩⟩
      have a6 := up (Z' := Zof F1 M1 H1) (fun p o e z => by rw [z, nz] at e; cases e) m6
      refine ⟨ws, z1, by rw [← rl r2]; exact h6.1, F6, clr ρ6, M6, out ++ [d], ws ++ [v], s2.trans s26, a6, qi_, z2, z3, rc (rs s26 r2) r6, ?_, h6.2⟩
      have b6 : Ag K (fun _ => none) F6 M6 H6 (clr ρ6) σ4 := qhc_ ag6 ⟨ag6.m.sm, fun p o e => (nomatch e), ag6.m.mo⟩
      have c6 : Ag K (fun _ => none) F6 M6 (upd H6 D0 (.lst (ws ++ [v]))) (clr ρ6) σ4 := by
        refine ⟨up (fun p o e => (nomatch e)) b6.m, b6.len, fun i e h => ?_, b6.di⟩
        have := b6.en i e h
        cases e with
        | un => trivial
        | sh d => exact this
        | rf p => exact this
        | ut u => exact this
        | ow ds' =>
          exfalso
          unfold clr at h
          rw [List.getElem?_map] at h
          cases q : ρ6[i]? with
          | none => rw [q] at h; cases h
          | some en => rw [q] at h; cases en <;> cases h
      have e6 := qhc_ c6 c6.m.inner
      have ce : clr (clr ρ6) = clr ρ6 := by
        unfold clr
        rw [List.map_map]
        congr 1
        funext en
        cases en <;> rfl
      rw [ce] at e6
      exact e6
  · have : i = ds.length := by omega
    subst this
    refine .inl ⟨it.stop F2 H2 s2 ag2.m.sm, ?_⟩
    have ag3 := ag1.back s2 m2
    refine k D0 ws H2 F2 out ρ1 M2 (s1.trans s2) ag3 d1 d2 d3 n5 n6 r2 (fin out ρ2 M2 h2)⟩
theorem qh5_ {K : PySem.W.Frag} {fi : WI} {fg : WG} {fc : WT} {fe : WE} {src : List (Option Nat)} {g : TG} {tc : TT} {te : TE} (hg : ∀ v σ H Q, lfG K fg v σ H Q → g v σ H Q) (hc : ∀ σ H Q, lfT K fc σ H Q → tc σ H Q) (he : ∀ σ H Q, lf K fe σ H Q → te σ H Q) :
    ∀ σ H Q, lfN K (qnf_ fi fg fc fe src) σ H Q → ql7_ (lfI K fi) g tc te src σ H Q :=
  qip_ (R := Rp K) (RL := Rps K) (fun _ => .nil) (fun s r => r.same s) (fun r => r.length) (fun r q => r.append (.cons q .nil)) hg hc he
section
variable {X : Cx} {tg elt iter : Expr} {pos : Pos} {fi : WI}
end
end L4
namespace L4
open PySem PySem.Spec PyProof.Rows L2 L3
section
variable {X : Cx} {a b c e tg elt iter : Expr} {es ifs : List Expr} {pos cpos pos' p2 : Pos} {fa fb fe : WE} {fl : WA} {fn fm : WN} {fi : WI} {fg : WG} {fc : WT} {scope : Scope} {N : List Str} {src : List (Option Nat)} {x : Str} {k : Nat}
structure JC (X : Cx) (ifs : List Expr) (f : WT) : Prop where
  h : PIfs X ifs (lfT X.K f)
theorem imC {t t' : TT} (h : PIfs X ifs t) (k : ∀ σ H Q, t' σ H Q → t σ H Q) : PIfs X ifs t' := fun pins s σ H Q I q => h pins s σ H Q I (k σ H Q q)
theorem qb0_ : JC X [] wYes := ⟨imC qpm_ qtz_⟩
theorem qio_ (h : JT X c fc) : JC X [c] fc := ⟨qqe_ h.h⟩
theorem qhs_ (N : List Str) (src : List (Option Nat)) (ok : CompOk X scope N src) (hcalm : X.calm = true) (hi : JI X tg iter fi)
    (hg : ∀ pins s2 H2 C fp, JG (qt_ X pins s2 H2 N scope C fp) tg fg) (hc : ∀ pins s2 H2 C fp, JC (qt_ X pins s2 H2 N scope C fp) ifs fc) (he : ∀ pins s2 H2 C fp, JE (qt_ X pins s2 H2 N scope C fp) elt fe)
    (hs : ∀ x, foldedSetIterable iter X.env x = pure x := by intro _; rfl) : JN X (.ListComp elt [⟨tg, iter, ifs, 0⟩] scope pos) (qnf_ fi fg fc fe src) :=
  ⟨imE (qlh_ N src ok hcalm hi.h (fun a b c d e => (hg a b c d e).h) (fun a b c d e => (hc a b c d e).h) (fun a b c d e => (he a b c d e).h) hs) (qh5_ (fun _ _ _ _ h => h) (fun _ _ _ h => h) fun _ _ _ h => h)⟩
theorem qkp_ (hN : X.N.Nodup) (hk : X.N[k]? = some x) (hx : Loc X.env.scope x) (N : List Str) (src : List (Option Nat)) (ok : CompOk X scope N src) (hcalm : X.calm = true) (hi : JI X tg iter fi)
    (hg : ∀ pins s2 H2 C fp, JG (qt_ X pins s2 H2 N scope C fp) tg fg) (hc : ∀ pins s2 H2 C fp, JC (qt_ X pins s2 H2 N scope C fp) ifs fc) (he : ∀ pins s2 H2 C fp, JE (qt_ X pins s2 H2 N scope C fp) elt fe)
    (hsw : swapsWith (.ListComp elt [⟨tg, iter, ifs, 0⟩] scope cpos) (some (.Name x pos')) pos.line X.env = pure true := by rfl)
    (hs : ∀ x, foldedSetIterable iter X.env x = pure x := by intro _; rfl) (hfn : X.fn x = true ∨ X.env.scope.names.lookup x = some .local := by first | exact .inl rfl | exact .inr rfl | assumption) :
    JS X (.Assign [.Name x pos'] (.ListComp elt [⟨tg, iter, ifs, 0⟩] scope cpos) pos) (qt4_ k (qnf_ fi fg fc fe src)) :=
  ⟨imS (qfu_ hN hk hx N src ok hcalm hi.h (fun a b c d e => (hg a b c d e).h) (fun a b c d e => (hc a b c d e).h) (fun a b c d e => (he a b c d e).h) hsw hs hfn) fun D' σ H hh => ex5 hh fun Z F ρ M E ag hf k =>
    qh5_ (fun _ _ _ _ h => h) (fun _ _ _ h => h) (fun _ _ _ h => h) σ H _ ⟨Z, F, ρ, M, _, ag, hf, fun p vs H' F' ds ρ' M' s' ag' n2 n3 n4 nz n5 r h => k.nx _ H' F' _ M' s' (ag'.setO n2 n3 n4 nz r n5) h⟩⟩
def qv4_ (fl : WA) : WN := fun ρ M P => fl ρ M fun ds ρ1 M1 => match ds with
  | [.lst xs] => P xs ρ1 M1
  | [.tup xs] => P xs ρ1 M1
  | _ => False
theorem qhy_ {p : Pos} (hg : Gl X "list") (hm : X.mg "list" = none) (ha : JA X [a] fl) (he : starEach [a] X.env = [(false, eval a X.env)] := by rfl) : JN X (.Call (.Name "list" p) [a] [] pos) (qv4_ fl) := ⟨imE (qgv_ qgx_ hg hm boot_list ha.h (by decide) (by decide) he rfl) fun σ H Q hh => ex5 hh fun Z F ρ M P ag hf k => ⟨Z, F, ρ, M, _, ag, hf, fun vs H1 F1 ds ρ1 M1 s1 ag1 r1 h1 => by
  split at h1
  · obtain ⟨v, rfl, rv⟩ := rps1 r1
    rw [Rp] at rv
    obtain ⟨q, ws, rfl, g1, g2⟩ := rv
    refine ⟨q, ws, rfl, .inl (.inl (qk_ ag1.m.sm g1)), fun p hp => ?_⟩
    obtain ⟨n1, n2, n3, n4, nz, n5, n6⟩ := newN ag1 hp g2
    exact k p ws _ F1 _ ρ1 M1 s1 n1 n2 n3 n4 nz n5 n6 h1
  · obtain ⟨v, rfl, rv⟩ := rps1 r1
    rw [Rp] at rv
    obtain ⟨q, ws, rfl, g1, g2⟩ := rv
    refine ⟨q, ws, rfl, .inr (qx_ ag1.m.sm g1), fun p hp => ?_⟩
    obtain ⟨n1, n2, n3, n4, nz, n5, n6⟩ := newN ag1 hp g2
    exact k p ws _ F1 _ ρ1 M1 s1 n1 n2 n3 n4 nz n5 n6 h1
  · exact h1.elim⟩⟩
def qvf_ : R2 := fun x y H Q => ∃ l b xs zs, x = .ref l ∧ y = .ref b ∧ Rd H l (.lst xs) ∧ Rd H b (.lst zs) ∧ xs.length + zs.length ≤ sizeLine ∧ ∀ p, H p = none → Q (.ref p) (upd H p (.lst (xs ++ zs)))
theorem qra_ : OpR X (binaryOp .Add) qvf_ := by
  intro pins s σ H x y v u Q I rx ry h
  obtain ⟨l, b, xs, zs, rfl, rfl, hH, hB, hz, q⟩ := h
  cases rx
  cases ry
  obtain ⟨z, its, n, r, e⟩ := hH.ok I.hok
  obtain ⟨z2, its2, n2, r2, e2⟩ := hB.ok I.hok
  have hl := r.length
  have hl2 := r2.length
  refine PySem.P.add_list e e2 ?_ (by rw [List.size_toArray, List.size_toArray]; omega)
  have ea : its.toArray ++ its2.toArray = (its ++ its2).toArray := by simp
  rw [ea]
  exact ⟨.ref _, _, I.lnew (t' := s.toks) (r.append r2) (by rw [List.length_append]; omega), rfl, q _ I.fresh⟩
def wCat (fa fb : WE) : WN := fun ρ M P => fa ρ M fun x ρ1 M1 => fb ρ1 M1 fun y ρ2 M2 => match x, y with
  | .lst xs, .lst ys => xs.length + ys.length ≤ sizeLine ∧ P (xs ++ ys) ρ2 M2
  | _, _ => False
theorem qin_ (ha : JE X a fa) (hb : JE X b fb) : JN X (.BinOp a .Add b pos) (wCat fa fb) := ⟨imE (qdk_ qra_ ha.h hb.h) fun σ H Q hh => ex5 hh fun Z F ρ M P ag hf k => ⟨Z, F, ρ, M, _, ag, hf, fun v H1 F1 d ρ1 M1 s1 ag1 r1 h1 => ⟨Z, F1, ρ1, M1, _, ag1, h1, fun u H2 F2 d2 ρ2 M2 s2 ag2 r2 h2 => by
  split at h2
  · rename_i xs ys
    have r1 := r1.same s2
    rw [Rp] at r1 r2
    obtain ⟨q, ws, rfl, g1, g2⟩ := r1
    obtain ⟨q', us, rfl, g3, g4⟩ := r2
    refine ⟨q, q', ws, us, rfl, rfl, qk_ ag2.m.sm g1, qk_ ag2.m.sm g3, by rw [← g2.length, ← g4.length]; exact h2.1, fun p hp => ?_⟩
    obtain ⟨n1, n2, n3, n4, nz, n5, n6⟩ := newN ag2 hp (g2.append g4)
    exact k p _ _ F2 _ ρ2 M2 (s1.trans s2) n1 n2 n3 n4 nz n5 n6 h2.2
  · exact h2.elim⟩⟩⟩
abbrev WO := Rho → Mm → (Option Int → Rho → Mm → Prop) → Prop
def lfO (K : PySem.W.Frag) (f : WO) : TO := fun σ H Q => ∃ Z F ρ M P, Ag K Z F M H ρ σ ∧ f ρ M P ∧ ∀ o H' F' ρ' M', Same F F' → Ag K Z F' M' H' ρ' σ → P o ρ' M' → Q o H'
structure JO (X : Cx) (e : Option Expr) (f : WO) : Prop where
  h : PO X e (lfO X.K f)
def wO0 : WO := fun ρ M P => P none ρ M
def wO1 (f : WE) : WO := fun ρ M P => f ρ M fun d ρ1 M1 => match d with
  | .int i => P (some i) ρ1 M1
  | _ => False
theorem imO {e : Option Expr} {t t' : TO} (h : PO X e t) (k : ∀ σ H Q, t' σ H Q → t σ H Q) : PO X e t' := fun pins s σ H Q I q => h pins s σ H Q I (k σ H Q q)
theorem qq0_ : JO X none wO0 := ⟨imO qo5_ fun σ H Q hh => ex5 hh fun Z F ρ M P ag hf k => k none H F ρ M (Same.refl _) ag hf⟩
theorem qpr_ (h : JE X e fe) : JO X (some e) (wO1 fe) := ⟨imO (qq4_ h.h) fun σ H Q hh => ex5 hh fun Z F ρ M P ag hf k => ⟨Z, F, ρ, M, _, ag, hf, fun v H1 F1 d ρ1 M1 s1 ag1 r1 h1 => by
  split at h1
  · rw [Rp] at r1
    exact ⟨_, r1, k _ H1 F1 ρ1 M1 s1 ag1 h1⟩
  · exact h1.elim⟩⟩
theorem Rps.cut {K : PySem.W.Frag} {F : Hp} {ds : List D} {vs : List V} (lo hi : Option Int) (h : Rps K F ds vs) : Rps K F (L3.cutD ds lo hi) (cutV vs lo hi) := by
  unfold L3.cutD cutV
  rw [h.length]
  exact (h.drop _).take _
def wSl (fa : WE) (fl fh : WO) : WN := fun ρ M P => fa ρ M fun x ρ1 M1 => fl ρ1 M1 fun lo ρ2 M2 => fh ρ2 M2 fun hi ρ3 M3 => match x with
  | .lst xs => P (L3.cutD xs lo hi) ρ3 M3
  | _ => False
theorem qv0_ {lo hi : Option Expr} {fl fh : WO} (ha : JE X a fa) (hl : JO X lo fl) (hh : JO X hi fh) : JN X (.Subscript a (.Slice lo hi none p2) pos) (wSl fa fl fh) := ⟨imE (qmx_ qpj_ ha.h hl.h hh.h) fun σ H Q hh => ex5 hh fun Z F ρ M P ag hf k => ⟨Z, F, ρ, M, _, ag, hf, fun v H1 F1 d ρ1 M1 s1 ag1 r1 h1 => ⟨Z, F1, ρ1, M1, _, ag1, h1, fun lo H2 F2 ρ2 M2 s2 ag2 h2 => ⟨Z, F2, ρ2, M2, _, ag2, h2, fun hi H3 F3 ρ3 M3 s3 ag3 h3 => by
  split at h3
  · rename_i xs
    have r1 := (r1.same s2).same s3
    rw [Rp] at r1
    obtain ⟨q, ws, rfl, g1, g2⟩ := r1
    refine ⟨q, ws, rfl, .inl (qk_ ag3.m.sm g1), fun p hp => ?_⟩
    obtain ⟨n1, n2, n3, n4, nz, n5, n6⟩ := newN ag3 hp (g2.cut lo hi)
    exact k p _ _ F3 _ ρ3 M3 (s1.trans (s2.trans s3)) n1 n2 n3 n4 nz n5 n6 h3
  · exact h3.elim⟩⟩⟩⟩
end
def Sub (M' M : Mm) : Prop := ∀ p o, M' p = some o → M p = some o
theorem AgM.sub {K : PySem.W.Frag} {Z F H : Hp} {M M' : Mm} (a : AgM K Z F M H) (s : Sub M' M) : AgM K Z F M' H := ⟨a.sm, fun p o h => by
  obtain ⟨z1, z2, z3⟩ := a.zz p o h
  refine ⟨z1, z2, ?_⟩
  cases q : M' p with
  | none => rfl
  | some o => exact absurd ((s p o q).symm.trans z3) (by simp), fun p o h => a.mo p o (s p o h)⟩
def qc3_ (N : List Str) (ds : List D) : Rho := ds.map Ent.sh ++ List.replicate (N.length - ds.length) .un
def rtD (q : D → Mm → Prop) : U → Mm → Prop := fun u M => match u with
  | .d d => q d M
  | _ => False
def endR (P : D → Mm → Prop) : WEnds := ⟨fun _ M' => ∃ M'', Sub M'' M' ∧ P .non M'', rtD fun d M' => ∃ M'', Sub M'' M' ∧ P d M'', fun _ _ => False, fun _ _ => False⟩
theorem qiv_ {K : PySem.W.Frag} {F : Hp} {q : D → Mm → Prop} {u : U} {v : V} {M : Mm} (h : rtD q u M) (r : RU K F u v) : ∃ d, Rp K F d v ∧ q d M := by
  cases u with
  | d x => rw [RU] at r; exact ⟨x, r, h⟩
  | adr p => exact h.elim
  | ins C ns ds => exact h.elim
  | tup us => exact h.elim
theorem qgc_ {K : PySem.W.Frag} {Z F H : Hp} {M : Mm} {ds : List D} {vs : List V} (N : List Str) (m : AgM K Z F M H) (r : Rps K F ds vs) : Ag K Z F M H (qc3_ N ds) (L2.start N vs) := by
  have hl := r.length
  refine ⟨m, by unfold qc3_ L2.start; simp [hl], fun i e h => ?_, fun i j es fs p n h1 _ _ => ?_⟩
  · unfold qc3_ at h
    by_cases hi : i < ds.length
    · rw [List.getElem?_append_left (by simpa using hi), List.getElem?_map] at h
      rw [List.getElem?_eq_getElem hi] at h
      cases h
      obtain ⟨v, h1, h2⟩ := r.get (List.getElem?_eq_getElem hi)
      refine ⟨v, ?_, h2⟩
      unfold L2.start
      rw [List.getElem?_append_left (by simpa [← hl] using hi), List.getElem?_map, h1]
      rfl
    · rw [List.getElem?_append_right (by simpa using hi), List.getElem?_replicate] at h
      split at h
      · cases h; trivial
      · cases h
  · unfold qc3_ at h1
    by_cases hi : i < ds.length
    · rw [List.getElem?_append_left (by simpa using hi), List.getElem?_map, List.getElem?_eq_getElem hi] at h1
      cases h1
    · rw [List.getElem?_append_right (by simpa using hi), List.getElem?_replicate] at h1
      split at h1 <;> cases h1
theorem _root_.L3.Def.hasW {P : Program} {w : World} {K : PySem.W.Frag} {mg : Str → Option Value} {base : Heap} {k : Nat} {x : Str} {st : Stmt} {N ps : List Str} {g : WF} (F : Def K mg x st ps) (sc : FnScope N ps (qd_ st)) (len : ∀ ds M P, g ds M P → ds.length = ps.length)
    (hbody : ∀ (f : Addr) (cdv : Value) (A : Around) (outer : List Env) (s : Shared) (H : Hp) (E : XK), Room k (A.deeper (envOfC x (qd_ st) s.heap.objs.size f cdv)) →
      ∃ G, JSs (cxOf CX0 P w K mg base N x (qd_ st) f cdv A outer s H E).nox (qz_ st) G ∧ ∀ ds M Q, g ds M Q → G (endR Q) (qc3_ N ds) M) : Has P w K mg base CX0 (k + 1) x ps (spW K g) := by
  refine F.has sc (fun vs H Q E h => ?_) fun f cdv A outer s H vs Q E hr h => ?_
  · obtain ⟨Z, F', M, ds, P, m, r, hg, _⟩ := h
    rw [← r.length]
    exact len ds M P hg
  · obtain ⟨Z, F', M, ds, P', m, r, hg, kk⟩ := h
    obtain ⟨G, hG, hh⟩ := hbody f cdv A outer s H E hr
    refine ⟨_, hG.h, Z, F', qc3_ N ds, M, endR P', qgc_ N m r, hh ds M P' hg, ⟨fun σ' H' F2 ρ' M' s' ag' ⟨M2, hs, q⟩ => kk _ H' F2 _ M2 s' (ag'.m.sub hs) (by rw [Rp]) q, fun _ _ _ _ _ _ _ q => q.elim, fun _ _ _ _ _ _ _ q => q.elim, fun v H' F2 u M' s' m' r' q => by
      obtain ⟨d, r', M2, hs, q⟩ := qiv_ (q := fun d M' => ∃ M'', Sub M'' M' ∧ P' d M'') q r'
      exact kk v H' F2 d M2 s' (m'.sub hs) r' q⟩⟩
def pur (g : List D → (D → Prop) → Prop) : WF := fun ds M P => g ds fun d => P d M
theorem Sub.refl (M : Mm) : Sub M M := fun _ _ h => h
theorem _root_.L3.Def.hasP {P : Program} {w : World} {K : PySem.W.Frag} {mg : Str → Option Value} {base : Heap} {k : Nat} {x : Str} {st : Stmt} {N ps : List Str} {g : List D → (D → Prop) → Prop} (F : Def K mg x st ps) (sc : FnScope N ps (qd_ st)) (len : ∀ ds P, g ds P → ds.length = ps.length)
    (hbody : ∀ (f : Addr) (cdv : Value) (A : Around) (outer : List Env) (s : Shared) (H : Hp) (E : XK), Room k (A.deeper (envOfC x (qd_ st) s.heap.objs.size f cdv)) →
      ∃ G, JSs (cxOf CX0 P w K mg base N x (qd_ st) f cdv A outer s H E).nox (qz_ st) G ∧ ∀ ds M Q, g ds (fun d => Q d M) → G (endR Q) (qc3_ N ds) M) : Has P w K mg base CX0 (k + 1) x ps (spW K (pur g)) :=
  F.hasW sc (fun ds M P h => len ds _ h) hbody
end L4
namespace L4
open PySem PySem.Spec PyProof.Rows L2 L3
section
variable {X : Cx} {a b c e o : Expr} {es : List Expr} {pos cpos apos np p : Pos} {fa fb fe fk : WE} {fl : WA} {x : Str}
def wAtV (i : Nat) (fk : WE) : WE := fun ρ M P => match ρ[i]? with
  | some (.ow _) => wAtO i fk ρ M P
  | some (.sh d) => fk ρ M fun k ρ1 M1 => RIx d k fun z => P z ρ1 M1
  | _ => False
theorem qm_ (i : Nat) (hk : JE X b fk) (hN : X.N[i]? = some x := by rfl) (hv : Vis X.env.scope x := by first | exact Or.inl rfl | exact Or.inr (Or.inl rfl) | exact Or.inr (Or.inr rfl)) (hs : qe8_ b := by intro _ _; rfl) (hd : (x == ("__debug__" : Str)) = false := by decide) (hcd : (x == ("__classdict__" : Str)) = false := by decide) :
    JE X (.Subscript (.Name x np) b pos) (wAtV i fk) := by
  have h1 := qvx_ (fk := fk) (qnp_ (pos := pos) qil_ (L2.pv (pos := np) i hN hv hd hcd) hk.h hs)
  have h2 := j_at (pos := pos) (jv (pos := np) i hN hv hd hcd) hk hs
  refine ⟨imE (qnp_ (pos := pos) qil_ (L2.pv (pos := np) i hN hv hd hcd) hk.h hs) fun σ H Q hh => ex5 hh fun Z F ρ M P ag hf k => ?_⟩
  unfold wAtV at hf
  split at hf
  · obtain ⟨ho, hf⟩ := hf
    obtain ⟨ds0, ho⟩ := qen_ ho
    obtain ⟨q, vs, e1, e2, e3, e4, e5, e6⟩ := qcw_ ag ho
    refine ⟨.ref q, e1, Z, F, ρ, M, _, ag, hf, fun u H2 F2 dk ρ2 M2 s2 ag2 r2 h2 => ?_⟩
    split at h2
    · rename_i ds j hd
      rw [Rp] at r2
      split at h2
      · rename_i d hn
        obtain ⟨q', us, g1, g2, g3, g4, g5, g6⟩ := qcw_ ag2 hd
        rw [e1] at g1
        cases g1
        obtain ⟨w, a1, a2⟩ := qjg_ g6 hn
        exact .inl ⟨q, us, j, w, rfl, r2, SqL.of g2, a1, k w H2 F2 d ρ2 M2 s2 ag2 a2 h2⟩
      · exact h2.elim
    · exact h2.elim
  · rename_i d hd
    obtain ⟨v, g1, g2⟩ := ag.en i _ hd
    have g1' : σ[i]? = some (some v) := by
      cases q : σ[i]? with
      | none => rw [q] at g1; cases g1
      | some o => rw [q] at g1; simp at g1; rw [g1]
    refine ⟨v, g1', Z, F, ρ, M, _, ag, hf, fun u H2 F2 dk ρ2 M2 s2 ag2 r2 h2 => ?_⟩
    exact w_ix d dk v u F2 H2 Q _ ag2.m.sm (g2.same s2) r2 h2 fun z w F' H' g rp hp => k w H' F' z ρ2 M2 (s2.trans (g.same ag2.m.sm)) (g.ag ag2) rp hp
  · exact hf.elim
def qtv_ (i : Nat) : WE := fun ρ M P => match ρ[i]? with
  | some (.ow ds) => P (.int ds.length) ρ M
  | some (.sh (.lst ds)) => P (.int ds.length) ρ M
  | some (.sh (.tup ds)) => P (.int ds.length) ρ M
  | _ => False
theorem qhe_ (i : Nat) (hg : Gl X "len") (hm : X.mg "len" = none) (hN : X.N[i]? = some x := by rfl) (hv : Vis X.env.scope x := by first | exact Or.inl rfl | exact Or.inr (Or.inl rfl) | exact Or.inr (Or.inr rfl)) (hd : (x == ("__debug__" : Str)) = false := by decide) (hcd : (x == ("__classdict__" : Str)) = false := by decide)
    (he : starEach [.Name x np] X.env = [(false, eval (.Name x np) X.env)] := by rfl) : JE X (.Call (.Name "len" p) [.Name x np] [] pos) (qtv_ i) := by
  refine ⟨imE (qdi_ (pos := pos) (p := p) qc2_ hg hm boot_len (q4_ (L2.pv (pos := np) i hN hv hd hcd) qd9_ he) (by decide) (by decide) he rfl) fun σ H Q hh => ex5 hh fun Z F ρ M P ag hf k => ?_⟩
  have sl : ∀ {v : V}, (σ[i]?).join = some v → σ[i]? = some (some v) := fun {v} g1 => by
    cases q : σ[i]? with
    | none => rw [q] at g1; cases g1
    | some o => rw [q] at g1; simp at g1; rw [g1]
  unfold qtv_ at hf
  split at hf
  · rename_i ds hd
    obtain ⟨q, vs, e1, e2, e3, e4, e5, e6⟩ := qcw_ ag hd
    refine ⟨.ref q, e1, q, vs, rfl, .inl (SqL.of e2), k _ H F _ ρ M (Same.refl _) ag ?_ hf⟩
    rw [Rp, e6.length]
  · rename_i ds hd
    obtain ⟨v, g1, g2⟩ := ag.en i _ hd
    rw [Rp] at g2
    obtain ⟨q, vs, rfl, g2, g3⟩ := g2
    refine ⟨.ref q, sl g1, q, vs, rfl, .inl (.inl (qk_ ag.m.sm g2)), k _ H F _ ρ M (Same.refl _) ag ?_ hf⟩
    rw [Rp, g3.length]
  · rename_i ds hd
    obtain ⟨v, g1, g2⟩ := ag.en i _ hd
    rw [Rp] at g2
    obtain ⟨q, vs, rfl, g2, g3⟩ := g2
    refine ⟨.ref q, sl g1, q, vs, rfl, .inr (qx_ ag.m.sm g2), k _ H F _ ρ M (Same.refl _) ag ?_ hf⟩
    rw [Rp, g3.length]
  · exact hf.elim
theorem qnx_ (hg : Gl X "len") (hm : X.mg "len" = none) (ha : JA X [a] fl) (he : starEach [a] X.env = [(false, eval a X.env)] := by rfl) : JE X (.Call (.Name "len" p) [a] [] pos) (qeo_ RLen fl) := qee_ qc2_ qu1_ hg hm boot_len ha (by decide) (by decide) he rfl
theorem qpt_ (hg : Gl X "abs") (hm : X.mg "abs" = none) (ha : JA X [a] fl) (he : starEach [a] X.env = [(false, eval a X.env)] := by rfl) : JE X (.Call (.Name "abs" p) [a] [] pos) (qeo_ RAbs fl) := qee_ qm8_ qu0_ hg hm boot_abs ha (by decide) (by decide) he rfl
theorem qoy_ (hg : Gl X "int") (hm : X.mg "int" = none) (ha : JA X [a] fl) (he : starEach [a] X.env = [(false, eval a X.env)] := by rfl) : JE X (.Call (.Name "int" p) [a] [] pos) (qeo_ RInt fl) := qiu_ qlz_ qvt_ hg hm boot_int ha (by decide) (by decide) he rfl
theorem qny_ {T : String} {y : Str} (t : D → Bool) (hk : ∀ d, PySem.W.kitOne X.K (.type (tyN d)) (.type T) = some (t d)) (hg : Gl X "isinstance") (hm : X.mg "isinstance" = none) (hgT : Gl X y) (hmT : X.mg y = none) (hb : bootBuiltins y = some (.type T)) (ha : JE X a fa) (hn : y ≠ "__name__" := by decide) (hdb : (y == ("__debug__" : Str)) = false := by decide)
    (he : starEach [a, .Name y np] X.env = [(false, eval a X.env), (false, eval (.Name y np) X.env)] := by rfl) (he2 : starEach [.Name y np] X.env = [(false, eval (.Name y np) X.env)] := by rfl) : JE X (.Call (.Name "isinstance" p) [a, .Name y np] [] pos) (wIs t fa) :=
  j_is (n := T) hk (fun {ta} hta => qdi_ (pos := pos) (p := p) qmh_ hg hm boot_isinstance (q4_ hta (q4_ (qlk_ (v := .ty T) hgT hmT hb rfl hn hdb) qd9_ he2) (by rw [he, he2])) (by decide) (by decide) (by rw [he, he2]) (by rw [he2]; rfl)) ha
theorem qh2_ (i : Nat) (he : JE X e fe) (hN : X.N[i]? = some x := by rfl) (hv : Vis X.env.scope x := by first | exact Or.inl rfl | exact Or.inr (Or.inl rfl) | exact Or.inr (Or.inr rfl)) (hd : (x == ("__debug__" : Str)) = false := by decide) (hcd : (x == ("__classdict__" : Str)) = false := by decide)
    (hbase : attributeBase (.Name x np) "append" X.env (eval (.Name x np) X.env) = eval (.Name x np) X.env := by rfl)
    (hfew : ((backTo cpos (starEach [e] X.env)).all (fun x => !x.1) && (backToKw cpos (keywordEach [] X.env)).all (fun x => x.1.isSome) && decide ([e].length + ([] : List Keyword).length + (if ([] : List Keyword).isEmpty then 0 else 1) < 30)) = true := by rfl)
    (hline : (apos.endLine == cpos.line) = true := by rfl) (hs : starEach [e] X.env = [(false, eval e X.env)] := by rfl) (hplain : (backTo cpos (starEach [] X.env)).any (·.1) = false := by rfl)
    (hsw : swapsWith (.Call (.Attribute (.Name x np) "append" apos) [e] [] cpos) none pos.line X.env = pure false := by rfl) : JS X (.Expr (.Call (.Attribute (.Name x np) "append" apos) [e] [] cpos) pos) (wApp i fe) :=
  qrf_ (qgm_ (qp0_ PySem.F.plainAttrs_list PySem.F.slot_list_append PySem.F.type_list_append qfa_ (L2.pv i hN hv hd hcd) (qa_ he qb_ hs).h hbase hfew hline hs hplain) hsw)
theorem qlo_ (i : Nat) {k : Expr} {spos : Pos} (he : JE X e fe) (hk : JE X k fk) (hN : X.N[i]? = some x := by rfl) (hv : Vis X.env.scope x := by first | exact Or.inl rfl | exact Or.inr (Or.inl rfl) | exact Or.inr (Or.inr rfl)) (hd : (x == ("__debug__" : Str)) = false := by decide) (hcd : (x == ("__classdict__" : Str)) = false := by decide)
    (ha : ∀ v, assign (.Subscript (.Name x np) k spos) X.env v = (do
      let ov ← holding [v] (eval (.Name x np) X.env)
      let iv ← holding [v, ov] (eval k X.env)
      standAt spos
      holding [v, ov, iv] (setItem ov iv v)
      release [v, ov, iv] []) := by intro _; rfl)
    (hs : swapsWithSole [.Subscript (.Name x np) k spos] e pos.line X.env = pure false := by rfl) (hw : swappedStores [.Subscript (.Name x np) k spos] e X.env = pure none := by rfl) (h1 : (assignEach [.Subscript (.Name x np) k spos] X.env).map (·.2) = [assign (.Subscript (.Name x np) k spos) X.env] := by rfl) :
    JS X (.Assign [.Subscript (.Name x np) k spos] e pos) (qof_ i fk fe) := qmu_ (qoz_ he.h (qs7_ (L2.pv i hN hv hd hcd) hk.h qna_ ha) hs hw h1)
structure Cst (K : PySem.W.Frag) (mg : Str → Option Value) (x : Str) (d : D) : Prop where
  ex : ∃ v u, mg x = some u ∧ RelV v u ∧ ∀ F, Rp K F d v
theorem qc1_ {d : D} (C : Cst X.K X.mg x d) (hg : Gl X x) (hd : (x == ("__debug__" : Str)) = false := by decide) : JE X (.Name x pos) (wC d) := by
  obtain ⟨v, u, h1, h2, h3⟩ := C.ex
  exact qew_ (qkn_ hg h1 h2 hd) h3
end
end L4
namespace L4
open PySem PySem.Spec PyProof.Rows L2 L3
def Ite (K : PySem.W.Frag) (a : Addr) : It :=
  ⟨fun i H => ∃ xs x, SqL K H a xs ∧ xs[i]? = some x, fun i H v H' => ∃ p x, v = .ref p ∧ H p = none ∧ H' = upd H p (.tup [.int i, x]) ∧ ∀ xs, SqL K H a xs → xs[i]? = some x, fun i H => ∃ xs, SqL K H a xs ∧ xs.length ≤ i⟩
def EnSt (a e it : Addr) (i : Nat) (h : Heap) : Prop := (∃ old, IsEnum h e it i old) ∧ h.IsListIter it a i
theorem qkb_ {P : Program} {w : World} {K : PySem.W.Frag} {elts : List Expr} {k : Nat} {pos : Pos} {a e it : Addr} (hne : e ≠ it) : Turn P w K (.Tuple elts k pos) (Ite K a) [e, it] e (EnSt a e it) where
  mem := by simp
  obj := fun i h st b' hb => by
    obtain ⟨⟨old, h1⟩, h2⟩ := st
    simp only [List.mem_cons, List.not_mem_nil, or_false] at hb
    rcases hb with rfl | rfl
    · exact ⟨_, h1, fun v z => by cases z⟩
    · obtain ⟨o, q, c, d⟩ := h2
      exact ⟨o, q, fun v z => by rw [d] at z; cases z⟩
  keep := fun i h h' st kp => by
    obtain ⟨⟨old, h1⟩, h2⟩ := st
    exact ⟨⟨old, kp e (by simp) _ h1⟩, h2.at fun o q => kp it (by simp) o q⟩
  item := by
    intro X hP hw hK hc i pins s σ H E I hf st hg
    subst hP hw hK
    obtain ⟨xs, x, hqa, hx⟩ := hg
    obtain ⟨ia, ra, pa, za⟩ := I.list hqa
    obtain ⟨u, hu, ru⟩ := ra.get hx
    obtain ⟨⟨old, h1⟩, h2⟩ := st
    have h20 := h2
    obtain ⟨o2, e2, _⟩ := h20
    refine wpAny_pyNext_enum_item h1 h2 pa.isList (x := u) (by simpa using hu) hne fun h' g1 g2 g3 g4 g5 => ?_
    refine ⟨_, rfl, wpAny_letOwnedTupleGo_enum g1 fun h'' k1 k2 => ?_⟩
    have nz : s.heap.objs.size ≠ e := fun z => Nat.lt_irrefl _ (by have := Heap.lt_size h1; rw [← z] at this; exact this)
    have kA : ∀ b o, b ∉ [e, it] → s.heap.get? b = some o → h''.get? b = some o := fun b o hb q => by
      simp only [List.mem_cons, List.not_mem_nil, or_false, not_or] at hb
      exact k2.extBut b o hb.1 (g5 b o hb.1 hb.2 q)
    have I2 : Inv X pins σ (upd H s.heap.objs.size (.tup [.int i, x])) { s with heap := h'', toks := s.toks + 1 } :=
      qkq_ (t' := s.toks + 1) (xs := [.int i, x]) (us := [.int i s.toks, u]) I kA hf (Nat.le_refl _) (by show 2 ≤ sizeLine; decide) (.cons ⟨_, rfl⟩ (.cons ru .nil)) ⟨_, k2.extBut _ _ nz g3, rfl, _, rfl⟩
    refine ⟨.ref s.heap.objs.size, _, I2, rfl, ⟨_, x, rfl, I.fresh, rfl, fun zs hz => by rw [I.list_inj hz hqa]; exact hx⟩, ⟨⟨_, by simpa using k1⟩, g2.at fun o q => k2.extBut _ o (Ne.symm hne) q⟩, fun b hb => ?_⟩
    rw [qh_]
    · exact (hf b hb).1
    · intro z
      simp only [List.mem_cons, List.not_mem_nil, or_false] at hb
      rcases hb with rfl | rfl
      · exact nz z.symm
      · exact Nat.ne_of_lt (Heap.lt_size e2) z
  done := by
    intro X hP hw hK hc i pins s σ H E I hf st hg
    subst hP hw hK
    obtain ⟨xs, hqa, hend⟩ := hg
    obtain ⟨ia, ra, pa, za⟩ := I.list hqa
    obtain ⟨⟨old, h1⟩, h2⟩ := st
    have la := ra.length
    refine wpAny_pyNext_enum_end (I.ok.hd hc) h1 h2 pa.isList (by simp; omega) fun h' kk => ⟨rfl, qmb_ (t' := s.toks) I (fun b o hb q => ?_) hf⟩
    simp only [List.mem_cons, List.not_mem_nil, or_false, not_or] at hb
    exact kk b o hb.2 q
  self := fun _ _ _ _ _ st h => by
    obtain ⟨⟨old, h1⟩, _⟩ := st
    exact wpAny_pyIter_enum h1 h
theorem qff_ : bootBuiltins "enumerate" = some (.type "enumerate") := by decide +kernel
section
variable {X : Cx} {a : Expr} {ta : TA} {p pos tpos : Pos} {elts : List Expr} {k : Nat} {fl : WA}
def iEnu (K : PySem.W.Frag) (ta : TA) : TI := fun σ H R => ta σ H fun vs H1 => ∃ a, vs = [.ref a] ∧ (∃ xs, SqL K H1 a xs) ∧ R (Ite K a) H1
theorem qul_ (hg : Gl X "enumerate") (hm : X.mg "enumerate" = none) (ha : PA X [a] ta) (hs : starEach [a] X.env = [(false, eval a X.env)] := by rfl) : PI X (.Tuple elts k tpos) (.Call (.Name "enumerate" p) [a] [] pos) (iEnu X.K ta) := by
  intro pins s σ H R I h
  refine Call_ (qcc_ I hg hm qff_ (PyProof.Rows.callWith_type1 (thn (ha pos pins s σ H _ I h) fun us s1 ⟨vs, H1, I1, r1, q1⟩ => ?_) hs rfl))
  obtain ⟨a, rfl, ⟨xs, hqa⟩, q⟩ := q1
  obtain ⟨u, rfl, ru⟩ := qfx_ r1
  cases ru
  obtain ⟨ia, ra, pa, za⟩ := I1.list hqa
  refine call_enumerate_list pa.isList fun h' he hi hz hk => ?_
  refine wpAny_pyIter_enum (s := { s1 with heap := h' }) he ⟨_, _, _, _, H1, rfl, I1.kept (t' := s1.toks) hk, qkb_ (Nat.succ_ne_self _), ⟨⟨_, he⟩, hi⟩, fun c hc => ?_, q⟩
  have hle : s1.heap.objs.size ≤ c := by
    simp only [List.mem_cons, List.not_mem_nil, or_false] at hc
    rcases hc with rfl | rfl
    · exact Nat.le_add_right _ 1
    · exact Nat.le_refl _
  exact I1.fpOk hle (I1.hok.fresh hle)
def enuD (n : Nat) : List D → List D
  | [] => []
  | d :: ds => .tup [.int n, d] :: enuD (n + 1) ds
theorem qej_ : ∀ (n : Nat) (ds : List D), (enuD n ds).length = ds.length
  | _, [] => rfl
  | n, d :: ds => by rw [enuD, List.length_cons, qej_, List.length_cons]
theorem qgb_ : ∀ {n : Nat} {ds : List D} {i : Nat} {d : D}, (enuD n ds)[i]? = some d → ∃ x, ds[i]? = some x ∧ d = .tup [.int ((n + i : Nat) : Int), x]
  | _, [], _, _, h => by simp [enuD] at h
  | n, d :: ds, 0, e, h => by simp [enuD] at h; exact ⟨d, rfl, h.symm⟩
  | n, d :: ds, i + 1, e, h => by
    rw [enuD, List.getElem?_cons_succ] at h
    obtain ⟨x, h1, h2⟩ := qgb_ h
    refine ⟨x, by simpa using h1, ?_⟩
    rw [h2]
    congr 4
    omega
def wIE (f : WA) : WI := fun ρ M P => f ρ M fun ds ρ1 M1 => match ds with
  | [.lst xs] => P (enuD 0 xs) ρ1 M1
  | _ => False
theorem qry_ (hg : Gl X "enumerate") (hm : X.mg "enumerate" = none) (ha : JA X [a] fl) (hs : starEach [a] X.env = [(false, eval a X.env)] := by rfl) : JI X (.Tuple elts k tpos) (.Call (.Name "enumerate" p) [a] [] pos) (wIE fl) := ⟨imI (qul_ hg hm ha.h hs) fun σ H R hh => ex5 hh fun Z F ρ M P ag hf k => ⟨Z, F, ρ, M, _, ag, hf, fun vs H1 F1 ds ρ1 M1 s1 ag1 r1 h1 => by
  split at h1
  · rename_i xs
    obtain ⟨v, rfl, rv⟩ := rps1 r1
    rw [Rp] at rv
    obtain ⟨q, vs, rfl, g1, g2⟩ := rv
    refine ⟨q, rfl, ⟨vs, .inl (qk_ ag1.m.sm g1)⟩, k _ H1 F1 _ ρ1 M1 s1 ag1 ⟨fun i F' H hi s s' => ?_, fun F' H s s' => ?_, fun i d F' H x H' hd s s' y => ?_⟩ h1⟩
    · rw [qej_, g2.length] at hi
      exact ⟨vs, _, .inl (qk_ s' (qk_ s g1)), List.getElem?_eq_getElem hi⟩
    · exact ⟨vs, .inl (qk_ s' (qk_ s g1)), by rw [qej_, g2.length]; exact Nat.le_refl _⟩
    · obtain ⟨p, w1, rfl, hp, rfl, y1⟩ := y
      obtain ⟨d1, e1, rfl⟩ := qgb_ hd
      obtain ⟨z1, f1, f2⟩ := g2.get e1
      have q1 := y1 vs (.inl (qk_ s' (qk_ s g1)))
      rw [f1] at q1
      cases q1
      have hF : F' p = none := q5_ s' hp
      have sn : Same F' (upd F' p (.tup [.int i, w1])) := Same.new hF
      refine ⟨_, .nw hp, ?_⟩
      rw [Rp]
      refine ⟨p, _, rfl, SqT.of qi_, .cons ?_ (.cons ((f2.same s).same sn) .nil)⟩
      rw [Rp, Nat.zero_add]
  · exact h1.elim⟩⟩
end
structure Bl2 (mg : Str → Option Value) : Prop extends Bl mg where
  enumerate : mg "enumerate" = none
  sum : mg "sum" = none
  min : mg "min" = none
  max : mg "max" = none
  sorted : mg "sorted" = none
  reversed : mg "reversed" = none
  dict : mg "dict" = none
end L4
namespace L4
open PySem PySem.Spec PyProof.Rows L2 L3
abbrev Pool := Mm → Addr → Prop
def spD (K : PySem.W.Frag) (Pl : Pool) (g : List D → (D → Prop) → Prop) : Sp := fun vs H Q _ => ∃ Z F M p vs' ds P, vs = .ref p :: vs' ∧ AgM K Z F M H ∧ Pl M p ∧ Rps K F ds vs' ∧ g ds P ∧ ∀ v H' F' d, Same F F' → AgM K Z F' M H' → Rp K F' d v → P d → Q v H'
def wDr (Pl : Pool) (i : Nat) (g : List D → (D → Prop) → Prop) (fl : WA) : WE := fun ρ M P => match ρ[i]? with
  | some (.rf p) => fl ρ M fun ds ρ1 M1 => Pl M1 p ∧ g ds fun d => P d ρ1 M1
  | _ => False
section
variable {X : Cx} {e : Expr} {es : List Expr} {pos np p : Pos} {fl : WA} {x y : Str} {Pl : Pool} {g : List D → (D → Prop) → Prop} {k : Nat} {ps : List Str}
theorem j_hD (i : Nat) (F : Has X.prog X.w X.K X.mg X.base CX0 k x ps (spD X.K Pl g)) (hr : Room k X.A) (hg : Gl X x) (ha : JA X es fl) (hN : X.N[i]? = some y := by rfl) (hv : Vis X.env.scope y := by first | exact Or.inl rfl | exact Or.inr (Or.inl rfl) | exact Or.inr (Or.inr rfl)) (hd : (y == ("__debug__" : Str)) = false := by decide) (hcd : (y == ("__classdict__" : Str)) = false := by decide)
    (hdb : (x == ("__debug__" : Str)) = false := by decide) (he : starEach (.Name y np :: es) X.env = (false, eval (.Name y np) X.env) :: starEach es X.env := by rfl) (hpl : (backTo pos (starEach es X.env)).any (·.1) = false := by rfl) :
    JE X (.Call (.Name x p) (.Name y np :: es) [] pos) (wDr Pl i g fl) := ⟨imE (pe_h F hr hg qhm_ (q4_ (L2.pv i hN hv hd hcd) ha.h he) hdb he hpl) fun σ H Q hh => ex5 hh fun Z F ρ M P ag hf k => by
  unfold wDr at hf
  split at hf
  · rename_i q hq
    have h0 := ag.en i _ hq
    have hs : σ[i]? = some (some (.ref q)) := by
      have h0 : (σ[i]?).join = some (.ref q) := h0
      cases z : σ[i]? with
      | none => rw [z] at h0; cases h0
      | some o => rw [z] at h0; simp at h0; rw [h0]
    refine ⟨.ref q, hs, Z, F, ρ, M, _, ag, hf, fun vs H1 F1 ds ρ1 M1 s1 ag1 r1 h1 => ?_⟩
    show spD X.K Pl g ((.ref q :: vs) ++ []) H1 Q E0
    rw [List.append_nil]
    exact ⟨_, F1, M1, q, vs, ds, _, rfl, ag1.m.inner, h1.1, r1, h1.2, fun v H' F' d s' m' r h => k v H' F' d ρ1 M1 (s1.trans s') (ag1.back s' m') r h⟩
  · exact hf.elim⟩
end
def qb4_ (N : List Str) (p : Addr) (ds : List D) : Rho := .rf p :: (ds.map Ent.sh ++ List.replicate (N.length - (ds.length + 1)) .un)
theorem qc4_ {K : PySem.W.Frag} {Z F H : Hp} {M : Mm} {p : Addr} {ds : List D} {vs : List V} (N : List Str) (m : AgM K Z F M H) (r : Rps K F ds vs) : Ag K Z F M H (qb4_ N p ds) (L2.start N (.ref p :: vs)) := by
  have hl := r.length
  have ei : L2.start N (.ref p :: vs) = some (.ref p) :: (vs.map some ++ List.replicate (N.length - (vs.length + 1)) none) := by
    unfold L2.start
    simp
  rw [ei]
  have key : ∀ {i : Nat} {e : Ent}, (ds.map Ent.sh ++ List.replicate (N.length - (ds.length + 1)) Ent.un)[i]? = some e → (e = .un) ∨ ∃ d, e = .sh d ∧ ds[i]? = some d := fun {i e} h => by
    by_cases hi : i < ds.length
    · rw [List.getElem?_append_left (by simpa using hi), List.getElem?_map, List.getElem?_eq_getElem hi] at h
      cases h
      exact .inr ⟨_, rfl, List.getElem?_eq_getElem hi⟩
    · rw [List.getElem?_append_right (by simpa using hi), List.getElem?_replicate] at h
      split at h
      · cases h; exact .inl rfl
      · cases h
  refine ⟨m, by unfold qb4_; simp [hl], fun i e h => ?_, fun i j es fs q n h1 _ _ => ?_⟩
  · cases i with
    | zero => unfold qb4_ at h; simp at h; subst h; rfl
    | succ i =>
      unfold qb4_ at h
      rw [List.getElem?_cons_succ] at h
      rcases key h with rfl | ⟨d, rfl, hd⟩
      · trivial
      · obtain ⟨v, h1, h2⟩ := r.get hd
        refine ⟨v, ?_, h2⟩
        rw [List.getElem?_cons_succ, List.getElem?_append_left (by simp [← hl]; exact (List.getElem?_eq_some_iff.mp hd).1), List.getElem?_map, h1]
        rfl
  · cases i with
    | zero => unfold qb4_ at h1; simp at h1
    | succ i =>
      unfold qb4_ at h1
      rw [List.getElem?_cons_succ] at h1
      rcases key h1 with z | ⟨d, z, _⟩
      · cases z
      · cases z
theorem _root_.L3.Def.hasD {P : Program} {w : World} {K : PySem.W.Frag} {mg : Str → Option Value} {base : Heap} {k : Nat} {x : Str} {st : Stmt} {N ps : List Str} {Pl : Pool} {g : List D → (D → Prop) → Prop} (F : Def K mg x st ps) (sc : FnScope N ps (qd_ st)) (len : ∀ ds P, g ds P → ds.length + 1 = ps.length)
    (hbody : ∀ (f : Addr) (cdv : Value) (A : Around) (outer : List Env) (s : Shared) (H : Hp) (E : XK), Room k (A.deeper (envOfC x (qd_ st) s.heap.objs.size f cdv)) →
      ∃ G, JSs (cxOf CX0 P w K mg base N x (qd_ st) f cdv A outer s H E).nox (qz_ st) G ∧ ∀ p ds M Q, Pl M p → g ds Q → G ⟨fun _ M' => Sub M M' ∧ Q .non, rtD fun d M' => Sub M M' ∧ Q d, fun _ _ => False, fun _ _ => False⟩ (qb4_ N p ds) M) : Has P w K mg base CX0 (k + 1) x ps (spD K Pl g) := by
  refine F.has sc (fun vs H Q E h => ?_) fun f cdv A outer s H vs Q E hr h => ?_
  · obtain ⟨Z, F', M, p, vs', ds, P, rfl, m, hp, r, hg, _⟩ := h
    rw [List.length_cons, ← r.length]
    exact len ds P hg
  · obtain ⟨Z, F', M, p, vs', ds, P', rfl, m, hp, r, hg, kk⟩ := h
    obtain ⟨G, hG, hh⟩ := hbody f cdv A outer s H E hr
    refine ⟨_, hG.h, Z, F', qb4_ N p ds, M, _, qc4_ N m r, hh p ds M P' hp hg, ⟨fun σ' H' F2 ρ' M' s' ag' ⟨hs, q⟩ => kk _ H' F2 _ s' (ag'.m.sub hs) (by rw [Rp]) q, fun _ _ _ _ _ _ _ q => q.elim, fun _ _ _ _ _ _ _ q => q.elim, fun v H' F2 u M' s' m' r' q => by
      obtain ⟨d, r', hs, q⟩ := qiv_ (q := fun d M' => Sub M M' ∧ P' d) q r'
      exact kk v H' F2 d s' (m'.sub hs) r' q⟩⟩
end L4
namespace L4
open PySem PySem.Spec PyProof.Rows L2 L3
section
variable {X : Cx} {a b c e : Expr} {es : List Expr} {pos cpos apos np p p2 : Pos} {fa fb fe fk : WE} {fl : WA} {fn : WN} {x : Str}
def bls : List D → Option (List Bool)
  | [] => some []
  | .bl b :: r => (bls r).map (b :: ·)
  | _ :: _ => none
theorem qma_ {K : PySem.W.Frag} {F : Hp} : ∀ {ds : List D} {bs : List Bool} {vs : List V}, bls ds = some bs → Rps K F ds vs → vs = bs.map V.bl
  | [], bs, vs, h, r => by rw [Rps] at r; subst r; cases h; rfl
  | .bl b :: ds, bs, vs, h, r => by
    rw [bls] at h
    cases q : bls ds with
    | none => rw [q] at h; cases h
    | some l =>
      rw [q] at h
      cases h
      rw [Rps] at r
      obtain ⟨v, w, rfl, h1, h2⟩ := r
      rw [Rp] at h1
      rw [h1, qma_ q h2]
      rfl
  | .non :: _, _, _, h, _ => by cases h
  | .int _ :: _, _, _, h, _ => by cases h
  | .str _ :: _, _, _, h, _ => by cases h
  | .tup _ :: _, _, _, h, _ => by cases h
  | .lst _ :: _, _, _, h, _ => by cases h
theorem qk1_ (bs : List Bool) : bls (bs.map D.bl) = some bs := by
  induction bs with
  | nil => rfl
  | cons b r ih => rw [List.map_cons, bls, ih]; rfl
def RAll (g : List Bool → Bool) : List D → (D → Prop) → Prop := fun xs P => match xs with
  | [.lst ds] => (match bls ds with
    | some bs => P (.bl (g bs))
    | none => False)
  | _ => False
theorem qti_ {g : List Bool → Bool} : CaW X (fun xs H Q => ∃ (p : Addr) (bs : List Bool), xs = [.ref p] ∧ SqL X.K H p (bs.map V.bl) ∧ Q (.bl (g bs)) H) (RAll g) := by
  intro xs vs F H Q P sm rs h k
  unfold RAll at h
  split at h
  · rename_i ds
    split at h
    · rename_i bs hb
      obtain ⟨v, rfl, r⟩ := rps1 rs
      rw [Rp] at r
      obtain ⟨q, ws, rfl, h1, h2⟩ := r
      have := qma_ hb h2
      subst this
      exact ⟨q, bs, rfl, .inl (qk_ sm h1), k _ _ F H .rf (by rw [Rp]) h⟩
    · exact h.elim
  · exact h.elim
theorem qvw_ (hg : Gl X "all") (hm : X.mg "all" = none) (hc : X.calm = true) (ha : JA X [a] fl) (he : starEach [a] X.env = [(false, eval a X.env)] := by rfl) : JE X (.Call (.Name "all" p) [a] [] pos) (qeo_ (RAll fun bs => bs.all id) fl) := qee_ (qnu_ hc) qti_ hg hm boot_all ha (by decide) (by decide) he rfl
theorem qwd_ (hg : Gl X "any") (hm : X.mg "any" = none) (hc : X.calm = true) (ha : JA X [a] fl) (he : starEach [a] X.env = [(false, eval a X.env)] := by rfl) : JE X (.Call (.Name "any" p) [a] [] pos) (qeo_ (RAll fun bs => bs.any id) fl) := qee_ (qn1_ hc) qti_ hg hm boot_any ha (by decide) (by decide) he rfl
def wLZ (fl : WA) : WN := fun ρ M P => fl ρ M fun ds ρ1 M1 => match ds with
  | [.lst xs, .lst ys] => min xs.length ys.length ≤ 10000 ∧ P (zipD xs ys) ρ1 M1
  | _ => False
theorem qft_ {p p2 pos pos2 : Pos} (hgl : Gl X "list") (hml : X.mg "list" = none) (hgz : Gl X "zip") (hmz : X.mg "zip" = none) (hc : X.calm = true) (ha : JA X [a, b] fl)
    (hs : starEach [a, b] X.env = [(false, eval a X.env), (false, eval b X.env)] := by rfl) (hs2 : starEach [b] X.env = [(false, eval b X.env)] := by rfl)
    (hs3 : starEach [.Call (.Name "zip" p2) [a, b] [] pos2] X.env = [(false, eval (.Call (.Name "zip" p2) [a, b] [] pos2) X.env)] := by rfl) :
    JN X (.Call (.Name "list" p) [.Call (.Name "zip" p2) [a, b] [] pos2] [] pos) (wLZ fl) := ⟨imE (qjr_ hgl hml hgz hmz hc ha.h hs hs2 hs3) fun σ H Q hh => ex5 hh fun Z F ρ M P ag hf k => ⟨Z, F, ρ, M, _, ag, hf, fun vs H1 F1 ds ρ1 M1 s1 ag1 r1 h1 => by
  split at h1
  · rename_i xs ys
    obtain ⟨v, u, rfl, g1, g2⟩ := rps2 r1
    rw [Rp] at g1 g2
    obtain ⟨q, ws, rfl, e1, e2⟩ := g1
    obtain ⟨q', us, rfl, e3, e4⟩ := g2
    refine ⟨q, q', ws, us, rfl, .inl (qk_ ag1.m.sm e1), .inl (qk_ ag1.m.sm e3), by rw [← e2.length, ← e4.length]; exact h1.1, fun l H' ps nl sm hl lp hps => ?_⟩
    have len : ps.length = min xs.length ys.length := by rw [lp, ← e2.length, ← e4.length]
    have inps : ∀ b, b ∈ ps → ∃ (j : Nat) (x y : V), ps[j]? = some b ∧ ws[j]? = some x ∧ us[j]? = some y ∧ H1 b = none ∧ H' b = some (.tup [x, y]) := fun b hb => by
      obtain ⟨j, hj, rfl⟩ := List.getElem_of_mem hb
      have l1 : j < ws.length := by have := e2.length; omega
      have l2 : j < us.length := by have := e4.length; omega
      have a1 := List.getElem?_eq_getElem hj
      have a2 := List.getElem?_eq_getElem l1
      have a3 := List.getElem?_eq_getElem l2
      obtain ⟨b1, b2⟩ := hps j _ _ _ a1 a2 a3
      exact ⟨j, _, _, a1, a2, a3, b1, b2⟩
    have fn1 : ∀ b, b ∈ ps → F1 b = none := fun b hb => by
      obtain ⟨_, _, _, _, _, _, b1, _⟩ := inps b hb
      exact q5_ ag1.m.sm b1
    let F' : Hp := fun b => if b ∈ ps then H' b else F1 b
    have fin : ∀ b, b ∈ ps → F' b = H' b := fun b hb => if_pos hb
    have fout : ∀ b, b ∉ ps → F' b = F1 b := fun b hb => if_neg hb
    have sF : Same F1 F' := fun b u e => by
      rw [fout b (fun hb => by rw [fn1 b hb] at e; cases e)]; exact e
    have sm' : Same F' H' := fun b u e => by
      by_cases hb : b ∈ ps
      · rw [fin b hb] at e; exact e
      · rw [fout b hb] at e; exact sm _ _ (ag1.m.sm _ _ e)
    have nl' : l ∉ ps := fun hb => by
      obtain ⟨_, _, _, _, _, _, _, b2⟩ := inps l hb
      rw [hl] at b2; cases b2
    have ag2 : Ag X.K Z F' M1 H' ρ1 σ := ag1.grow sF sm sm' fun b f1 h => by
      rw [fout b (fun hb => by obtain ⟨_, _, _, _, _, _, b1, _⟩ := inps b hb; exact h b1)]; exact f1
    have Mn : M1 l = none := by
      cases q : M1 l with
      | none => rfl
      | some o =>
        obtain ⟨_, k⟩ := ag1.m.mo l o q
        obtain ⟨u, hu⟩ := k.there
        rw [nl] at hu; cases hu
    have Zn : Z l = none := by
      cases q : Z l with
      | none => rfl
      | some o => have := (ag1.m.zz l o q).1; rw [nl] at this; cases this
    refine k l _ H' F' _ ρ1 M1 (s1.trans sF) ag2 hl (by rw [fout l nl']; exact q5_ ag1.m.sm nl) Mn Zn (fun j es h z => ?_) ?_ h1.2
    · obtain ⟨q, ws', h1', h2', _⟩ := ag1.en j _ h
      rw [z] at h1'
      cases h1'
      rw [nl] at h2'; cases h2'
    · have e2' := e2.same sF
      have e4' := e4.same sF
      have hps' : ∀ (j : Nat) p x y, ps[j]? = some p → ws[j]? = some x → us[j]? = some y → F' p = some (.tup [x, y]) := fun j p x y a1 a2 a3 => by
        rw [fin p (List.mem_of_getElem? a1)]; exact (hps j p x y a1 a2 a3).2
      clear_value F'
      clear inps fn1 fin fout hps
      have gen : ∀ (xs ys : List D) (ws us : List V) (ps : List Addr), Rps X.K F' xs ws → Rps X.K F' ys us → ps.length = min xs.length ys.length → (∀ (j : Nat) p x y, ps[j]? = some p → ws[j]? = some x → us[j]? = some y → F' p = some (.tup [x, y])) → Rps X.K F' (zipD xs ys) (ps.map V.ref) := by
        intro xs
        induction xs with
        | nil => 
          intro ys ws us ps _ _ l _
          cases ps with
          | nil => cases ys <;> exact .nil
          | cons _ _ => simp at l
        | cons x xs ih =>
          intro ys ws us ps r1 r2 l2 h
          cases ys with
          | nil =>
            cases ps with
            | nil => exact .nil
            | cons _ _ => simp at l2
          | cons y ys =>
            cases ps with
            | nil => simp at l2
            | cons p ps =>
              rw [Rps] at r1 r2
              obtain ⟨v, w, rfl, a1, a2⟩ := r1
              obtain ⟨v', w', rfl, b1, b2⟩ := r2
              rw [zipD, List.map_cons, Rps]
              refine ⟨_, _, rfl, ?_, ih ys w w' ps a2 b2 (by simp only [List.length_cons] at l2; omega) fun j => h (j + 1)⟩
              rw [Rp]
              exact ⟨p, _, rfl, SqT.of (h 0 p v v' rfl rfl rfl), by rw [Rps]; exact ⟨_, _, rfl, a1, by rw [Rps]; exact ⟨_, _, rfl, b1, by rw [Rps]⟩⟩⟩
      exact gen xs ys ws us ps e2' e4' len hps'
  · exact h1.elim⟩⟩
end
end L4
namespace L4
open PySem PySem.Spec PyProof.Rows L2 L3
section
variable {X : Cx} {e st : Expr} {pos p2 p3 p4 : Pos} {te : TE} {fe : WE}
theorem Rps.rev {K : PySem.W.Frag} {F : Hp} : ∀ {ds : List D} {vs : List V}, Rps K F ds vs → Rps K F ds.reverse vs.reverse
  | [], vs, h => by rw [Rps] at h; subst h; exact .nil
  | d :: ds, vs, h => by
    rw [Rps] at h
    obtain ⟨v, r, rfl, h1, h2⟩ := h
    rw [List.reverse_cons, List.reverse_cons]
    exact (Rps.rev h2).append (by rw [Rps]; exact ⟨_, _, rfl, h1, .nil⟩)
end
def wCut (f : WS) : WS := fun E ρ M => ∃ I : Rho → Mm → Prop, f ⟨I, E.rt, E.bk, E.ct⟩ ρ M ∧ ∀ ρ1 M1, I ρ1 M1 → E.nx ρ1 M1
theorem qi4_ {X : Cx} {st : Stmt} {f : WS} (h : JS X st f) : JS X st (wCut f) := ⟨imS h.h fun D' σ H ⟨Z, F, ρ, M, E, ag, ⟨I, hf, hI⟩, k⟩ => ⟨Z, F, ρ, M, ⟨I, E.rt, E.bk, E.ct⟩, ag, hf, ⟨fun σ' H' F' ρ' M' s ag' i => k.nx σ' H' F' ρ' M' s ag' (hI ρ' M' i), k.bk, k.ct, k.rt⟩⟩⟩
theorem qeq_ {lo : Int} {n i : Nat} {d : D} (h : (rngD lo n)[i]? = some d) : d = .int (lo + (i : Int)) ∧ i < n := by
  have hi := (List.getElem?_eq_some_iff.mp h).1
  unfold rngD at h hi
  rw [List.length_map, List.length_range] at hi
  rw [List.getElem?_map, List.getElem?_range hi] at h
  exact ⟨(Option.some.inj h).symm, hi⟩
theorem qgq_ {lo : Int} {n : Nat} : (rngD lo n).length = n := by simp [rngD]
end L4
namespace L4
open PySem PySem.Spec PyProof.Rows L2 L3
def spP (K : PySem.W.Frag) (φ : Int → HO → Prop) (c : Int) (g : List D → (D → Prop) → Prop) : Sp := fun vs H Q _ => ∃ Z F M p vs' ds P b, vs = .ref p :: vs' ∧ AgM K Z F M H ∧ M p = some (.op (φ b)) ∧ c ≤ b ∧ Rps K F ds vs' ∧ g ds P ∧ ∀ v H' F' d, Same F F' → AgM K Z F' (mset M p (.op (φ (b - c)))) H' → Rp K F' d v → P d → Q v H'
def wPl (φ : Int → HO → Prop) (c : Int) (i : Nat) (g : List D → (D → Prop) → Prop) (fl : WA) : WE := fun ρ M P => match ρ[i]? with
  | some (.rf p) => fl ρ M fun ds ρ1 M1 => ∃ b, M1 p = some (.op (φ b)) ∧ c ≤ b ∧ g ds fun d => P d ρ1 (mset M1 p (.op (φ (b - c))))
  | _ => False
section
variable {X : Cx} {e : Expr} {es : List Expr} {pos np p : Pos} {fl : WA} {x y : Str} {φ : Int → HO → Prop} {c : Int} {g : List D → (D → Prop) → Prop} {k : Nat} {ps : List Str}
theorem j_hP (i : Nat) (F : Has X.prog X.w X.K X.mg X.base CX0 k x ps (spP X.K φ c g)) (hr : Room k X.A) (hg : Gl X x) (ha : JA X es fl) (hN : X.N[i]? = some y := by rfl) (hv : Vis X.env.scope y := by first | exact Or.inl rfl | exact Or.inr (Or.inl rfl) | exact Or.inr (Or.inr rfl)) (hd : (y == ("__debug__" : Str)) = false := by decide) (hcd : (y == ("__classdict__" : Str)) = false := by decide)
    (hdb : (x == ("__debug__" : Str)) = false := by decide) (he : starEach (.Name y np :: es) X.env = (false, eval (.Name y np) X.env) :: starEach es X.env := by rfl) (hpl : (backTo pos (starEach es X.env)).any (·.1) = false := by rfl) :
    JE X (.Call (.Name x p) (.Name y np :: es) [] pos) (wPl φ c i g fl) := ⟨imE (pe_h F hr hg qhm_ (q4_ (L2.pv i hN hv hd hcd) ha.h he) hdb he hpl) fun σ H Q hh => ex5 hh fun Z F ρ M P ag hf k => by
  unfold wPl at hf
  split at hf
  · rename_i q hq
    have h0 := ag.en i _ hq
    have hs : σ[i]? = some (some (.ref q)) := by
      have h0 : (σ[i]?).join = some (.ref q) := h0
      cases z : σ[i]? with
      | none => rw [z] at h0; cases h0
      | some o => rw [z] at h0; simp at h0; rw [h0]
    refine ⟨.ref q, hs, Z, F, ρ, M, _, ag, hf, fun vs H1 F1 ds ρ1 M1 s1 ag1 r1 h1 => ?_⟩
    show spP X.K φ c g ((.ref q :: vs) ++ []) H1 Q E0
    rw [List.append_nil]
    obtain ⟨b, h2, h3, h4⟩ := h1
    exact ⟨_, F1, M1, q, vs, ds, _, b, rfl, ag1.m.inner, h2, h3, r1, h4, fun v H' F' d s' m' r h => k v H' F' d ρ1 _ (s1.trans s') (ag1.back s' m') r h⟩
  · exact hf.elim⟩
end
def Less (φ : Int → HO → Prop) : Prop := ∀ b b' o, b' ≤ b → φ b o → φ b' o
theorem AgM.less {K : PySem.W.Frag} {Z F H : Hp} {M : Mm} {p : Addr} {φ : Int → HO → Prop} {b b' : Int} (L : Less φ) (h : b' ≤ b) (a : AgM K Z F M H) (hp : M p = some (.op (φ b))) : AgM K Z F (mset M p (.op (φ b'))) H := by
  refine ⟨a.sm, fun q o e => ?_, fun q o e => ?_⟩
  · obtain ⟨a1, a2, a3⟩ := a.zz q o e
    exact ⟨a1, a2, by rw [qq_ (fun z => by rw [z, hp] at a3; cases a3)]; exact a3⟩
  · by_cases e1 : q = p
    · subst e1
      rw [qf_] at e
      cases e
      obtain ⟨f, o, ho, po⟩ := a.mo q _ hp
      exact ⟨f, o, ho, L b b' o h po⟩
    · rw [qq_ e1] at e
      exact a.mo q o e
theorem qp_ {M : Mm} {p : Addr} {o o' : MO} : mset (mset M p o) p o' = mset M p o' := by
  funext q
  by_cases h : q = p
  · subst h; rw [qf_, qf_]
  · rw [qq_ h, qq_ h, qq_ h]
theorem _root_.L3.Def.hasB {P : Program} {w : World} {K : PySem.W.Frag} {mg : Str → Option Value} {base : Heap} {k : Nat} {x : Str} {st : Stmt} {N ps : List Str} {φ : Int → HO → Prop} {c : Int} {g : List D → (D → Prop) → Prop} (L : Less φ) (F : Def K mg x st ps) (sc : FnScope N ps (qd_ st)) (len : ∀ ds P, g ds P → ds.length + 1 = ps.length)
    (hbody : ∀ (f : Addr) (cdv : Value) (A : Around) (outer : List Env) (s : Shared) (H : Hp) (E : XK), Room k (A.deeper (envOfC x (qd_ st) s.heap.objs.size f cdv)) →
      ∃ G, JSs (cxOf CX0 P w K mg base N x (qd_ st) f cdv A outer s H E).nox (qz_ st) G ∧ ∀ p ds M b Q, M p = some (.op (φ b)) → c ≤ b → g ds Q → G ⟨fun _ M' => False, rtD fun d M' => (∃ b', b - c ≤ b' ∧ Sub (mset M p (.op (φ b'))) M') ∧ Q d, fun _ _ => False, fun _ _ => False⟩ (qb4_ N p ds) M) : Has P w K mg base CX0 (k + 1) x ps (spP K φ c g) := by
  refine F.has sc (fun vs H Q E h => ?_) fun f cdv A outer s H vs Q E hr h => ?_
  · obtain ⟨Z, F', M, p, vs', ds, P, b, rfl, m, hp, hb, r, hg, _⟩ := h
    rw [List.length_cons, ← r.length]
    exact len ds P hg
  · obtain ⟨Z, F', M, p, vs', ds, P', b, rfl, m, hp, hb, r, hg, kk⟩ := h
    obtain ⟨G, hG, hh⟩ := hbody f cdv A outer s H E hr
    refine ⟨_, hG.h, Z, F', qb4_ N p ds, M, _, qc4_ N m r, hh p ds M b P' hp hb hg, ⟨fun _ _ _ _ _ _ _ q => q.elim, fun _ _ _ _ _ _ _ q => q.elim, fun _ _ _ _ _ _ _ q => q.elim, fun v H' F2 u M' s' m' r' q => ?_⟩⟩
    obtain ⟨d, r', ⟨b', h1, hs⟩, q⟩ := qiv_ (q := fun d M' => (∃ b', b - c ≤ b' ∧ Sub (mset M p (.op (φ b'))) M') ∧ P' d) q r'
    have a1 := m'.sub hs
    have a2 := AgM.less (b' := b - c) L h1 a1 qf_
    rw [qp_] at a2
    exact kk v H' F2 d s' a2 r' q
end L4
namespace L4
open PySem PySem.Spec PyProof.Rows L2 L3
mutual
def noL : D → Bool
  | .lst _ => false
  | .tup ds => noLs ds
  | .non => true
  | .bl _ => true
  | .int _ => true
  | .str _ => true
def noLs : List D → Bool
  | [] => true
  | d :: ds => noL d && noLs ds
end
mutual
def Own (M : Mm) : D → U → List Addr → Prop
  | .lst ds, u, A => ∃ p us B, u = .adr p ∧ M p = some (.own us) ∧ A = p :: B ∧ Owns M ds us B
  | .tup ds, u, A => (u = .d (.tup ds) ∧ noLs ds = true ∧ A = []) ∨ (noLs ds = false ∧ ∃ us, u = .tup us ∧ Owns M ds us A)
  | .non, u, A => u = .d .non ∧ A = []
  | .bl b, u, A => u = .d (.bl b) ∧ A = []
  | .int i, u, A => u = .d (.int i) ∧ A = []
  | .str x, u, A => u = .d (.str x) ∧ A = []
def Owns (M : Mm) : List D → List U → List Addr → Prop
  | [], us, A => us = [] ∧ A = []
  | d :: ds, us, A => ∃ u r B C, us = u :: r ∧ A = B ++ C ∧ Own M d u B ∧ Owns M ds r C
end
theorem Own.leaf {M : Mm} {d : D} (h : noL d = true) : Own M d (.d d) [] := by
  cases d with
  | lst ds => rw [noL] at h; cases h
  | tup ds => rw [noL] at h; rw [Own]; exact .inl ⟨rfl, h, rfl⟩
  | non => rw [Own]; exact ⟨rfl, rfl⟩
  | bl b => rw [Own]; exact ⟨rfl, rfl⟩
  | int b => rw [Own]; exact ⟨rfl, rfl⟩
  | str b => rw [Own]; exact ⟨rfl, rfl⟩
mutual
theorem Own.mono {M M1 : Mm} : ∀ {d : D} {u : U} {A : List Addr}, (∀ p ∈ A, M1 p = M p) → Own M d u A → Own M1 d u A
  | .lst ds, u, A, e, h => by
    rw [Own] at h ⊢
    obtain ⟨p, us, B, h1, h2, h3, h4⟩ := h
    subst h3
    exact ⟨p, us, B, h1, (e p (by simp)).trans h2, rfl, Owns.mono (fun q hq => e q (by simp [hq])) h4⟩
  | .tup ds, u, A, e, h => by
    rw [Own] at h ⊢
    rcases h with h | ⟨h0, us, h1, h2⟩
    · exact .inl h
    · exact .inr ⟨h0, us, h1, Owns.mono e h2⟩
  | .non, u, A, e, h => by rw [Own] at h ⊢; exact h
  | .bl b, u, A, e, h => by rw [Own] at h ⊢; exact h
  | .int b, u, A, e, h => by rw [Own] at h ⊢; exact h
  | .str b, u, A, e, h => by rw [Own] at h ⊢; exact h
theorem Owns.mono {M M1 : Mm} : ∀ {d : List D} {u : List U} {A : List Addr}, (∀ p ∈ A, M1 p = M p) → Owns M d u A → Owns M1 d u A
  | [], u, A, e, h => by rw [Owns] at h ⊢; exact h
  | d :: ds, u, A, e, h => by
    rw [Owns] at h ⊢
    obtain ⟨x, r, B, C, h1, h2, h3, h4⟩ := h
    subst h2
    exact ⟨x, r, B, C, h1, rfl, Own.mono (fun q hq => e q (by simp [hq])) h3, Owns.mono (fun q hq => e q (by simp [hq])) h4⟩
end
mutual
theorem Own.there {M : Mm} : ∀ {d : D} {u : U} {A : List Addr}, Own M d u A → ∀ p ∈ A, ∃ us, M p = some (.own us)
  | .lst ds, u, A, h, q, hq => by
    rw [Own] at h
    obtain ⟨p, us, B, h1, h2, h3, h4⟩ := h
    subst h3
    rcases List.mem_cons.mp hq with rfl | hq
    · exact ⟨us, h2⟩
    · exact Owns.there h4 q hq
  | .tup ds, u, A, h, q, hq => by
    rw [Own] at h
    rcases h with ⟨_, _, h⟩ | ⟨_, us, h1, h2⟩
    · subst h; cases hq
    · exact Owns.there h2 q hq
  | .non, u, A, h, q, hq => by rw [Own] at h; rw [h.2] at hq; cases hq
  | .bl b, u, A, h, q, hq => by rw [Own] at h; rw [h.2] at hq; cases hq
  | .int b, u, A, h, q, hq => by rw [Own] at h; rw [h.2] at hq; cases hq
  | .str b, u, A, h, q, hq => by rw [Own] at h; rw [h.2] at hq; cases hq
theorem Owns.there {M : Mm} : ∀ {d : List D} {u : List U} {A : List Addr}, Owns M d u A → ∀ p ∈ A, ∃ us, M p = some (.own us)
  | [], u, A, h, q, hq => by rw [Owns] at h; rw [h.2] at hq; cases hq
  | d :: ds, u, A, h, q, hq => by
    rw [Owns] at h
    obtain ⟨x, r, B, C, h1, h2, h3, h4⟩ := h
    subst h2
    rcases List.mem_append.mp hq with hq | hq
    · exact Own.there h3 q hq
    · exact Owns.there h4 q hq
end
section
variable {K : PySem.W.Frag} {Z F G H : Hp} {M : Mm}
mutual
theorem Own.rp (a : AgM K Z F M H) (s : Same F G) : ∀ {d : D} {u : U} {A : List Addr} {v : V}, Own M d u A → (∀ q ∈ A, G q = H q) → RU K F u v → Rp K G d v
  | .lst ds, u, A, v, h, hA, r => by
    rw [Own] at h
    obtain ⟨p, us, B, rfl, h2, rfl, h4⟩ := h
    rw [RU] at r
    obtain ⟨_, vs, g1, g2⟩ := a.mo p _ h2
    rw [Rp]
    exact ⟨p, vs, r, .inl ((hA p (by simp)).trans g1), Owns.rps a s h4 (fun q hq => hA q (by simp [hq])) g2⟩
  | .tup ds, u, A, v, h, hA, r => by
    rw [Own] at h
    rcases h with ⟨rfl, _, _⟩ | ⟨_, us, rfl, h2⟩
    · rw [RU] at r; exact Rp.same s r
    · rw [RU] at r
      obtain ⟨b, vs, r1, r2, r3⟩ := r
      rw [Rp]
      exact ⟨b, vs, r1, qx_ s r2, Owns.rps a s h2 hA r3⟩
  | .non, u, A, v, h, hA, r => by rw [Own] at h; rw [h.1, RU] at r; exact Rp.same s r
  | .bl b, u, A, v, h, hA, r => by rw [Own] at h; rw [h.1, RU] at r; exact Rp.same s r
  | .int b, u, A, v, h, hA, r => by rw [Own] at h; rw [h.1, RU] at r; exact Rp.same s r
  | .str b, u, A, v, h, hA, r => by rw [Own] at h; rw [h.1, RU] at r; exact Rp.same s r
theorem Owns.rps (a : AgM K Z F M H) (s : Same F G) : ∀ {d : List D} {u : List U} {A : List Addr} {v : List V}, Owns M d u A → (∀ q ∈ A, G q = H q) → RUs K F u v → Rps K G d v
  | [], u, A, v, h, hA, r => by rw [Owns] at h; rw [h.1, RUs] at r; rw [Rps]; exact r
  | d :: ds, u, A, v, h, hA, r => by
    rw [Owns] at h
    obtain ⟨x, t, B, C, rfl, rfl, h3, h4⟩ := h
    rw [RUs] at r
    obtain ⟨y, z, r1, r2, r3⟩ := r
    rw [Rps]
    exact ⟨y, z, r1, Own.rp a s h3 (fun q hq => hA q (by simp [hq])) r2, Owns.rps a s h4 (fun q hq => hA q (by simp [hq])) r3⟩
end
end
theorem Owns.nil {M : Mm} : Owns M [] [] [] := by rw [Owns]; exact ⟨rfl, rfl⟩
theorem Owns.cons {M : Mm} {d : D} {u : U} {ds : List D} {us : List U} {A B : List Addr} (h : Own M d u A) (k : Owns M ds us B) : Owns M (d :: ds) (u :: us) (A ++ B) := by
  rw [Owns]; exact ⟨u, us, A, B, rfl, rfl, h, k⟩
theorem Owns.append {M : Mm} : ∀ {ds es : List D} {us ws : List U} {A B : List Addr}, Owns M ds us A → Owns M es ws B → Owns M (ds ++ es) (us ++ ws) (A ++ B)
  | [], es, us, ws, A, B, h, k => by rw [Owns] at h; rw [h.1, h.2]; exact k
  | d :: ds, es, us, ws, A, B, h, k => by
    rw [Owns] at h
    obtain ⟨x, r, A1, C, rfl, rfl, h3, h4⟩ := h
    rw [List.cons_append, List.cons_append, List.append_assoc]
    exact .cons h3 (Owns.append h4 k)
theorem Owns.leaves {M : Mm} : ∀ {ds : List D}, noLs ds = true → Owns M ds (ds.map U.d) []
  | [], _ => .nil
  | d :: ds, h => by
    rw [noLs, Bool.and_eq_true] at h
    exact Owns.cons (A := []) (B := []) (.leaf h.1) (Owns.leaves h.2)
theorem Own.leaf_inv {M : Mm} {d : D} {u : U} {A : List Addr} (n : noL d = true) (h : Own M d u A) : u = .d d ∧ A = [] := by
  cases d with
  | lst ds => rw [noL] at n; cases n
  | tup ds =>
    rw [Own] at h
    rw [noL] at n
    rcases h with ⟨h1, _, h2⟩ | ⟨h1, _⟩
    · exact ⟨h1, h2⟩
    · rw [n] at h1; cases h1
  | non => rw [Own] at h; exact h
  | bl b => rw [Own] at h; exact h
  | int b => rw [Own] at h; exact h
  | str b => rw [Own] at h; exact h
theorem Owns.leaves_inv {M : Mm} : ∀ {ds : List D} {us : List U} {A : List Addr}, noLs ds = true → Owns M ds us A → us = ds.map U.d ∧ A = []
  | [], us, A, _, h => by rw [Owns] at h; exact h
  | d :: ds, us, A, n, h => by
    rw [noLs, Bool.and_eq_true] at n
    rw [Owns] at h
    obtain ⟨x, r, B, C, rfl, rfl, h3, h4⟩ := h
    obtain ⟨rfl, rfl⟩ := h3.leaf_inv n.1
    obtain ⟨rfl, rfl⟩ := Owns.leaves_inv n.2 h4
    exact ⟨rfl, rfl⟩
theorem Own.flat {M : Mm} {ds : List D} {u : U} {A : List Addr} (n : noLs ds = true) (h : Own M (.lst ds) u A) : ∃ p, u = .adr p ∧ M p = some (.own (ds.map U.d)) ∧ A = [p] := by
  rw [Own] at h
  obtain ⟨p, us, B, rfl, e, rfl, k⟩ := h
  obtain ⟨rfl, rfl⟩ := k.leaves_inv n
  exact ⟨p, rfl, e, rfl⟩
theorem Own.mkflat {M : Mm} {ds : List D} {p : Addr} (n : noLs ds = true) (h : M p = some (.own (ds.map U.d))) : Own M (.lst ds) (.adr p) [p] := by
  rw [Own]; exact ⟨p, _, [], rfl, h, rfl, .leaves n⟩
theorem Owns.length {M : Mm} : ∀ {ds : List D} {us : List U} {A : List Addr}, Owns M ds us A → ds.length = us.length
  | [], us, A, h => by rw [Owns] at h; rw [h.1]; rfl
  | d :: ds, us, A, h => by
    rw [Owns] at h
    obtain ⟨x, r, B, C, rfl, _, _, h4⟩ := h
    rw [List.length_cons, List.length_cons, Owns.length h4]
def Fresh (M M' : Mm) (d : D) (u : U) : Prop := ∃ A, Own M' d u A ∧ A.Nodup ∧ (∀ p ∈ A, M p = none) ∧ ∀ q, q ∉ A → M' q = M q
def Freshs (M M' : Mm) (ds : List D) (us : List U) : Prop := ∃ A, Owns M' ds us A ∧ A.Nodup ∧ (∀ p ∈ A, M p = none) ∧ ∀ q, q ∉ A → M' q = M q
section
variable {M M1 M2 : Mm} {d : D} {u : U} {ds es : List D} {us ws : List U} {p : Addr}
theorem Fresh.leaf (h : noL d = true) : Fresh M M d (.d d) := ⟨[], .leaf h, .nil, fun _ h => (nomatch h), fun _ _ => rfl⟩
theorem Freshs.nil : Freshs M M [] [] := ⟨[], .nil, .nil, fun _ h => (nomatch h), fun _ _ => rfl⟩
theorem Freshs.leaves (h : noLs ds = true) : Freshs M M ds (ds.map U.d) := ⟨[], .leaves h, .nil, fun _ h => (nomatch h), fun _ _ => rfl⟩
theorem Freshs.append (h : Freshs M M1 ds us) (k : Freshs M1 M2 es ws) : Freshs M M2 (ds ++ es) (us ++ ws) := by
  obtain ⟨A, h1, h2, h3, h4⟩ := h
  obtain ⟨B, k1, k2, k3, k4⟩ := k
  have dj : ∀ q ∈ A, q ∉ B := fun q hq hb => by
    obtain ⟨_, e⟩ := h1.there q hq
    rw [k3 q hb] at e; cases e
  refine ⟨A ++ B, .append (h1.mono fun q hq => k4 q (dj q hq)) k1, List.nodup_append.mpr ⟨h2, k2, fun a ha b hb e => dj a ha (e ▸ hb)⟩, fun q hq => ?_, fun q hq => ?_⟩
  · rcases List.mem_append.mp hq with hq | hq
    · exact h3 q hq
    · by_cases z : q ∈ A
      · exact h3 q z
      · rw [← h4 q z]; exact k3 q hq
  · rw [List.mem_append, not_or] at hq
    rw [k4 q hq.2, h4 q hq.1]
theorem Freshs.one (h : Fresh M M1 d u) : Freshs M M1 [d] [u] := by
  obtain ⟨A, h1, h2, h3, h4⟩ := h
  exact ⟨A ++ [], .cons h1 .nil, by rw [List.append_nil]; exact h2, by rw [List.append_nil]; exact h3, by rw [List.append_nil]; exact h4⟩
theorem Freshs.snoc (h : Freshs M M1 ds us) (k : Fresh M1 M2 d u) : Freshs M M2 (ds ++ [d]) (us ++ [u]) := h.append (.one k)
theorem Freshs.cons (h : Fresh M M1 d u) (k : Freshs M1 M2 ds us) : Freshs M M2 (d :: ds) (u :: us) := (Freshs.one h).append k
theorem Fresh.tup (h : Freshs M M1 ds us) (n : noLs ds = false := by rfl) : Fresh M M1 (.tup ds) (.tup us) := by
  obtain ⟨A, h1, h2⟩ := h
  exact ⟨A, by rw [Own]; exact .inr ⟨n, us, rfl, h1⟩, h2⟩
theorem Fresh.new (h : Freshs M M1 ds us) (hp : M1 p = none) : Fresh M (mset M1 p (.own us)) (.lst ds) (.adr p) := by
  obtain ⟨A, h1, h2, h3, h4⟩ := h
  have np : p ∉ A := fun hq => by
    obtain ⟨_, e⟩ := h1.there p hq
    rw [hp] at e; cases e
  refine ⟨p :: A, by rw [Own]; exact ⟨p, us, A, rfl, qf_, rfl, h1.mono fun q hq => qq_ fun z => np (z ▸ hq)⟩, List.nodup_cons.mpr ⟨np, h2⟩, fun q hq => ?_, fun q hq => ?_⟩
  · rcases List.mem_cons.mp hq with rfl | hq
    · rw [← h4 q np]; exact hp
    · exact h3 q hq
  · rw [List.mem_cons, not_or] at hq
    rw [qq_ hq.1, h4 q hq.2]
theorem Fresh.newD (h : noLs ds = true) (hp : M p = none) : Fresh M (mset M p (.own (ds.map U.d))) (.lst ds) (.adr p) := .new (.leaves h) hp
theorem Fresh.push (h : Fresh M M1 (.lst ds) (.adr p)) (k : Fresh M1 M2 d u) (e : M2 p = some (.own us)) : Fresh M (mset M2 p (.own (us ++ [u]))) (.lst (ds ++ [d])) (.adr p) := by
  obtain ⟨A, h1, h2, h3, h4⟩ := h
  obtain ⟨B, k1, k2, k3, k4⟩ := k
  rw [Own] at h1
  obtain ⟨p', us', A', e0, e1, rfl, e2⟩ := h1
  cases e0
  have dj : ∀ q ∈ p :: A', q ∉ B := fun q hq hb => by
    have : Own M1 (.lst ds) (.adr p) (p :: A') := by rw [Own]; exact ⟨p, us', A', rfl, e1, rfl, e2⟩
    obtain ⟨_, e⟩ := this.there q hq
    rw [k3 q hb] at e; cases e
  have np := (List.nodup_cons.mp h2).1
  have eu : us' = us := by
    have := k4 p (dj p (by simp))
    rw [e, e1] at this
    cases this; rfl
  subst eu
  refine ⟨p :: (A' ++ (B ++ [])), by
    rw [Own]
    refine ⟨p, _, _, rfl, qf_, rfl, .append (e2.mono fun q hq => ?_) (.cons (k1.mono fun q hq => ?_) .nil)⟩
    · rw [qq_ (show q ≠ p from fun z => np (z ▸ hq)), k4 q (dj q (by simp [hq]))]
    · exact qq_ fun z => dj p (by simp) (z ▸ hq), ?_, fun q hq => ?_, fun q hq => ?_⟩
  · rw [List.append_nil, ← List.cons_append]
    exact List.nodup_append.mpr ⟨h2, k2, fun a ha b hb e => dj a ha (e ▸ hb)⟩
  · rw [List.append_nil, ← List.cons_append] at hq
    rcases List.mem_append.mp hq with hq | hq
    · exact h3 q hq
    · by_cases z : q ∈ p :: A'
      · exact h3 q z
      · rw [← h4 q z]; exact k3 q hq
  · rw [List.append_nil, ← List.cons_append, List.mem_append, not_or] at hq
    rw [qq_ (fun z => hq.1 (by simp [z])), k4 q hq.2, h4 q hq.1]
theorem Fresh.own_of (h : Fresh M M1 (.lst ds) (.adr p)) : ∃ us, M1 p = some (.own us) ∧ us.length = ds.length ∧ ∀ M2 d u, Fresh M1 M2 d u → M2 p = some (.own us) := by
  obtain ⟨A, h1, h2, h3, h4⟩ := h
  rw [Own] at h1
  obtain ⟨p', us', A', e0, e1, rfl, e2⟩ := h1
  cases e0
  refine ⟨us', e1, e2.length.symm, fun M2 d u k => ?_⟩
  obtain ⟨B, k1, k2, k3, k4⟩ := k
  rw [k4 p fun hb => by rw [k3 p hb] at e1; cases e1]
  exact e1
theorem qb2_ {α : Type} {f : α → D} (h : ∀ a, noL (f a) = true) : ∀ {l : List α}, noLs (l.map f) = true
  | [] => rfl
  | x :: l => by rw [List.map_cons, noLs, h, qb2_ h]; rfl
end
end L4
namespace L4
open PySem PySem.Spec PyProof.Rows L2 L3
abbrev WU := Rho → Mm → (U → Rho → Mm → Prop) → Prop
abbrev WUA := Rho → Mm → (List U → Rho → Mm → Prop) → Prop
def lfU (K : PySem.W.Frag) (f : WU) : TE := fun σ H Q => ∃ Z F ρ M P, Ag K Z F M H ρ σ ∧ f ρ M P ∧ ∀ v H' F' u ρ' M', Same F F' → Ag K Z F' M' H' ρ' σ → RU K F' u v → P u ρ' M' → Q v H'
def lfUA (K : PySem.W.Frag) (f : WUA) : TA := fun σ H Q => ∃ Z F ρ M P, Ag K Z F M H ρ σ ∧ f ρ M P ∧ ∀ vs H' F' us ρ' M', Same F F' → Ag K Z F' M' H' ρ' σ → RUs K F' us vs → P us ρ' M' → Q vs H'
def lfNU (K : PySem.W.Frag) (f : WUA) : TE := fun σ H Q => ∃ Z F ρ M P, Ag K Z F M H ρ σ ∧ f ρ M P ∧ ∀ p vs H' F' us ρ' M', Same F F' → Ag K Z F' M' H' ρ' σ → H' p = some (.lst vs) → F' p = none → M' p = none → Z p = none → (∀ (j : Nat) (es : List D), ρ'[j]? = some (.ow es) → σ[j]? ≠ some (some (.ref p))) → RUs K F' us vs → P us ρ' M' → Q (.ref p) H'
structure JU (X : Cx) (e : Expr) (f : WU) : Prop where
  h : PE X e (lfU X.K f)
structure JUA (X : Cx) (es : List Expr) (f : WUA) : Prop where
  h : PA X es (lfUA X.K f)
structure JNU (X : Cx) (e : Expr) (f : WUA) : Prop where
  h : PE X e (lfNU X.K f)
section
variable {K : PySem.W.Frag} {Z F H : Hp} {M : Mm} {ρ : Rho} {σ : L2.St} {p : Addr}
theorem Ag.adopt {vs : List V} {us : List U} (ag : Ag K Z F M H ρ σ) (n2 : H p = some (.lst vs)) (n3 : F p = none) (n4 : M p = none) (nz : Z p = none) (n5 : ∀ (j : Nat) (es : List D), ρ[j]? = some (.ow es) → σ[j]? ≠ some (some (.ref p))) (r : RUs K F us vs) : Ag K Z F (mset M p (.own us)) H ρ σ := by
  refine ⟨⟨ag.m.sm, fun q o e => ?_, fun q o e => ?_⟩, ag.len, fun i e h => ?_, ag.di⟩
  · obtain ⟨z1, z2, z3⟩ := ag.m.zz q o e
    exact ⟨z1, z2, by rw [qq_ (fun z => by rw [z, nz] at e; cases e)]; exact z3⟩
  · by_cases z : q = p
    · subst z
      rw [qf_] at e
      cases e
      exact ⟨n3, vs, n2, r⟩
    · rw [qq_ z] at e; exact ag.m.mo q o e
  · have := ag.en i e h
    cases e with
    | un => trivial
    | sh d => exact this
    | rf p => exact this
    | ut u => exact this
    | ow ds =>
      obtain ⟨q, ws, h1, h2, h3, h4, h6, h5⟩ := this
      have hne : q ≠ p := fun z => by
        subst z
        have hj' : σ[i]? = some (some (.ref q)) := by
          cases y : σ[i]? with
          | none => rw [y] at h1; cases h1
          | some o => rw [y] at h1; simp at h1; rw [h1]
        exact n5 i ds h hj'
      exact ⟨q, ws, h1, h2, h3, by rw [qq_ hne]; exact h4, h6, h5⟩
theorem Ag.chgM {us us' : List U} {ws : List V} (ag : Ag K Z F M H ρ σ) (hp : M p = some (.own us)) (r : RUs K F us' ws) : Ag K Z F (mset M p (.own us')) (upd H p (.lst ws)) ρ σ := by
  obtain ⟨f0, vs, h0, r0⟩ := ag.m.mo p _ hp
  have ne : ∀ {q : Addr} {u : HO}, F q = some u → q ≠ p := fun e z => by rw [z, f0] at e; cases e
  refine ⟨⟨fun q u e => by rw [qh_ (ne e)]; exact ag.m.sm q u e, fun q o e => ?_, fun q o e => ?_⟩, ag.len, fun i e h => ?_, ag.di⟩
  · obtain ⟨z1, z2, z3⟩ := ag.m.zz q o e
    have : q ≠ p := fun z => by rw [z, hp] at z3; cases z3
    exact ⟨by rw [qh_ this]; exact z1, z2, by rw [qq_ this]; exact z3⟩
  · by_cases z : q = p
    · subst z
      rw [qf_] at e
      cases e
      exact ⟨f0, ws, qi_, r⟩
    · rw [qq_ z] at e
      obtain ⟨z1, z2⟩ := ag.m.mo q o e
      exact ⟨z1, z2.same (Same.refl _) (qh_ z)⟩
  · have := ag.en i e h
    cases e with
    | un => trivial
    | sh d => exact this
    | rf p => exact this
    | ut u => exact this
    | ow ds =>
      obtain ⟨q, ws', h1, h2, h3, h4, h6, h5⟩ := this
      have hne : q ≠ p := fun z => by rw [z, hp] at h4; cases h4
      exact ⟨q, ws', h1, by rw [qh_ hne]; exact h2, h3, by rw [qq_ hne]; exact h4, h6, h5⟩
end
theorem qcy_ {σ : L2.St} {i : Nat} {v : V} (g1 : (σ[i]?).join = some v) : σ[i]? = some (some v) := by
  cases q : σ[i]? with
  | none => rw [q] at g1; cases g1
  | some o => rw [q] at g1; simp at g1; rw [g1]
section
variable {X : Cx} {a b c e : Expr} {es rest : List Expr} {pos p p2 : Pos} {fa fb fe : WE} {ft : WT} {fl : WA} {fn : WN} {ga gb ge : WU} {gl : WUA} {st : Stmt} {sts : List Stmt} {fs : WS} {x : Str}
def uD (f : WE) : WU := fun ρ M P => f ρ M fun d ρ1 M1 => P (.d d) ρ1 M1
theorem ju_d (h : JE X e fe) : JU X e (uD fe) := ⟨imE h.h fun σ H Q hh => ex5 hh fun Z F ρ M P ag hf k => ⟨Z, F, ρ, M, _, ag, hf, fun v H' F' d ρ' M' s' ag' r h => k v H' F' _ ρ' M' s' ag' (by rw [RU]; exact r) h⟩⟩
def uNu (f : WN) : WUA := fun ρ M P => f ρ M fun ds ρ1 M1 => P (ds.map U.d) ρ1 M1
theorem qla_ (h : JN X e fn) : JNU X e (uNu fn) := ⟨imE h.h fun σ H Q hh => ex5 hh fun Z F ρ M P ag hf k => ⟨Z, F, ρ, M, _, ag, hf, fun p vs H' F' ds ρ' M' s' ag' n2 n3 n4 nz n5 r h => k p vs H' F' _ ρ' M' s' ag' n2 n3 n4 nz n5 (.ofD r) h⟩⟩
def uNew (f : WUA) : WU := fun ρ M P => f ρ M fun us ρ1 M1 => ∀ p, M1 p = none → P (.adr p) ρ1 (mset M1 p (.own us))
theorem qfj_ (h : JNU X e gl) : JU X e (uNew gl) := ⟨imE h.h fun σ H Q hh => ex5 hh fun Z F ρ M P ag hf k => ⟨Z, F, ρ, M, _, ag, hf, fun p vs H' F' us ρ' M' s' ag' n2 n3 n4 nz n5 r h => k _ H' F' _ ρ' _ s' (ag'.adopt n2 n3 n4 nz n5 r) (by rw [RU]) (h p n4)⟩⟩
def uV (i : Nat) : WU := fun ρ M P => match ρ[i]? with
  | some (.sh d) => P (.d d) ρ M
  | some (.ut u) => P u ρ M
  | some (.rf p) => P (.adr p) ρ M
  | some (.ow ds) => ∀ p, M p = none → P (.adr p) (ρ.set i (.rf p)) (mset M p (.own (ds.map U.d)))
  | _ => False
theorem ju_v (i : Nat) {x : Str} (hN : X.N[i]? = some x := by rfl) (hv : Vis X.env.scope x := by first | exact Or.inl rfl | exact Or.inr (Or.inl rfl) | exact Or.inr (Or.inr rfl)) (hd : (x == ("__debug__" : Str)) = false := by decide) (hcd : (x == ("__classdict__" : Str)) = false := by decide) : JU X (.Name x pos) (uV i) := ⟨imE (L2.pv i hN hv hd hcd) fun σ H Q hh => ex5 hh fun Z F ρ M P ag hf k => by
  unfold uV at hf
  split at hf
  · rename_i d hd
    obtain ⟨v, h1, h2⟩ := ag.en i _ hd
    exact ⟨v, qcy_ h1, k v H F _ ρ M (Same.refl _) ag (by rw [RU]; exact h2) hf⟩
  · rename_i u hd
    obtain ⟨v, h1, h2⟩ := ag.en i _ hd
    exact ⟨v, qcy_ h1, k v H F _ ρ M (Same.refl _) ag h2 hf⟩
  · rename_i q hd
    have h1 : (σ[i]?).join = some (.ref q) := ag.en i _ hd
    exact ⟨.ref q, qcy_ h1, k _ H F _ ρ M (Same.refl _) ag (by rw [RU]) hf⟩
  · rename_i ds hd
    obtain ⟨q, vs, h1, h2, h3, h4, h5, h6⟩ := qcw_ ag hd
    refine ⟨.ref q, h1, ?_⟩
    have hi : i < ρ.length := (List.getElem?_eq_some_iff.mp hd).1
    have ag1 : Ag X.K Z F M H (ρ.set i (.rf q)) σ := by
      have := ag.put (i := i) (e := .rf q) (o := some (.ref q)) rfl fun _ _ z => nomatch z
      rw [qgy_ h1] at this
      exact this
    refine k _ H F _ _ _ (Same.refl _) (ag1.adopt h2 h3 h4 h5 (fun j es hj z => ?_) (.ofD h6)) (by rw [RU]) (hf q h4)
    by_cases hji : j = i
    · subst hji; rw [List.getElem?_set_self hi] at hj; cases hj
    · rw [List.getElem?_set_ne (Ne.symm hji)] at hj
      exact ag.di i j ds es q (Ne.symm hji) hd hj h1 z
  · exact hf.elim⟩
def uNil : WUA := fun ρ M P => P [] ρ M
def qu5_ (f : WU) (g : WUA) : WUA := fun ρ M P => f ρ M fun d ρ1 M1 => g ρ1 M1 fun ds ρ2 M2 => P (d :: ds) ρ2 M2
theorem qf2_ : JUA X [] uNil := ⟨imA qd9_ fun σ H Q hh => ex5 hh fun Z F ρ M P ag hf k => k [] H F [] ρ M (Same.refl _) ag .nil hf⟩
theorem qb1_ (ha : JU X e ge) (hr : JUA X es gl) (hs : starEach (e :: es) X.env = (false, eval e X.env) :: starEach es X.env := by rfl) : JUA X (e :: es) (qu5_ ge gl) := ⟨imA (q4_ ha.h hr.h hs) fun σ H Q hh => ex5 hh fun Z F ρ M P ag hf k =>
  ⟨Z, F, ρ, M, _, ag, hf, fun v H1 F1 d1 ρ1 M1 s1 ag1 r1 h1 => ⟨Z, F1, ρ1, M1, _, ag1, h1, fun vs H2 F2 ds ρ2 M2 s2 ag2 r2 h2 => k _ H2 F2 _ ρ2 M2 (s1.trans s2) ag2 (.cons (r1.same s2) r2) h2⟩⟩⟩
def uTup (f : WUA) : WU := fun ρ M P => f ρ M fun us ρ1 M1 => us.length ≤ sizeLine ∧ P (.tup us) ρ1 M1
theorem qks_ {x1} (h : JUA X es gl) : JU X (.Tuple es x1 pos) (uTup gl) := ⟨imE (qo1_ h.h) fun σ H Q hh => ex5 hh fun Z F ρ M P ag hf k => ⟨Z, F, ρ, M, _, ag, hf, fun vs H1 F1 ds ρ1 M1 s1 ag1 r1 h1 => by
  refine ⟨by rw [← r1.length]; exact h1.1, fun p hp => ?_⟩
  have s2 : Same F1 (upd F1 p (.tup vs)) := Same.new (q5_ ag1.m.sm hp)
  exact k _ _ (upd F1 p (.tup vs)) _ ρ1 M1 (s1.trans s2) (ag1.new hp) (by rw [RU]; exact ⟨p, vs, rfl, SqT.of qi_, r1.same s2⟩) h1.2⟩⟩
def uRet (f : WU) : WS := fun E ρ M => f ρ M fun u _ M1 => E.rt u M1
theorem qdu_ (h : JU X e ge) : JS X (.Return (some e) pos) (uRet ge) := ⟨imS (qg7_ h.h) fun D' σ H hh => ex5 hh fun Z F ρ M E ag hf k => ⟨Z, F, ρ, M, _, ag, hf, fun v H' F' u ρ' M' s' ag' r h => k.rt v H' F' u M' s' ag'.m r h⟩⟩
section
variable {i : Nat} {pos' : Pos}
def uSet (i : Nat) (f : WU) : WS := fun E ρ M => f ρ M fun u ρ1 M1 => E.nx (ρ1.set i (.ut u)) M1
theorem qdr_ (hN : X.N.Nodup) (hi : X.N[i]? = some x) (hx : Loc X.env.scope x) (he : JU X e ge) (hs : swapsWith e (some (.Name x pos')) pos.line X.env = pure false := by rfl) (hf : X.fn x = true ∨ X.env.scope.names.lookup x = some .local := by first | exact .inl rfl | exact .inr rfl | assumption) :
    JS X (.Assign [.Name x pos'] e pos) (uSet i ge) := ⟨imS (qd3_ hN hi hx he.h hs hf) fun D' σ H hh => ex5 hh fun Z F ρ M E ag hf k => ⟨Z, F, ρ, M, _, ag, hf, fun v H' F' d ρ' M' s' ag' r h => k.nx _ H' F' _ M' s' (ag'.setU r) h⟩⟩
end
def uApp (fr fe : WU) : WS := fun E ρ M => fr ρ M fun r ρ1 M1 => match r with
  | .adr p => (∃ us, M1 p = some (.own us)) ∧ fe ρ1 M1 fun u ρ2 M2 => ∃ us, M2 p = some (.own us) ∧ us.length < sizeLine ∧ E.nx ρ2 (mset M2 p (.own (us ++ [u])))
  | _ => False
theorem qep_ {apos cpos : Pos} (hr : JU X a ga) (he : JU X e ge) (hbase : attributeBase a "append" X.env (eval a X.env) = eval a X.env := by rfl)
    (hfew : ((backTo cpos (starEach [e] X.env)).all (fun x => !x.1) && (backToKw cpos (keywordEach [] X.env)).all (fun x => x.1.isSome) && decide ([e].length + ([] : List Keyword).length + (if ([] : List Keyword).isEmpty then 0 else 1) < 30)) = true := by rfl)
    (hline : (apos.endLine == cpos.line) = true := by rfl) (hs : starEach [e] X.env = [(false, eval e X.env)] := by rfl) (hplain : (backTo cpos (starEach [] X.env)).any (·.1) = false := by rfl)
    (hsw : swapsWith (.Call (.Attribute a "append" apos) [e] [] cpos) none pos.line X.env = pure false := by rfl) : JS X (.Expr (.Call (.Attribute a "append" apos) [e] [] cpos) pos) (uApp ga ge) :=
  ⟨imS (qgm_ (qp0_ PySem.F.plainAttrs_list PySem.F.slot_list_append PySem.F.type_list_append qfa_ hr.h (qb1_ he qf2_ hs).h hbase hfew hline hs hplain) hsw) fun D' σ H hh => ex5 hh fun Z F ρ M E ag hf k => ⟨Z, F, ρ, M, _, ag, hf, fun v H1 F1 r ρ1 M1 s1 ag1 r1 h1 => by
    split at h1
    · rename_i q
      obtain ⟨⟨us0, e0⟩, h1⟩ := h1
      rw [RU] at r1
      subst r1
      obtain ⟨_, vs0, g1, g2⟩ := ag1.m.mo _ _ e0
      refine ⟨.inl ⟨rfl, vs0, SqL.of g1⟩, Z, F1, ρ1, M1, fun ws ρ2 M2 => ∃ u us, ws = [u] ∧ M2 q = some (.own us) ∧ us.length < sizeLine ∧ E.nx ρ2 (mset M2 q (.own (us ++ [u]))), ag1, ?_, fun ws H2 F2 us' ρ2 M2 s2 ag2 r2 h2 => ?_⟩
      · show ge ρ1 M1 fun d ρ1 M1 => ∃ u us, [d] = [u] ∧ _
        refine cast (congrArg _ ?_) h1
        funext u ρ2 M2
        refine propext ⟨fun ⟨us, z1, z2, z3⟩ => ⟨u, us, rfl, z1, z2, z3⟩, fun ⟨u', us, z0, z1, z2, z3⟩ => ?_⟩
        cases z0
        exact ⟨us, z1, z2, z3⟩
      · obtain ⟨u, us, rfl, z1, z2, z3⟩ := h2
        rw [RUs] at r2
        obtain ⟨y, t, rfl, r3, r4⟩ := r2
        rw [RUs] at r4
        subst r4
        obtain ⟨_, vs, y1, y2⟩ := ag2.m.mo _ _ z1
        exact ⟨q, vs, y, rfl, rfl, y1, by rw [← y2.length]; exact z2, k.nx σ _ F2 _ _ (s1.trans s2) (ag2.chgM z1 (y2.append (.cons r3 .nil))) z3⟩
    · exact h1.elim⟩⟩
end
end L4
namespace L4
open PySem PySem.Spec PyProof.Rows L2 L3
def qrz_ (fi : WI) (g : WG) (c : WT) (f : WU) (src : List (Option Nat)) : WUA := fun ρ M P => fi ρ M fun ds ρ1 M1 => ∃ I : Nat → List U → Rho → Mm → Prop, I 0 [] (iniR src ρ1) M1 ∧
  (∀ (i : Nat) d out ρ2 M2, ds[i]? = some d → I i out ρ2 M2 → g d ρ2 M2 fun ρ3 M3 => c ρ3 M3 fun b ρ4 M4 => if b = true then f ρ4 M4 fun y ρ5 M5 => out.length < sizeLine ∧ I (i + 1) (out ++ [y]) (clr ρ5) M5 else I (i + 1) out (clr ρ4) M4) ∧
  ∀ out ρ2 M2, I ds.length out ρ2 M2 → P out ρ1 M2
theorem qmv_ {K : PySem.W.Frag} {fi : WI} {fg : WG} {fc : WT} {fe : WU} {src : List (Option Nat)} {g : TG} {tc : TT} {te : TE} (hg : ∀ v σ H Q, lfG K fg v σ H Q → g v σ H Q) (hc : ∀ σ H Q, lfT K fc σ H Q → tc σ H Q) (he : ∀ σ H Q, lfU K fe σ H Q → te σ H Q) :
    ∀ σ H Q, lfNU K (qrz_ fi fg fc fe src) σ H Q → ql7_ (lfI K fi) g tc te src σ H Q :=
  qip_ (R := RU K) (RL := RUs K) (fun _ => .nil) (fun s r => r.same s) (fun r => r.length) (fun r q => r.append (.cons q .nil)) hg hc he
section
variable {X : Cx} {a b c e tg elt iter : Expr} {es ifs : List Expr} {pos cpos pos' p2 : Pos} {fi : WI} {fg : WG} {fc : WT} {fe : WU} {scope : Scope} {N : List Str} {src : List (Option Nat)} {x : Str} {k : Nat}
theorem qtg_ (N : List Str) (src : List (Option Nat)) (ok : CompOk X scope N src) (hcalm : X.calm = true) (hi : JI X tg iter fi)
    (hg : ∀ pins s2 H2 C fp, JG (qt_ X pins s2 H2 N scope C fp) tg fg) (hc : ∀ pins s2 H2 C fp, JC (qt_ X pins s2 H2 N scope C fp) ifs fc) (he : ∀ pins s2 H2 C fp, JU (qt_ X pins s2 H2 N scope C fp) elt fe)
    (hs : ∀ x, foldedSetIterable iter X.env x = pure x := by intro _; rfl) : JNU X (.ListComp elt [⟨tg, iter, ifs, 0⟩] scope pos) (qrz_ fi fg fc fe src) :=
  ⟨imE (qlh_ N src ok hcalm hi.h (fun a b c d e => (hg a b c d e).h) (fun a b c d e => (hc a b c d e).h) (fun a b c d e => (he a b c d e).h) hs) (qmv_ (fun _ _ _ _ h => h) (fun _ _ _ h => h) fun _ _ _ h => h)⟩
end
def spN (K : PySem.W.Frag) (g : List D → (D → Prop) → Prop) : Sp := fun vs H Q _ => ∃ Z F M ds P, AgM K Z F M H ∧ Rps K F ds vs ∧ g ds P ∧ ∀ v H' F' u d M', Same F F' → AgM K Z F' M' H' → RU K F' u v → Fresh M M' d u → P d → Q v H'
def uFn (g : List D → (D → Prop) → Prop) (fl : WA) : WU := fun ρ M P => fl ρ M fun ds ρ1 M1 => g ds fun d => ∀ u M2, Fresh M1 M2 d u → P u ρ1 M2
section
variable {X : Cx} {e : Expr} {es : List Expr} {pos p : Pos} {fl : WA} {x : Str} {g : List D → (D → Prop) → Prop} {k : Nat} {ps : List Str}
theorem j_hN (F : Has X.prog X.w X.K X.mg X.base CX0 k x ps (spN X.K g)) (hr : Room k X.A) (hg : Gl X x) (ha : JA X (e :: es) fl) (hdb : (x == ("__debug__" : Str)) = false := by decide) (he : starEach (e :: es) X.env = (false, eval e X.env) :: starEach es X.env := by rfl) (hpl : (backTo pos (starEach es X.env)).any (·.1) = false := by rfl) :
    JU X (.Call (.Name x p) (e :: es) [] pos) (uFn g fl) := ⟨imE (pe_h F hr hg qhm_ ha.h hdb he hpl) fun σ H Q hh => ex5 hh fun Z F ρ M P ag hf k => ⟨Z, F, ρ, M, _, ag, hf, fun vs H1 F1 ds ρ1 M1 s1 ag1 r1 h1 => by
  show spN X.K g (vs ++ []) H1 Q E0
  rw [List.append_nil]
  exact ⟨_, F1, M1, ds, _, ag1.m.inner, r1, h1, fun v H' F' u d M' s' m' r fr h => k v H' F' u ρ1 M' (s1.trans s') (ag1.back s' m') r (h u M' fr)⟩⟩⟩
end
def frz (A : List Addr) (H F : Hp) : Hp := fun q => if q ∈ A then H q else F q
theorem qhk_ {A : List Addr} {H F : Hp} {q : Addr} (h : q ∈ A) : frz A H F q = H q := if_pos h
theorem qcg_ {A : List Addr} {H F : Hp} {q : Addr} (h : q ∉ A) : frz A H F q = F q := if_neg h
section
variable {K : PySem.W.Frag} {Z F H : Hp} {M : Mm} {A : List Addr}
theorem qde_ (a : AgM K Z F M H) (hA : ∀ p ∈ A, ∃ us, M p = some (.own us)) : Same F (frz A H F) := fun q u e => by
  rw [qcg_]; exact e
  intro hq
  obtain ⟨us, h⟩ := hA q hq
  rw [(a.mo q _ h).1] at e; cases e
theorem qfw_ (a : AgM K Z F M H) : Same (frz A H F) H := fun q u e => by
  by_cases h : q ∈ A
  · rw [qhk_ h] at e; exact e
  · rw [qcg_ h] at e; exact a.sm q u e
end
theorem spN.toW {K : PySem.W.Frag} {g : List D → (D → Prop) → Prop} {vs : List V} {H : Hp} {Q : VK} {E : XK} (h : spW K (pur g) vs H Q E) : spN K g vs H Q E := by
  obtain ⟨Z, F, M, ds, P, a, r, hg, k⟩ := h
  refine ⟨Z, F, M, ds, _, a, r, hg, fun v H' F' u d M' s' a' ru fr pd => ?_⟩
  obtain ⟨A, h1, h2, h3, h4⟩ := fr
  have th := h1.there
  refine k v H' (frz A H' F') d M (s'.trans (qde_ a' th)) ⟨qfw_ a', fun q o e => ?_, fun q o e => ?_⟩ (h1.rp a' (qde_ a' th) (fun q hq => qhk_ hq) ru) pd
  · obtain ⟨z1, z2, z3⟩ := a'.zz q o e
    have nq : q ∉ A := fun hq => by obtain ⟨_, y⟩ := th q hq; rw [z3] at y; cases y
    exact ⟨z1, by rw [qcg_ nq]; exact z2, by rw [← h4 q nq]; exact z3⟩
  · have nq : q ∉ A := fun hq => by rw [h3 q hq] at e; cases e
    obtain ⟨z1, z2⟩ := a'.mo q o ((h4 q nq).trans e)
    exact ⟨by rw [qcg_ nq]; exact z1, z2.same (qde_ a' th) rfl⟩
theorem _root_.L3.Has.toW {P : Program} {w : World} {K : PySem.W.Frag} {mg : Str → Option Value} {base : Heap} {k : Nat} {x : Str} {ps : List Str} {g : List D → (D → Prop) → Prop} (h : Has P w K mg base CX0 k x ps (spN K g)) : Has P w K mg base CX0 k x ps (spW K (pur g)) := by
  obtain ⟨f, fd, F, b, kp, m⟩ := h.ex
  exact ⟨f, fd, F.imp fun vs H Q E h => spN.toW h, b, kp, m⟩
def endN (M : Mm) (Q : D → Prop) : WEnds := ⟨fun _ _ => False, fun u M' => ∃ d M'', Sub M'' M' ∧ Fresh M M'' d u ∧ Q d, fun _ _ => False, fun _ _ => False⟩
theorem _root_.L3.Def.hasN {P : Program} {w : World} {K : PySem.W.Frag} {mg : Str → Option Value} {base : Heap} {k : Nat} {x : Str} {st : Stmt} {N ps : List Str} {g : List D → (D → Prop) → Prop} (F : Def K mg x st ps) (sc : FnScope N ps (qd_ st)) (len : ∀ ds P, g ds P → ds.length = ps.length)
    (hbody : ∀ (f : Addr) (cdv : Value) (A : Around) (outer : List Env) (s : Shared) (H : Hp) (E : XK), Room k (A.deeper (envOfC x (qd_ st) s.heap.objs.size f cdv)) →
      ∃ G, JSs (cxOf CX0 P w K mg base N x (qd_ st) f cdv A outer s H E).nox (qz_ st) G ∧ ∀ ds M Q, g ds Q → G (endN M Q) (qc3_ N ds) M) : Has P w K mg base CX0 (k + 1) x ps (spN K g) := by
  refine F.has sc (fun vs H Q E h => ?_) fun f cdv A outer s H vs Q E hr h => ?_
  · obtain ⟨Z, F', M, ds, P, m, r, hg, _⟩ := h
    rw [← r.length]
    exact len ds P hg
  · obtain ⟨Z, F', M, ds, P', m, r, hg, kk⟩ := h
    obtain ⟨G, hG, hh⟩ := hbody f cdv A outer s H E hr
    exact ⟨_, hG.h, Z, F', qc3_ N ds, M, endN M P', qgc_ N m r, hh ds M P' hg, ⟨fun _ _ _ _ _ _ _ q => q.elim, fun _ _ _ _ _ _ _ q => q.elim, fun _ _ _ _ _ _ _ q => q.elim, fun v H' F2 u M' s' m' r' ⟨d, M2, hs, fr, q⟩ => kk v H' F2 u d M2 s' (m'.sub hs) r' fr q⟩⟩
def uOf : Option Ent → Option U
  | some (.ut u) => some u
  | some (.rf p) => some (.adr p)
  | _ => none
def wFrT (i : Nat) (f : WT) : WT := fun ρ M P => match uOf ρ[i]? with
  | some u => ∃ d A, Own M d u A ∧ f ((clr ρ).set i (.sh d)) (fun _ => none) fun b _ _ => P b ρ M
  | none => False
section
variable {X : Cx} {e : Expr} {ft : WT} {i : Nat}
theorem qi2_ {K : PySem.W.Frag} {Z F H : Hp} {M : Mm} {ρ : Rho} {σ : L2.St} {i : Nat} {u : U} {d : D} {A : List Addr} (ag : Ag K Z F M H ρ σ) (hu : uOf ρ[i]? = some u) (ow : Own M d u A) : Ag K (Zof (frz A H F) (fun _ => none) H) (frz A H F) (fun _ => none) H ((clr ρ).set i (.sh d)) σ := by
  have th := ow.there
  have sF := qde_ ag.m th
  have hv : ∃ v, σ[i]? = some (some v) ∧ RU K F u v := by
    cases q : ρ[i]? with
    | none => rw [q] at hu; cases hu
    | some en =>
      rw [q] at hu
      have hen := ag.en i en q
      cases en with
      | ut w => cases hu; obtain ⟨v, h1, h2⟩ := hen; exact ⟨v, qcy_ h1, h2⟩
      | rf p => cases hu; exact ⟨.ref p, qcy_ hen, by rw [RU]⟩
      | un => cases hu
      | sh d => cases hu
      | ow ds => cases hu
  obtain ⟨v, hv1, hv2⟩ := hv
  have m1 : AgM K (Zof (frz A H F) (fun _ => none) H) (frz A H F) (fun _ => none) H := ⟨qfw_ ag.m, fun p o h => qek_ h, fun _ _ h => (nomatch h)⟩
  have a1 : Ag K (fun _ => none) (frz A H F) (fun _ => none) H (clr ρ) σ := by
    have c0 : Ag K (fun _ => none) F M H (clr ρ) σ := qhc_ ag ⟨ag.m.sm, fun p o e => (nomatch e), ag.m.mo⟩
    refine ⟨⟨qfw_ ag.m, fun p o e => (nomatch e), fun p o e => (nomatch e)⟩, c0.len, fun j en h => ?_, c0.di⟩
    have := c0.en j en h
    cases en with
    | un => trivial
    | sh d => obtain ⟨v, h1, h2⟩ := this; exact ⟨v, h1, Rp.same sF h2⟩
    | rf p => exact this
    | ut u => obtain ⟨v, h1, h2⟩ := this; exact ⟨v, h1, RU.same sF h2⟩
    | ow ds' =>
      exfalso
      unfold clr at h
      rw [List.getElem?_map] at h
      cases q : ρ[j]? with
      | none => rw [q] at h; cases h
      | some en => rw [q] at h; cases en <;> cases h
  have a2 := qhc_ a1 m1
  have ce : clr (clr ρ) = clr ρ := by
    unfold clr
    rw [List.map_map]
    congr 1
    funext en
    cases en <;> rfl
  rw [ce] at a2
  have a3 := a2.set (i := i) (ow.rp ag.m sF (fun q hq => qhk_ hq) hv2)
  rw [qgy_ hv1] at a3
  exact a3
theorem quk_ {K : PySem.W.Frag} {Z F G H H' : Hp} {M : Mm} {ρ ρ' : Rho} {σ σ' : L2.St} {F' : Hp} {M' : Mm} (ag : Ag K Z F M H ρ σ) (sm : Same G H) (s' : Same G F') (ag' : Ag K (Zof G (fun _ => none) H) F' M' H' ρ' σ') : Ag K Z F M H' ρ σ := by
  have sH : Same H H' := fun q u e => by
    cases h : G q with
    | none => exact (ag'.m.zz q u (qfo_ e h rfl)).1
    | some o =>
      have := sm _ _ h
      rw [e] at this
      cases this
      exact ag'.m.sm _ _ (s' _ _ h)
  exact ag.grow (Same.refl _) sH (ag.m.sm.trans sH) fun p h _ => h
theorem qta_ (i : Nat) (h : JT X e ft) : JT X e (wFrT i ft) := ⟨imT h.h fun σ H Q hh => ex5 hh fun Z F ρ M P ag hf k => by
  unfold wFrT at hf
  split at hf
  · rename_i u hu
    obtain ⟨d, A, ow, hf⟩ := hf
    exact ⟨_, _, _, _, _, qi2_ ag hu ow, hf, fun b H' F' ρ' M' s' ag' hb => k b H' F ρ M (Same.refl _) (quk_ ag (qfw_ ag.m) s' ag') hb⟩
  · exact hf.elim⟩
end
end L4
namespace L4
open PySem PySem.Spec PyProof.Rows L2 L3
section
variable {X : Cx} {a b c e : Expr} {es rest : List Expr} {pos p p2 : Pos} {fa fb fe : WE} {ft : WT} {fl : WA} {ga gb ge : WU} {x : Str}
theorem qnk_ : bootBuiltins "max" = some (.builtin "max") := by decide +kernel
theorem qmm_ : bootBuiltins "min" = some (.builtin "min") := by decide +kernel
def RMx (g : Int → Int → Int) : List D → (D → Prop) → Prop := fun xs P => match xs with
  | [.int i, .int j] => P (.int (g i j))
  | _ => False
theorem w_mx {g : Int → Int → Int} : CaW X (fun xs H Q => ∃ i j, xs = [.int i, .int j] ∧ Q (.int (g i j)) H) (RMx g) := by
  intro xs vs F H Q P sm rs h k
  unfold RMx at h
  split at h
  · obtain ⟨v, u, rfl, r1, r2⟩ := rps2 rs
    rw [Rp] at r1 r2
    subst r1 r2
    exact ⟨_, _, rfl, k _ _ F H .rf (by rw [Rp]) h⟩
  · exact h.elim
theorem qun_ (hg : Gl X "max") (hm : X.mg "max" = none) (hc : X.calm = true) (ha : JA X [a, b] fl) (he : starEach [a, b] X.env = (false, eval a X.env) :: starEach [b] X.env := by rfl) (hpl : (backTo pos (starEach [b] X.env)).any (·.1) = false := by rfl) : JE X (.Call (.Name "max" p) [a, b] [] pos) (qeo_ (RMx fun i j => if j > i then j else i) fl) := qee_ (ql3_ hc) w_mx hg hm qnk_ ha (by decide) (by decide) he hpl
theorem qrg_ (hg : Gl X "min") (hm : X.mg "min" = none) (hc : X.calm = true) (ha : JA X [a, b] fl) (he : starEach [a, b] X.env = (false, eval a X.env) :: starEach [b] X.env := by rfl) (hpl : (backTo pos (starEach [b] X.env)).any (·.1) = false := by rfl) : JE X (.Call (.Name "min" p) [a, b] [] pos) (qeo_ (RMx fun i j => if j < i then j else i) fl) := qee_ (qki_ hc) w_mx hg hm qmm_ ha (by decide) (by decide) he hpl
def qo9_ : List D → (D → Prop) → Prop := fun xs P => match xs with
  | [.lst ds] => P (.tup ds)
  | [.tup ds] => P (.tup ds)
  | _ => False
theorem qrk_ : CaW X (fun xs H Q => ∃ p ys, xs = [.ref p] ∧ ((SqL X.K H p ys ∧ ∀ l, H l = none → Q (.ref l) (upd H l (.tup ys))) ∨ (SqT X.K H p ys ∧ Q (.ref p) H))) qo9_ := by
  intro xs vs F H Q P sm rs h k
  unfold qo9_ at h
  split at h
  · obtain ⟨v, rfl, r⟩ := rps1 rs
    rw [Rp] at r
    obtain ⟨q, ws, rfl, h1, h2⟩ := r
    refine ⟨q, ws, rfl, .inl ⟨.inl (qk_ sm h1), fun l hl => ?_⟩⟩
    have sn : Same F (upd F l (.tup ws)) := Same.new (q5_ sm hl)
    exact k _ _ _ _ (.nw hl) (by rw [Rp]; exact ⟨l, ws, rfl, SqT.of qi_, h2.same sn⟩) h
  · obtain ⟨v, rfl, r⟩ := rps1 rs
    have r0 := r
    rw [Rp] at r
    obtain ⟨q, ws, rfl, h1, h2⟩ := r
    exact ⟨q, ws, rfl, .inr ⟨qx_ sm h1, k _ _ F H .rf r0 h⟩⟩
  · exact h.elim
theorem qoq_ (hg : Gl X "tuple") (hm : X.mg "tuple" = none) (ha : JA X [a] fl) (he : starEach [a] X.env = [(false, eval a X.env)] := by rfl) : JE X (.Call (.Name "tuple" p) [a] [] pos) (qeo_ qo9_ fl) := qiu_ qf0_ qrk_ hg hm boot_tuple ha (by decide) (by decide) he rfl
end
def spMk (K : PySem.W.Frag) (Pl : Pool) (gk : List D → Prop) (φ : HO → Prop) : Sp := fun vs H Q _ => ∃ Z F M a vs' ds, vs = .ref a :: vs' ∧ AgM K Z F M H ∧ Pl M a ∧ Rps K F ds vs' ∧ gk ds ∧ ∀ p H' F', M p = none → Same F F' → AgM K Z F' (mset M p (.op φ)) H' → Q (.ref p) H'
section
variable {K : PySem.W.Frag} {Z F H : Hp} {M : Mm} {ρ : Rho} {σ : L2.St} {p : Addr}
end
section
variable {X : Cx} {e : Expr} {es : List Expr} {pos np p cpos pos' : Pos} {fl : WA} {x y f : Str} {Pl : Pool} {gk : List D → Prop} {φ : HO → Prop} {k i : Nat} {ps : List Str}
def wMk (i j : Nat) (Pl : Pool) (gk : List D → Prop) (φ : HO → Prop) (fl : WA) : WS := fun E ρ M => match ρ[j]? with
  | some (.rf a) => fl ρ M fun ds ρ1 M1 => Pl M1 a ∧ gk ds ∧ ∀ p, M1 p = none → E.nx (ρ1.set i (.rf p)) (mset M1 p (.op φ))
  | _ => False
theorem qwf_ (j : Nat) (F : Has X.prog X.w X.K X.mg X.base CX0 k f ps (spMk X.K Pl gk φ)) (hr : Room k X.A) (hg : Gl X f) (hN : X.N.Nodup) (hi : X.N[i]? = some x) (hx : Loc X.env.scope x) (ha : JA X es fl) (hj : X.N[j]? = some y := by rfl) (hv : Vis X.env.scope y := by first | exact Or.inl rfl | exact Or.inr (Or.inl rfl) | exact Or.inr (Or.inr rfl)) (hd : (y == ("__debug__" : Str)) = false := by decide) (hcd : (y == ("__classdict__" : Str)) = false := by decide)
    (hdb : (f == ("__debug__" : Str)) = false := by decide) (he : starEach (.Name y np :: es) X.env = (false, eval (.Name y np) X.env) :: starEach es X.env := by rfl) (hpl : (backTo cpos (starEach es X.env)).any (·.1) = false := by rfl)
    (hs : swapsWith (.Call (.Name f p) (.Name y np :: es) [] cpos) (some (.Name x pos')) pos.line X.env = pure false := by rfl) (hf : X.fn x = true ∨ X.env.scope.names.lookup x = some .local := by first | exact .inl rfl | exact .inr rfl | assumption) :
    JS X (.Assign [.Name x pos'] (.Call (.Name f p) (.Name y np :: es) [] cpos) pos) (wMk i j Pl gk φ fl) := ⟨imS (qd3_ hN hi hx (pe_h F hr hg qhm_ (q4_ (L2.pv j hj hv hd hcd) ha.h he) hdb he hpl) hs hf) fun D' σ H hh => ex5 hh fun Z F ρ M E ag hf k => by
  unfold wMk at hf
  split at hf
  · rename_i q hq
    have hs : σ[j]? = some (some (.ref q)) := qcy_ (ag.en j _ hq)
    refine ⟨.ref q, hs, Z, F, ρ, M, _, ag, hf, fun vs H1 F1 ds ρ1 M1 s1 ag1 r1 h1 => ?_⟩
    show spMk X.K Pl gk φ ((.ref q :: vs) ++ []) H1 _ E0
    rw [List.append_nil]
    refine ⟨_, F1, M1, q, vs, ds, rfl, ag1.m.inner, h1.1, r1, h1.2.1, fun p H2 F2 hp s2 m2 => ?_⟩
    exact k.nx _ _ F2 _ _ (s1.trans s2) ((ag1.back s2 m2).put (e := .rf p) rfl fun _ _ z => nomatch z) (h1.2.2 p hp)
  · exact hf.elim⟩
end
end L4
namespace L4
open PySem PySem.Spec PyProof.Rows L2 L3
def qtt_ (ns : List Int) : HO → Prop := fun o => o = .lst (ns.map V.int) ∨ ∃ ob, o = .frz ob (.lst (ns.map V.int))
def ScrN (K : PySem.W.Frag) (M : Mm) (p : Addr) (ns : List Int) : Prop := ns.length ≤ 63 ∧ (M p = some (.op (qtt_ ns)) ∨ ∃ (o : Obj) (its : Array Value) (n : Nat), K.lookup p = some o ∧ o.cls = .type "list" ∧ o.dict = none ∧ o.data = .seq its n ∧ its.size ≤ sizeLine ∧ Vals (ns.map V.int) its.toList)
def Scr (K : PySem.W.Frag) : Pool := fun M p => ∃ ns : List Int, ScrN K M p ns
section
variable {K : PySem.W.Frag}
theorem ScrN.sq {Z F H : Hp} {M : Mm} {p : Addr} {ns : List Int} (ag : AgM K Z F M H) (h : ScrN K M p ns) : SqL K H p (ns.map V.int) := by
  obtain ⟨l, h | h⟩ := h
  · obtain ⟨_, o, ho, e⟩ := ag.mo p _ h
    rcases e with rfl | ⟨ob, rfl⟩
    · exact .inl (.inl ho)
    · exact .inl (.inr ⟨ob, ho⟩)
  · exact .inr h
theorem Scr.start {H : Hp} {a : Addr} {ns : List Int} {N : List Str} (l : ns.length ≤ 63) (h : SqL K H a (ns.map V.int)) : ∃ M, Ag K (fun _ => none) (fun _ => none) M H (qb4_ N a []) (L2.start N [.ref a]) ∧ ScrN K M a ns := by
  rcases h with h | h
  · refine ⟨mset (fun _ => none) a (.op (qtt_ ns)), qc4_ N ⟨fun _ _ e => (nomatch e), fun _ _ e => (nomatch e), fun b o e => ?_⟩ .nil, l, .inl qf_⟩
    by_cases e1 : b = a
    · subst e1
      rw [qf_] at e
      cases e
      rcases h with h | ⟨ob, h⟩
      · exact ⟨rfl, _, h, .inl rfl⟩
      · exact ⟨rfl, _, h, .inr ⟨ob, rfl⟩⟩
    · rw [qq_ e1] at e; cases e
  · exact ⟨fun _ => none, qc4_ N ⟨fun _ _ e => (nomatch e), fun _ _ e => (nomatch e), fun b o e => (nomatch e)⟩ .nil, l, .inr h⟩
end
section
variable {X : Cx} {a b c e : Expr} {es : List Expr} {pos np p cpos pos' spos : Pos} {fa fb fe fk : WE} {fl : WA} {ge : WU} {x y : Str}
def qua_ (K : PySem.W.Frag) (i : Nat) : WE := fun ρ M P => match ρ[i]? with
  | some (.rf q) => ∃ ns, ScrN K M q ns ∧ P (.int ns.length) ρ M
  | _ => False
theorem qn6_ (i : Nat) (hg : Gl X "len") (hm : X.mg "len" = none) (hN : X.N[i]? = some x := by rfl) (hv : Vis X.env.scope x := by first | exact Or.inl rfl | exact Or.inr (Or.inl rfl) | exact Or.inr (Or.inr rfl)) (hd : (x == ("__debug__" : Str)) = false := by decide) (hcd : (x == ("__classdict__" : Str)) = false := by decide)
    (he : starEach [.Name x np] X.env = [(false, eval (.Name x np) X.env)] := by rfl) : JE X (.Call (.Name "len" p) [.Name x np] [] pos) (qua_ X.K i) := by
  refine ⟨imE (qdi_ (pos := pos) (p := p) qc2_ hg hm boot_len (q4_ (L2.pv (pos := np) i hN hv hd hcd) qd9_ he) (by decide) (by decide) he rfl) fun σ H Q hh => ex5 hh fun Z F ρ M P ag hf k => ?_⟩
  unfold qua_ at hf
  split at hf
  · rename_i q hq
    obtain ⟨ns, hs, hp⟩ := hf
    refine ⟨.ref q, qcy_ (ag.en i _ hq), q, _, rfl, .inl (hs.sq ag.m), k _ H F _ ρ M (Same.refl _) ag ?_ hp⟩
    rw [Rp, List.length_map]
  · exact hf.elim
def wAtS (K : PySem.W.Frag) (i : Nat) (fk : WE) : WE := fun ρ M P => match ρ[i]? with
  | some (.rf q) => fk ρ M fun k ρ1 M1 => match k with
    | .int j => ∃ ns c, ScrN K M1 q ns ∧ atI ns j = some c ∧ P (.int c) ρ1 M1
    | _ => False
  | _ => False
theorem qrl_ {ns : List Int} {j c : Int} (h : atI ns j = some c) : atI (ns.map V.int) j = some (.int c) := by
  unfold atI at h ⊢
  rw [List.length_map]
  cases e : ixN ns.length j with
  | none => rw [e] at h; cases h
  | some i =>
    rw [e] at h
    show (ns.map V.int)[i]? = some (.int c)
    have h : ns[i]? = some c := h
    rw [List.getElem?_map, h]; rfl
theorem qvp_ (i : Nat) (hk : JE X b fk) (hN : X.N[i]? = some x := by rfl) (hv : Vis X.env.scope x := by first | exact Or.inl rfl | exact Or.inr (Or.inl rfl) | exact Or.inr (Or.inr rfl)) (hs : qe8_ b := by intro _ _; rfl) (hd : (x == ("__debug__" : Str)) = false := by decide) (hcd : (x == ("__classdict__" : Str)) = false := by decide) :
    JE X (.Subscript (.Name x np) b pos) (wAtS X.K i fk) := by
  refine ⟨imE (qnp_ (pos := pos) qil_ (L2.pv (pos := np) i hN hv hd hcd) hk.h hs) fun σ H Q hh => ex5 hh fun Z F ρ M P ag hf k => ?_⟩
  unfold wAtS at hf
  split at hf
  · rename_i q hq
    refine ⟨.ref q, qcy_ (ag.en i _ hq), Z, F, ρ, M, _, ag, hf, fun u H2 F2 dk ρ2 M2 s2 ag2 r2 h2 => ?_⟩
    split at h2
    · rename_i j
      rw [Rp] at r2
      obtain ⟨ns, c, hs, hc, hp⟩ := h2
      exact .inl ⟨q, _, j, .int c, rfl, r2, hs.sq ag2.m, qrl_ hc, k _ H2 F2 _ ρ2 M2 s2 ag2 (by rw [Rp]) hp⟩
    · exact h2.elim
  · exact hf.elim
end
theorem ScrN.mono {K : PySem.W.Frag} {M M' : Mm} {p : Addr} {ns : List Int} (s : Sub M M') (h : ScrN K M p ns) : ScrN K M' p ns := by
  obtain ⟨l, h | h⟩ := h
  · exact ⟨l, .inl (s _ _ h)⟩
  · exact ⟨l, .inr h⟩
theorem Sub.mset {M M' : Mm} {q : Addr} {o : MO} (s : Sub M M') (h : M q = none) : Sub M (mset M' q o) := fun p u e => by
  rw [qq_ (fun z => by rw [z, h] at e; cases e)]; exact s p u e
theorem Sub.trans {M M' M'' : Mm} (s : Sub M M') (t : Sub M' M'') : Sub M M'' := fun p u e => t p u (s p u e)
theorem Fresh.sub {M M' : Mm} {d : D} {u : U} (h : Fresh M M' d u) : Sub M M' := fun p o e => by
  obtain ⟨A, h1, h2, h3, h4⟩ := h
  rw [h4 p fun hp => by rw [h3 p hp] at e; cases e]; exact e
end L4
namespace L4
open PySem PySem.Spec PyProof.Rows L2 L3
def vOf : D → Option V
  | .int i => some (.int i)
  | .bl b => some (.bl b)
  | _ => none
theorem qlf_ {K : PySem.W.Frag} {F : Hp} {d : D} {v u : V} (h : vOf d = some v) (r : Rp K F d u) : u = v := by
  cases d with
  | int i => rw [Rp] at r; cases h; exact r
  | bl i => rw [Rp] at r; cases h; exact r
  | _ => cases h
section
variable {X : Cx} {e1 e2 e3 : Expr} {f1 f2 f3 : WE} {k1 k2 k3 : Str} {j1 j2 j3 : Nat} {pos p1 p2 p3 rpos : Pos}
def qrq_ (φ : HO → Prop) (k1 k2 k3 : Str) (f1 f2 f3 : WE) : WS := fun E ρ M => f1 ρ M fun d1 ρ1 M1 => f2 ρ1 M1 fun d2 ρ2 M2 => f3 ρ2 M2 fun d3 ρ3 M3 => ∃ v1 v2 v3, vOf d1 = some v1 ∧ vOf d2 = some v2 ∧ vOf d3 = some v3 ∧ φ (.dK (qfv_ [] [(.inr k1, v1), (.inr k2, v2), (.inr k3, v3)])) ∧ ∀ p, M3 p = none → E.rt (.adr p) (mset M3 p (.op φ))
theorem qmk_ (φ : HO → Prop) (h1 : JE X e1 f1) (h2 : JE X e2 f2) (h3 : JE X e3 f3) : JS X (.Return (some (.Dict [some (.Constant (.str k1) j1 p1), some (.Constant (.str k2) j2 p2), some (.Constant (.str k3) j3 p3)] [e1, e2, e3] pos)) rpos) (qrq_ φ k1 k2 k3 f1 f2 f3) :=
  ⟨imS (qg7_ (qqn_ (qfy_ qbu_ h1.h (qfy_ qbu_ h2.h (qfy_ qbu_ h3.h qpv_))) rfl rfl (by simp) (by show 3 ≤ 15; decide))) fun D' σ H hh => ex5 hh fun Z F ρ M E ag hf k => by
    intro p hp
    have zp : Z p = none := by
      cases q : Z p with
      | none => rfl
      | some o => have := (ag.m.zz p o q).1; rw [hp] at this; cases this
    have mp : M p = none := by
      cases q : M p with
      | none => rfl
      | some o =>
        obtain ⟨_, k⟩ := ag.m.mo p o q
        obtain ⟨u, hu⟩ := k.there
        rw [hp] at hu; cases hu
    have fp := q5_ ag.m.sm hp
    have a0 := ag.newO (o := .dK []) hp
    have az : Ag X.K (upd Z p (.dK [])) F M (upd H p (.dK [])) ρ σ := by
      refine ⟨⟨a0.m.sm, fun q o e => ?_, a0.m.mo⟩, a0.len, fun i en h => ?_, a0.di⟩
      · by_cases z : q = p
        · subst z; rw [qi_] at e; cases e; exact ⟨qi_, fp, mp⟩
        · rw [qh_ z] at e; exact a0.m.zz q o e
      · have := a0.en i en h
        cases en with
        | un => trivial
        | sh d => exact this
        | rf p => exact this
        | ut u => exact this
        | ow ds =>
          obtain ⟨q, ws, g1, g2, g3, g4, g6, g5⟩ := ag.en i _ h
          have hne : q ≠ p := fun z => by rw [z, hp] at g2; cases g2
          exact ⟨q, ws, g1, by rw [qh_ hne]; exact g2, g3, g4, by rw [qh_ hne]; exact g6, g5⟩
    refine ⟨upd Z p (.dK []), F, ρ, M, _, az, hf, fun v1 H1 F1 d1 ρ1 M1 s1 ag1 r1 g1 => ⟨upd Z p (.dK []), F1, ρ1, M1, _, ag1, g1, fun v2 H2 F2 d2 ρ2 M2 s2 ag2 r2 g2 => ⟨upd Z p (.dK []), F2, ρ2, M2, _, ag2, g2, fun v3 H3 F3 d3 ρ3 M3 s3 ag3 r3 g3 => ?_⟩⟩⟩
    obtain ⟨w1, w2, w3, e1, e2, e3, hφ, hk⟩ := g3
    have := qlf_ e1 r1
    subst this
    have := qlf_ e2 r2
    subst this
    have := qlf_ e3 r3
    subst this
    obtain ⟨y1, y2, y3⟩ := ag3.m.zz p _ qi_
    refine ⟨y1, [(.inr k1, v1), (.inr k2, v2), (.inr k3, v3)], rfl, by show 3 ≤ 15; decide, k.rt _ _ F3 (.adr p) (mset M3 p (.op φ)) (s1.trans (s2.trans s3)) ⟨fun q u e => ?_, fun q o e => ?_, fun q o e => ?_⟩ (by rw [RU]) (hk p y3)⟩
    · rw [qh_ (fun z => by rw [z, y2] at e; cases e)]; exact ag3.m.sm q u e
    · have z : q ≠ p := fun z => by rw [z, zp] at e; cases e
      obtain ⟨x1, x2, x3⟩ := ag3.m.zz q o (by rw [qh_ z]; exact e)
      exact ⟨by rw [qh_ z]; exact x1, x2, by rw [qq_ z]; exact x3⟩
    · by_cases z : q = p
      · subst z; rw [qf_] at e; cases e; exact ⟨y2, _, qi_, hφ⟩
      · rw [qq_ z] at e
        obtain ⟨x1, x2⟩ := ag3.m.mo q o e
        exact ⟨x1, x2.same (Same.refl _) (qh_ z)⟩⟩
end
theorem _root_.L3.Def.hasMkO {P : Program} {w : World} {K : PySem.W.Frag} {mg : Str → Option Value} {base : Heap} {k : Nat} {x : Str} {st : Stmt} {N ps : List Str} {Pl : Pool} {gk : List D → Prop} {φ : HO → Prop} (F : Def K mg x st ps) (sc : FnScope N ps (qd_ st)) (len : ∀ ds, gk ds → ds.length + 1 = ps.length)
    (hbody : ∀ (f : Addr) (cdv : Value) (A : Around) (outer : List Env) (s : Shared) (H : Hp) (E : XK), Room k (A.deeper (envOfC x (qd_ st) s.heap.objs.size f cdv)) →
      ∃ G, JSs (cxOf CX0 P w K mg base N x (qd_ st) f cdv A outer s H E).nox (qz_ st) G ∧ ∀ p ds M, Pl M p → gk ds → G ⟨fun _ _ => False, fun u M' => ∃ q, u = .adr q ∧ M q = none ∧ Sub (mset M q (.op φ)) M', fun _ _ => False, fun _ _ => False⟩ (qb4_ N p ds) M) : Has P w K mg base CX0 (k + 1) x ps (spMk K Pl gk φ) := by
  refine F.has sc (fun vs H Q E h => ?_) fun f cdv A outer s H vs Q E hr h => ?_
  · obtain ⟨Z, F', M, p, vs', ds, rfl, m, hp, r, hg, _⟩ := h
    rw [List.length_cons, ← r.length]
    exact len ds hg
  · obtain ⟨Z, F', M, p, vs', ds, rfl, m, hp, r, hg, kk⟩ := h
    obtain ⟨G, hG, hh⟩ := hbody f cdv A outer s H E hr
    refine ⟨_, hG.h, Z, F', qb4_ N p ds, M, _, qc4_ N m r, hh p ds M hp hg, ⟨fun _ _ _ _ _ _ _ q => q.elim, fun _ _ _ _ _ _ _ q => q.elim, fun _ _ _ _ _ _ _ q => q.elim, fun v H' F2 u M' s' m' r' ⟨q, e, hq, hs⟩ => ?_⟩⟩
    subst e
    rw [RU] at r'
    subst r'
    exact kk q H' F2 hq s' (m'.sub hs)
section
variable {X : Cx} {es es2 : List Expr} {pos np p p2 cpos : Pos} {fl fl2 : WA} {x y f : Str} {Pl : Pool} {gk : List D → Prop} {φ : Int → HO → Prop} {g : List D → (D → Prop) → Prop} {k k' : Nat} {b c : Int} {ps ps' : List Str}
def wPM (j : Nat) (Pl : Pool) (gk : List D → Prop) (φ : Int → HO → Prop) (b c : Int) (g : List D → (D → Prop) → Prop) (fl fl2 : WA) : WE := fun ρ M P => match ρ[j]? with
  | some (.rf a) => fl ρ M fun ds ρ1 M1 => Pl M1 a ∧ gk ds ∧ ∀ q, M1 q = none → fl2 ρ1 (mset M1 q (.op (φ b))) fun ds2 ρ2 M2 => M2 q = some (.op (φ b)) ∧ c ≤ b ∧ g ds2 fun d => P d ρ2 (mset M2 q (.op (φ (b - c))))
  | _ => False
theorem qps_ (j : Nat) (F1 : Has X.prog X.w X.K X.mg X.base CX0 k x ps (spMk X.K Pl gk (φ b))) (F2 : Has X.prog X.w X.K X.mg X.base CX0 k' f ps' (spP X.K φ c g)) (hr1 : Room k X.A) (hr2 : Room k' X.A) (hg1 : Gl X x) (hg2 : Gl X f) (ha : JA X es fl) (ha2 : JA X es2 fl2) (hj : X.N[j]? = some y := by rfl) (hv : Vis X.env.scope y := by first | exact Or.inl rfl | exact Or.inr (Or.inl rfl) | exact Or.inr (Or.inr rfl)) (hd : (y == ("__debug__" : Str)) = false := by decide) (hcd : (y == ("__classdict__" : Str)) = false := by decide)
    (hdb : (x == ("__debug__" : Str)) = false := by decide) (hdb2 : (f == ("__debug__" : Str)) = false := by decide) (he : starEach (.Name y np :: es) X.env = (false, eval (.Name y np) X.env) :: starEach es X.env := by rfl) (hpl : (backTo cpos (starEach es X.env)).any (·.1) = false := by rfl)
    (he2 : starEach (.Call (.Name x p) (.Name y np :: es) [] cpos :: es2) X.env = (false, eval (.Call (.Name x p) (.Name y np :: es) [] cpos) X.env) :: starEach es2 X.env := by rfl) (hpl2 : (backTo pos (starEach es2 X.env)).any (·.1) = false := by rfl) :
    JE X (.Call (.Name f p2) (.Call (.Name x p) (.Name y np :: es) [] cpos :: es2) [] pos) (wPM j Pl gk φ b c g fl fl2) := ⟨imE (pe_h F2 hr2 hg2 qhm_ (q4_ (pe_h F1 hr1 hg1 qhm_ (q4_ (L2.pv j hj hv hd hcd) ha.h he) hdb he hpl) ha2.h he2) hdb2 he2 hpl2) fun σ H Q hh => ex5 hh fun Z F ρ M P ag hf k => by
  unfold wPM at hf
  split at hf
  · rename_i q hq
    refine ⟨.ref q, qcy_ (ag.en j _ hq), Z, F, ρ, M, _, ag, hf, fun vs H1 F1 ds ρ1 M1 s1 ag1 r1 h1 => ?_⟩
    show spMk X.K Pl gk (φ b) ((.ref q :: vs) ++ []) H1 _ E0
    rw [List.append_nil]
    refine ⟨_, F1, M1, q, vs, ds, rfl, ag1.m.inner, h1.1, r1, h1.2.1, fun q2 H2 F2 hq2 s2 m2 => ?_⟩
    refine ⟨Z, F2, ρ1, _, _, ag1.back s2 m2, h1.2.2 q2 hq2, fun vs2 H3 F3 ds2 ρ3 M3 s3 ag3 r3 h3 => ?_⟩
    show spP X.K φ c g ((.ref q2 :: vs2) ++ []) H3 Q E0
    rw [List.append_nil]
    exact ⟨_, F3, M3, q2, vs2, ds2, _, b, rfl, ag3.m.inner, h3.1, h3.2.1, r3, h3.2.2, fun v H' F' d s' m' r h => k v H' F' d ρ3 _ (s1.trans (s2.trans (s3.trans s'))) (ag3.back s' m') r h⟩
  · exact hf.elim⟩
end
end L4
namespace L4
open PySem PySem.Spec PyProof.Rows L2 L3
def drp (A : List Addr) (F : Hp) : Hp := fun q => if q ∈ A then none else F q
theorem qov_ {A : List Addr} {F : Hp} {q : Addr} (h : q ∈ A) : drp A F q = none := if_pos h
theorem qe9_ {A : List Addr} {F : Hp} {q : Addr} (h : q ∉ A) : drp A F q = F q := if_neg h
section
variable {K : PySem.W.Frag} {F : Hp} {A : List Addr}
theorem qpz_ (hA : ∀ q ∈ A, ∃ vs, F q = some (.lst vs)) {a : Addr} {vs : List V} (h : SqT K F a vs) : SqT K (drp A F) a vs := by
  rcases h with h | h
  · refine .inl ?_
    have na : a ∉ A := fun z => by
      obtain ⟨ws, e⟩ := hA a z
      rcases h with h | ⟨ob, h⟩
      · rw [e] at h; cases h
      · rw [e] at h; cases h
    rcases h with h | ⟨ob, h⟩
    · exact .inl (by rw [qe9_ na]; exact h)
    · exact .inr ⟨ob, by rw [qe9_ na]; exact h⟩
  · exact .inr h
mutual
theorem Rp.drp (hA : ∀ q ∈ A, ∃ vs, F q = some (.lst vs)) : ∀ {d : D} {v : V}, noL d = true → Rp K F d v → Rp K (drp A F) d v
  | .lst _, v, n, h => by rw [noL] at n; cases n
  | .tup ds, v, n, h => by
    rw [noL] at n
    rw [Rp] at h ⊢
    obtain ⟨b, vs, r1, r2, r3⟩ := h
    exact ⟨b, vs, r1, qpz_ hA r2, Rps.drp hA n r3⟩
  | .non, v, n, h => by rw [Rp] at h ⊢; exact h
  | .bl b, v, n, h => by rw [Rp] at h ⊢; exact h
  | .int b, v, n, h => by rw [Rp] at h ⊢; exact h
  | .str b, v, n, h => by rw [Rp] at h ⊢; exact h
theorem Rps.drp (hA : ∀ q ∈ A, ∃ vs, F q = some (.lst vs)) : ∀ {d : List D} {v : List V}, noLs d = true → Rps K F d v → Rps K (drp A F) d v
  | [], v, n, h => by rw [Rps] at h ⊢; exact h
  | d :: ds, v, n, h => by
    rw [noLs, Bool.and_eq_true] at n
    rw [Rps] at h ⊢
    obtain ⟨x, r, h1, h2, h3⟩ := h
    exact ⟨x, r, h1, Rp.drp hA n.1 h2, Rps.drp hA n.2 h3⟩
end
end
section
variable {K : PySem.W.Frag} {Z F F' H H' : Hp} {M M' : Mm} {ρ : Rho} {σ : L2.St} {A : List Addr} {d d' : D} {u u' : U} {v : V}
theorem qtj_ (a : AgM K Z F M H) (ow : Own M d u A) (s' : Same (frz A H F) F') : ∀ q ∈ A, ∃ vs, F' q = some (.lst vs) := fun q hq => by
  obtain ⟨us, e⟩ := ow.there q hq
  obtain ⟨_, vs, g, _⟩ := a.mo q _ e
  exact ⟨vs, s' _ _ (by rw [qhk_ hq]; exact g)⟩
theorem qi8_ (a : AgM K Z F M H) (ow : Own M d u A) (s' : Same (frz A H F) F') : Same F (drp A F') := fun q o e => by
  have nq : q ∉ A := fun hq => by
    obtain ⟨us, h⟩ := ow.there q hq
    rw [(a.mo q _ h).1] at e; cases e
  rw [qe9_ nq]
  exact s' _ _ (by rw [qcg_ nq]; exact e)
theorem qvb_ (a : AgM K Z F M H) (s' : Same (frz A H F) F') (m' : AgM K (Zof (frz A H F) (fun _ => none) H) F' M' H') : Same H H' := fun q o e => by
  cases h : frz A H F q with
  | none => exact (m'.zz q o (qfo_ e h rfl)).1
  | some o' =>
    have := qfw_ a _ _ h
    rw [e] at this
    cases this
    exact m'.sm _ _ (s' _ _ h)
theorem qqt_ (ag : Ag K Z F M H ρ σ) (ow : Own M d u A) (s' : Same (frz A H F) F') (m' : AgM K (Zof (frz A H F) (fun _ => none) H) F' M' H') : Ag K Z (drp A F') M H' ρ σ := by
  refine ag.grow (qi8_ ag.m ow s') (qvb_ ag.m s' m') (fun q o e => ?_) fun p h1 h2 => ?_
  · by_cases z : q ∈ A
    · rw [qov_ z] at e; cases e
    · rw [qe9_ z] at e; exact m'.sm _ _ e
  · by_cases z : p ∈ A
    · exact qov_ z
    · rw [qe9_ z]
      cases e : H p with
      | none => exact (h2 e).elim
      | some o => exact (m'.zz p o (qfo_ e (by rw [qcg_ z]; exact h1) rfl)).2.1
theorem ql8_ (a : AgM K Z F M H) {p : Addr} (h : H p = none) : F p = none ∧ M p = none ∧ Z p = none := by
  refine ⟨q5_ a.sm h, ?_, ?_⟩
  · cases q : M p with
    | none => rfl
    | some o =>
      obtain ⟨_, k⟩ := a.mo p o q
      obtain ⟨u, hu⟩ := k.there
      rw [h] at hu; cases hu
  · cases q : Z p with
    | none => rfl
    | some o => have := (a.zz p o q).1; rw [h] at this; cases this
end
section
variable {X : Cx} {e : Expr} {es : List Expr} {pos p : Pos} {fl : WA} {x : Str} {g : List D → (D → Prop) → Prop} {k i : Nat} {ps : List Str}
end
section
variable {X : Cx} {a b c e tg elt iter : Expr} {es ifs : List Expr} {pos cpos pos' p2 : Pos} {fe : WE} {fi : WI} {fg : WG} {fc : WT} {scope : Scope} {N : List Str} {src : List (Option Nat)} {x : Str} {k : Nat}
end
section
variable {K : PySem.W.Frag} {Z F G H : Hp} {M : Mm}
end
end L4
namespace L4
open PySem PySem.Spec PyProof.Rows L2 L3
section
variable {X : Cx} {pins : List (Addr × Obj)} {σ : L2.St} {H : Hp} {s : Shared}
mutual
theorem qqk_ (I : Inv X pins σ H s) : ∀ {d : D} {v : V} {u : Value}, kOk d = true → Rp X.K H d v → RelV v u → HD s.heap d u
  | .int i, v, u, n, r, rv => by rw [Rp] at r; subst r; obtain ⟨t, rfl⟩ := rv; rw [HD]; exact ⟨t, rfl⟩
  | .tup ds, v, u, n, r, rv => by
    rw [Rp] at r
    obtain ⟨a, vs, rfl, r2, r3⟩ := r
    cases rv
    obtain ⟨its, q1, q2, _⟩ := I.tuple r2
    rw [HD]
    rw [kOk] at n
    exact ⟨a, its.toArray, rfl, q2, qor_ I n r3 q1⟩
  | .non, v, u, n, r, rv => by rw [kOk] at n; cases n
  | .bl _, v, u, n, r, rv => by rw [kOk] at n; cases n
  | .str _, v, u, n, r, rv => by rw [kOk] at n; cases n
  | .lst _, v, u, n, r, rv => by rw [kOk] at n; cases n
theorem qor_ (I : Inv X pins σ H s) : ∀ {d : List D} {v : List V} {u : List Value}, kOks d = true → Rps X.K H d v → Vals v u → HDs s.heap d u
  | [], v, u, n, r, rv => by rw [Rps] at r; subst r; cases rv; rw [HDs]
  | d :: ds, v, u, n, r, rv => by
    rw [Rps] at r
    obtain ⟨x, t, rfl, r1, r2⟩ := r
    rw [kOks, Bool.and_eq_true] at n
    cases rv with
    | cons h1 h2 => rw [HDs]; exact ⟨_, _, rfl, qqk_ I n.1 r1 h1, qor_ I n.2 r2 h2⟩
end
end
section
variable {K : PySem.W.Frag} {Z F H : Hp} {M : Mm} {ρ : Rho} {σ : L2.St} {p : Addr}
theorem Ag.adoptM {o : HO} {mo : MO} (ag : Ag K Z F M H ρ σ) (n2 : H p = some o) (n3 : F p = none) (n4 : M p = none) (nz : Z p = none) (n5 : ∀ (j : Nat) (es : List D), ρ[j]? = some (.ow es) → σ[j]? ≠ some (some (.ref p))) (r : MOk K F H p mo) : Ag K Z F (mset M p mo) H ρ σ := by
  refine ⟨⟨ag.m.sm, fun q o e => ?_, fun q o e => ?_⟩, ag.len, fun i e h => ?_, ag.di⟩
  · obtain ⟨z1, z2, z3⟩ := ag.m.zz q o e
    exact ⟨z1, z2, by rw [qq_ (fun z => by rw [z, nz] at e; cases e)]; exact z3⟩
  · by_cases z : q = p
    · subst z
      rw [qf_] at e
      cases e
      exact ⟨n3, r⟩
    · rw [qq_ z] at e; exact ag.m.mo q o e
  · have := ag.en i e h
    cases e with
    | un => trivial
    | sh d => exact this
    | rf p => exact this
    | ut u => exact this
    | ow ds =>
      obtain ⟨q, ws, h1, h2, h3, h4, h6, h5⟩ := this
      exact ⟨q, ws, h1, h2, h3, by rw [qq_ (fun z => n5 i ds h (by rw [← z]; exact qcy_ h1))]; exact h4, h6, h5⟩
theorem Ag.chgO {o : MO} {mo : MO} {ho : HO} (ag : Ag K Z F M H ρ σ) (hp : M p = some o) (r : MOk K F (upd H p ho) p mo) : Ag K Z F (mset M p mo) (upd H p ho) ρ σ := by
  obtain ⟨f0, k0⟩ := ag.m.mo p _ hp
  have ne : ∀ {q : Addr} {u : HO}, F q = some u → q ≠ p := fun e z => by rw [z, f0] at e; cases e
  refine ⟨⟨fun q u e => by rw [qh_ (ne e)]; exact ag.m.sm q u e, fun q o e => ?_, fun q o e => ?_⟩, ag.len, fun i e h => ?_, ag.di⟩
  · obtain ⟨z1, z2, z3⟩ := ag.m.zz q o e
    have : q ≠ p := fun z => by rw [z, hp] at z3; cases z3
    exact ⟨by rw [qh_ this]; exact z1, z2, by rw [qq_ this]; exact z3⟩
  · by_cases z : q = p
    · subst z
      rw [qf_] at e
      cases e
      exact ⟨f0, r⟩
    · rw [qq_ z] at e
      obtain ⟨z1, z2⟩ := ag.m.mo q o e
      exact ⟨z1, z2.same (Same.refl _) (qh_ z)⟩
  · have := ag.en i e h
    cases e with
    | un => trivial
    | sh d => exact this
    | rf p => exact this
    | ut u => exact this
    | ow ds =>
      obtain ⟨q, ws', h1, h2, h3, h4, h6, h5⟩ := this
      have hne : q ≠ p := fun z => by rw [z, hp] at h4; cases h4
      exact ⟨q, ws', h1, by rw [qh_ hne]; exact h2, h3, by rw [qq_ hne]; exact h4, h6, h5⟩
end
theorem TKp.keys {K : PySem.W.Frag} {F : Hp} : ∀ {kvs : List (D × D)} {xs : List (D × Addr × Value)}, TKp K F kvs xs → kvs.map (·.1) = xs.map (·.1)
  | _, _, .nil => rfl
  | _, _, .cons ⟨r1, _⟩ t => by rw [List.map_cons, List.map_cons, r1, TKp.keys t]
theorem TKp.all {K : PySem.W.Frag} {F : Hp} : ∀ {kvs : List (D × D)} {xs : List (D × Addr × Value)}, TKp K F kvs xs → ∀ x ∈ xs, (kOk x.1 = true ∧ dep x.1 ≤ 8) ∧ Rp K F x.1 (.ref x.2.1) ∧ ∃ v, RelV v x.2.2
  | _, _, .nil, x, hx => by cases hx
  | _, _, .cons ⟨r1, r2, r3, v, r4, _⟩ t, x, hx => by
    rcases List.mem_cons.mp hx with rfl | hx
    · rw [r1] at r2 r3; exact ⟨r2, r3, v, r4⟩
    · exact TKp.all t x hx
theorem TKp.vals {K : PySem.W.Frag} {F : Hp} : ∀ {kvs : List (D × D)} {xs : List (D × Addr × Value)}, TKp K F kvs xs → ∃ vs, Vals vs (xs.map fun x => x.2.2) ∧ Rps K F (kvs.map (·.2)) vs
  | _, _, .nil => ⟨[], .nil, .nil⟩
  | _, _, .cons ⟨r1, r2, r3, v, r4, r5⟩ t => by
    obtain ⟨vs, h1, h2⟩ := TKp.vals t
    exact ⟨v :: vs, .cons r4 h1, .cons r5 h2⟩
theorem TKp.snoc {K : PySem.W.Frag} {F : Hp} {q : D × D} {x : D × Addr × Value} (h : q.1 = x.1 ∧ (kOk q.1 = true ∧ dep q.1 ≤ 8) ∧ Rp K F q.1 (.ref x.2.1) ∧ ∃ v, RelV v x.2.2 ∧ Rp K F q.2 v) : ∀ {kvs : List (D × D)} {xs : List (D × Addr × Value)}, TKp K F kvs xs → TKp K F (kvs ++ [q]) (xs ++ [x])
  | _, _, .nil => .cons h .nil
  | _, _, .cons r t => .cons r (TKp.snoc h t)
theorem atKey_none_iff {xs : List (D × Addr × Value)} {k : D} : atKey xs k = none ↔ k ∉ xs.map (·.1) := by
  unfold atKey
  rw [Option.map_eq_none_iff, List.find?_eq_none]
  constructor
  · intro h m
    obtain ⟨x, hx, e⟩ := List.mem_map.mp m
    exact h x hx (decide_eq_true e)
  · intro h x hx e
    exact h (List.mem_map.mpr ⟨x, hx, of_decide_eq_true e⟩)
open Classical in
noncomputable def sdK (kvs : List (D × D)) (k d : D) : List (D × D) := if k ∈ kvs.map (·.1) then kvs else kvs ++ [(k, d)]
theorem qmf_ {M : Mm} {p : Addr} {o : MO} (h : M p = some o) : mset M p o = M := by
  funext q
  by_cases z : q = p
  · subst z; rw [qf_, h]
  · rw [qq_ z]
section
variable {X : Cx} {a b c e f : Expr} {es : List Expr} {pos np p apos cpos pos' dpos : Pos} {fl : WA} {x y : Str} {i : Nat}
def qvd_ (i : Nat) : WS := fun E ρ M => ∀ p, M p = none → E.nx (ρ.set i (.rf p)) (mset M p (.tk []))
theorem qp5_ (hN : X.N.Nodup) (hi : X.N[i]? = some x) (hx : Loc X.env.scope x) (hs : swapsWith (.Dict [] [] dpos) (some (.Name x pos')) pos.line X.env = pure false := by rfl) (hf : X.fn x = true ∨ X.env.scope.names.lookup x = some .local := by first | exact .inl rfl | exact .inr rfl | assumption) :
    JS X (.Assign [.Name x pos'] (.Dict [] [] dpos) pos) (qvd_ i) := ⟨imS (qd3_ hN hi hx qmo_ hs hf) fun D' σ H hh => ex5 hh fun Z F ρ M E ag hf k => by
  intro p hp
  obtain ⟨y1, y2, y3⟩ := ql8_ ag.m hp
  have a1 := (ag.newO (o := .ext (IsDT p [])) hp).adoptM (mo := .tk []) qi_ y1 y2 y3 (fun j es h z => by
    obtain ⟨q, ws, h1, h2, _⟩ := ag.en j _ h
    rw [z] at h1
    cases h1
    rw [hp] at h2; cases h2) ⟨[], qi_, .nil⟩
  exact k.nx _ _ F _ _ (Same.refl _) (a1.put (i := i) (e := .rf p) (o := some (.ref p)) rfl fun _ _ z => nomatch z) (hf p y2)⟩
def wSD (i : Nat) (fl : WA) : WS := fun E ρ M => match ρ[i]? with
  | some (.rf q) => (∃ kvs, M q = some (.tk kvs)) ∧ fl ρ M fun ds ρ2 M2 => ∃ (ks : List D) (d : D) (kvs : List (D × D)), ds = [.tup ks, d] ∧ M2 q = some (.tk kvs) ∧ kOk (.tup ks) = true ∧ dep (.tup ks) ≤ 8 ∧ kvs.length < sizeLine ∧ E.nx ρ2 (mset M2 q (.tk (sdK kvs (.tup ks) d)))
  | _ => False
theorem qvo_ (i : Nat) (hu : X.A.units + 10 < cLine) (ha : JA X [e, f] fl) (hN : X.N[i]? = some x := by rfl) (hv : Vis X.env.scope x := by first | exact Or.inl rfl | exact Or.inr (Or.inl rfl) | exact Or.inr (Or.inr rfl)) (hd : (x == ("__debug__" : Str)) = false := by decide) (hcd : (x == ("__classdict__" : Str)) = false := by decide)
    (hbase : attributeBase (.Name x np) "setdefault" X.env (eval (.Name x np) X.env) = eval (.Name x np) X.env := by rfl)
    (hfew : ((backTo cpos (starEach [e, f] X.env)).all (fun x => !x.1) && (backToKw cpos (keywordEach [] X.env)).all (fun x => x.1.isSome)
      && decide ([e, f].length + ([] : List Keyword).length + (if ([] : List Keyword).isEmpty then 0 else 1) < 30)) = true := by rfl)
    (hline : (apos.endLine == cpos.line) = true := by rfl) (hs : starEach [e, f] X.env = (false, eval e X.env) :: starEach [f] X.env := by rfl) (hplain : (backTo cpos (starEach [f] X.env)).any (·.1) = false := by rfl)
    (hsw : swapsWith (.Call (.Attribute (.Name x np) "setdefault" apos) [e, f] [] cpos) none pos.line X.env = pure false := by rfl) :
    JS X (.Expr (.Call (.Attribute (.Name x np) "setdefault" apos) [e, f] [] cpos) pos) (wSD i fl) :=
  ⟨imS (qgm_ (qwa_ hu (L2.pv (pos := np) i hN hv hd hcd) ha.h hbase hfew hline hs hplain) hsw) fun D' σ H hh => ex5 hh fun Z F ρ M E ag hf k => by
    unfold wSD at hf
    split at hf
    · rename_i q hq
      obtain ⟨⟨kvs0, m0⟩, hf⟩ := hf
      obtain ⟨_, xs0, hx0, _⟩ := ag.m.mo q _ m0
      refine ⟨.ref q, qcy_ (ag.en i _ hq), q, xs0, rfl, hx0, Z, F, ρ, M, _, ag, hf, fun vs H2 F2 ds ρ2 M2 s2 ag2 r2 h2 => ?_⟩
      obtain ⟨ks, d, kvs, rfl, m2, ok, dk, lz, h2⟩ := h2
      obtain ⟨_, xs, hx, tk⟩ := ag2.m.mo q _ m2
      rw [Rps] at r2
      obtain ⟨v1, t, rfl, rk, r2⟩ := r2
      rw [Rps] at r2
      obtain ⟨v2, t2, rfl, rd, r2⟩ := r2
      rw [Rps] at r2
      subst r2
      have rk0 := rk
      rw [Rp] at rk
      obtain ⟨b, ws, rfl, _, _⟩ := rk
      have lx : kvs.length = xs.length := by have := congrArg List.length tk.keys; rw [List.length_map, List.length_map] at this; exact this
      refine ⟨b, v2, .tup ks, xs, rfl, hx, dk, by omega, fun x h => (tk.all x h).1.2, fun pins s I => ⟨qqk_ I ok (Rp.same ag2.m.sm rk0) rfl, fun x h => qqk_ I (tk.all x h).1.1 (Rp.same ag2.m.sm (tk.all x h).2.1) rfl⟩, fun p hp => ?_, fun hn u ru => ?_⟩
      · have hm : D.tup ks ∈ kvs.map (·.1) := by
          rw [tk.keys]
          apply Classical.byContradiction
          intro z
          rw [atKey_none_iff.mpr z] at hp; cases hp
        have : ∃ x ∈ xs, x.2 = p := by
          unfold atKey at hp
          rw [Option.map_eq_some_iff] at hp
          obtain ⟨x, h1, h2⟩ := hp
          exact ⟨x, List.mem_of_find?_eq_some h1, h2⟩
        obtain ⟨x, hx1, rfl⟩ := this
        obtain ⟨_, _, v', rv'⟩ := tk.all x hx1
        refine ⟨v', rv', k.nx σ _ F2 ρ2 M2 s2 ag2 ?_⟩
        rw [sdK, if_pos hm, qmf_ m2] at h2
        exact h2
      · have hm : D.tup ks ∉ kvs.map (·.1) := by rw [tk.keys]; exact atKey_none_iff.mp hn
        rw [sdK, if_neg hm] at h2
        exact k.nx σ _ F2 ρ2 _ s2 (ag2.chgO (mo := .tk (kvs ++ [(.tup ks, d)])) m2 ⟨_, qi_, tk.snoc ⟨rfl, ⟨ok, dk⟩, rk0, v2, ru, rd⟩⟩) h2
    · exact hf.elim⟩
def qsj_ (i : Nat) : WN := fun ρ M P => match ρ[i]? with
  | some (.rf q) => ∃ kvs, M q = some (.tk kvs) ∧ kvs.length ≤ 100000 ∧ P (kvs.map (·.2)) ρ M
  | _ => False
theorem qqd_ {lp pos2 : Pos} (i : Nat) (hgl : Gl X "list") (hml : X.mg "list" = none) (hc : X.calm = true) (hN : X.N[i]? = some x := by rfl) (hv : Vis X.env.scope x := by first | exact Or.inl rfl | exact Or.inr (Or.inl rfl) | exact Or.inr (Or.inr rfl)) (hd : (x == ("__debug__" : Str)) = false := by decide) (hcd : (x == ("__classdict__" : Str)) = false := by decide)
    (hbase : attributeBase (.Name x np) "values" X.env (eval (.Name x np) X.env) = eval (.Name x np) X.env := by rfl) (hline : (apos.endLine == cpos.line) = true := by rfl)
    (hs3 : starEach [.Call (.Attribute (.Name x np) "values" apos) [] [] cpos] X.env = [(false, eval (.Call (.Attribute (.Name x np) "values" apos) [] [] cpos) X.env)] := by rfl) :
    JN X (.Call (.Name "list" lp) [.Call (.Attribute (.Name x np) "values" apos) [] [] cpos] [] pos) (qsj_ i) :=
  ⟨imE (qif_ (pos2 := pos2) hgl hml hc (L2.pv (pos := np) i hN hv hd hcd) hbase hline hs3) fun σ H Q hh => ex5 hh fun Z F ρ M P ag hf k => by
    unfold qsj_ at hf
    split at hf
    · rename_i q hq
      obtain ⟨kvs, m0, lz, hf⟩ := hf
      obtain ⟨_, xs, hx, tk⟩ := ag.m.mo q _ m0
      obtain ⟨vs, v1, v2⟩ := tk.vals
      have lx : kvs.length = xs.length := by have := congrArg List.length tk.keys; rw [List.length_map, List.length_map] at this; exact this
      refine ⟨.ref q, qcy_ (ag.en i _ hq), q, xs, vs, rfl, hx, by omega, v1, fun l hl => ?_⟩
      obtain ⟨n1, n2, n3, n4, nz, n5, n6⟩ := newN ag hl v2
      exact k l vs _ F _ ρ M (Same.refl _) n1 n2 n3 n4 nz n5 n6 hf
    · exact hf.elim⟩
end
end L4
namespace L4
open PySem PySem.Spec PyProof.Rows L2 L3
theorem u10 {k : Nat} {A : Around} (r : Room k A) : A.units + 10 < cLine := by have := Room.u60 r; omega
def qhp_ (lo : Int) (n : Nat) : List D := (List.range n).map fun (k : Nat) => D.int (lo - (k : Int))
theorem qf8_ {lo : Int} {n : Nat} : (qhp_ lo n).length = n := by unfold qhp_; simp
theorem qjl_ {lo : Int} {n i : Nat} {d : D} (h : (qhp_ lo n)[i]? = some d) : d = .int (lo - i) ∧ i < n := by
  unfold qhp_ at h
  rw [List.getElem?_map] at h
  cases q : (List.range n)[i]? with
  | none => rw [q] at h; cases h
  | some j =>
    rw [q] at h
    obtain ⟨hj, e⟩ := List.getElem?_eq_some_iff.mp q
    simp at e hj
    subst e
    simp at h
    exact ⟨h.symm, hj⟩
theorem qo3_ {K : PySem.W.Frag} {F : Hp} (lo : Int) (n : Nat) : ItOk K (Itd lo n) F (qhp_ lo n) := by
  refine ⟨fun i F' H hi _ _ => ?_, fun F' H _ _ => ?_, fun i d F' H x H' hd s s' y => ?_⟩
  · rw [qf8_] at hi; exact hi
  · show n ≤ _
    rw [qf8_]; exact Nat.le_refl _
  · obtain ⟨rfl, rfl⟩ := y
    refine ⟨F', .rf, ?_⟩
    obtain ⟨rfl, _⟩ := qjl_ hd
    rw [Rp]
section
variable {X : Cx} {a b c e tg : Expr} {es : List Expr} {pos np p p2 pos2 apos cpos : Pos} {fl : WA} {fn : WN} {x : Str}
def qrx_ (f : WA) : WI := fun ρ M P => f ρ M fun ds ρ1 M1 => ∃ i j : Int, ds = [.int i, .int j, .int (-1)] ∧ (-(2 ^ 62) ≤ i ∧ i < 2 ^ 62 ∧ -(2 ^ 62) ≤ j ∧ j < 2 ^ 62) ∧ P (qhp_ i (i - j).toNat) ρ1 M1
theorem qpe_ (hg : Gl X "range") (hm : X.mg "range" = none) (ha : JA X [a, b, c] fl) (hs : starEach [a, b, c] X.env = [(false, eval a X.env), (false, eval b X.env), (false, eval c X.env)] := by rfl) (hs2 : starEach [b, c] X.env = [(false, eval b X.env), (false, eval c X.env)] := by rfl) : JI X tg (.Call (.Name "range" p) [a, b, c] [] pos) (qrx_ fl) :=
  ⟨imI (qo7_ hg hm ha.h hs hs2) fun σ H R hh => ex5 hh fun Z F ρ M P ag hf k => ⟨Z, F, ρ, M, _, ag, hf, fun vs H1 F1 ds ρ1 M1 s1 ag1 r1 h1 => by
    obtain ⟨i, j, rfl, hb, h1⟩ := h1
    rw [Rps] at r1
    obtain ⟨v, t, rfl, g1, r1⟩ := r1
    rw [Rps] at r1
    obtain ⟨v2, t2, rfl, g2, r1⟩ := r1
    rw [Rps] at r1
    obtain ⟨v3, t3, rfl, g3, r1⟩ := r1
    rw [Rps] at r1
    subst r1
    rw [Rp] at g1 g2 g3
    subst g1 g2 g3
    exact ⟨i, j, rfl, hb, k _ H1 F1 _ ρ1 M1 s1 ag1 (qo3_ i _) h1⟩⟩⟩
def qvk_ (fl : WA) : WN := fun ρ M P => fl ρ M fun ds ρ1 M1 => match ds with
  | [.lst xs] => xs.length ≤ 10000 ∧ P xs.reverse ρ1 M1
  | _ => False
theorem qjp_ (hgl : Gl X "list") (hml : X.mg "list" = none) (hgz : Gl X "reversed") (hmz : X.mg "reversed" = none) (hc : X.calm = true) (ha : JA X [a] fl)
    (hs : starEach [a] X.env = [(false, eval a X.env)] := by rfl)
    (hs3 : starEach [.Call (.Name "reversed" p2) [a] [] pos2] X.env = [(false, eval (.Call (.Name "reversed" p2) [a] [] pos2) X.env)] := by rfl) :
    JN X (.Call (.Name "list" p) [.Call (.Name "reversed" p2) [a] [] pos2] [] pos) (qvk_ fl) :=
  ⟨imE (qj3_ hgl hml hgz hmz hc ha.h hs hs3) fun σ H Q hh => ex5 hh fun Z F ρ M P ag hf k => ⟨Z, F, ρ, M, _, ag, hf, fun vs H1 F1 ds ρ1 M1 s1 ag1 r1 h1 => by
    split at h1
    · obtain ⟨v, rfl, rv⟩ := rps1 r1
      rw [Rp] at rv
      obtain ⟨q, ws, rfl, g1, g2⟩ := rv
      refine ⟨q, ws, rfl, .inl (qk_ ag1.m.sm g1), by rw [← g2.length]; exact h1.1, fun l hl => ?_⟩
      obtain ⟨n1, n2, n3, n4, nz, n5, n6⟩ := newN ag1 hl (Rps.rev g2)
      exact k l _ _ F1 _ ρ1 M1 s1 n1 n2 n3 n4 nz n5 n6 h1.2
    · exact h1.elim⟩⟩
def wExt (i : Nat) (fn : WN) : WS := fun E ρ M => isOw ρ[i]? ∧ fn ρ M fun ds ρ1 M1 => match ρ1[i]? with
  | some (.ow es) => es.length + ds.length ≤ sizeLine ∧ E.nx (ρ1.set i (.ow (es ++ ds))) M1
  | _ => False
theorem qp4_ (i : Nat) (hn : JN X e fn) (hN : X.N[i]? = some x := by rfl) (hv : Vis X.env.scope x := by first | exact Or.inl rfl | exact Or.inr (Or.inl rfl) | exact Or.inr (Or.inr rfl)) (hd : (x == ("__debug__" : Str)) = false := by decide) (hcd : (x == ("__classdict__" : Str)) = false := by decide)
    (hbase : attributeBase (.Name x np) "extend" X.env (eval (.Name x np) X.env) = eval (.Name x np) X.env := by rfl)
    (hfew : ((backTo cpos (starEach [e] X.env)).all (fun x => !x.1) && (backToKw cpos (keywordEach [] X.env)).all (fun x => x.1.isSome) && decide ([e].length + ([] : List Keyword).length + (if ([] : List Keyword).isEmpty then 0 else 1) < 30)) = true := by rfl)
    (hline : (apos.endLine == cpos.line) = true := by rfl) (hs : starEach [e] X.env = [(false, eval e X.env)] := by rfl) (hplain : (backTo cpos (starEach [] X.env)).any (·.1) = false := by rfl)
    (hsw : swapsWith (.Call (.Attribute (.Name x np) "extend" apos) [e] [] cpos) none pos.line X.env = pure false := by rfl) : JS X (.Expr (.Call (.Attribute (.Name x np) "extend" apos) [e] [] cpos) pos) (wExt i fn) :=
  ⟨imS (qgm_ (qp0_ PySem.F.plainAttrs_list PySem.F.slot_list_extend PySem.F.type_list_extend qkc_ (L2.pv i hN hv hd hcd) (q4_ hn.h qd9_ hs) hbase hfew hline hs hplain) hsw) fun D' σ H hh => ex5 hh fun Z F ρ M E ag hf k => by
    obtain ⟨ho, hf⟩ := hf
    obtain ⟨ds0, ho⟩ := qen_ ho
    obtain ⟨p, vs, h1, h2, h3, h4, h5, h6⟩ := qcw_ ag ho
    refine ⟨.ref p, h1, .inl ⟨rfl, vs, SqL.of h2⟩, Z, F, ρ, M, _, ag, hf, fun q ws H1 F1 ds ρ1 M1 s1 ag1 n2 n3 n4 nz n5 r1 hh => ?_⟩
    split at hh
    · rename_i es hd
      obtain ⟨p', us, g1, g2, g3, g4, g5, g6⟩ := qcw_ ag1 hd
      rw [h1] at g1
      cases g1
      exact ⟨p, q, us, ws, rfl, rfl, g2, n2, by rw [← g6.length, ← r1.length]; exact hh.1, k.nx σ _ F1 _ M1 s1 (ag1.chg hd h1 g2 g3 g4 g5 (g6.append r1)) hh.2⟩
    · exact hh.elim⟩
end
def wFrE (i : Nat) (fe : WE) : WE := fun ρ M P => match uOf ρ[i]? with
  | some u => ∃ d A, Own M d u A ∧ fe ((clr ρ).set i (.sh d)) (fun _ => none) fun d' _ _ => noL d' = true ∧ P d' ρ M
  | none => False
theorem qss_ {X : Cx} {e : Expr} {fe : WE} (i : Nat) (h : JE X e fe) : JE X e (wFrE i fe) := ⟨imE h.h fun σ H Q hh => ex5 hh fun Z F ρ M P ag hf k => by
  unfold wFrE at hf
  split at hf
  · rename_i u hu
    obtain ⟨d, A, ow, hf⟩ := hf
    refine ⟨_, _, _, _, _, qi2_ ag hu ow, hf, fun v H' F' d' ρ' M' s' ag' r h => ?_⟩
    exact k v H' (drp A F') d' ρ M (qi8_ ag.m ow s') (qqt_ ag ow s' ag'.m) (Rp.drp (qtj_ ag.m ow s') h.1 r) h.2
  · exact hf.elim⟩
def qvh_ (k : Nat) (f : WN) : WS := fun E ρ M => f ρ M fun ds ρ1 M1 => E.nx (ρ1.set k (.sh (.lst ds))) M1
theorem qb8_ {X : Cx} {tg elt iter : Expr} {ifs : List Expr} {pos cpos pos' : Pos} {fe : WE} {fi : WI} {fg : WG} {fc : WT} {scope : Scope} {x : Str} {k : Nat} (hN : X.N.Nodup) (hk : X.N[k]? = some x) (hx : Loc X.env.scope x) (N : List Str) (src : List (Option Nat)) (ok : CompOk X scope N src) (hcalm : X.calm = true) (hi : JI X tg iter fi)
    (hg : ∀ pins s2 H2 C fp, JG (qt_ X pins s2 H2 N scope C fp) tg fg) (hc : ∀ pins s2 H2 C fp, JC (qt_ X pins s2 H2 N scope C fp) ifs fc) (he : ∀ pins s2 H2 C fp, JE (qt_ X pins s2 H2 N scope C fp) elt fe)
    (hsw : swapsWith (.ListComp elt [⟨tg, iter, ifs, 0⟩] scope cpos) (some (.Name x pos')) pos.line X.env = pure true := by rfl)
    (hs : ∀ x, foldedSetIterable iter X.env x = pure x := by intro _; rfl) (hfn : X.fn x = true ∨ X.env.scope.names.lookup x = some .local := by first | exact .inl rfl | exact .inr rfl | assumption) :
    JS X (.Assign [.Name x pos'] (.ListComp elt [⟨tg, iter, ifs, 0⟩] scope cpos) pos) (qvh_ k (qnf_ fi fg fc fe src)) :=
  ⟨imS (qfu_ hN hk hx N src ok hcalm hi.h (fun a b c d e => (hg a b c d e).h) (fun a b c d e => (hc a b c d e).h) (fun a b c d e => (he a b c d e).h) hsw hs hfn) fun D' σ H hh => ex5 hh fun Z F ρ M E ag hf kk =>
    qh5_ (fun _ _ _ _ h => h) (fun _ _ _ h => h) (fun _ _ _ h => h) σ H _ ⟨Z, F, ρ, M, _, ag, hf, fun p vs H' F' ds ρ' M' s' ag' n2 n3 n4 nz n5 r h => by
      have a := ag'.setO (i := k) n2 n3 n4 nz r n5
      by_cases c : k < ρ'.length
      · obtain ⟨F2, v, h1, h2, h3, h4⟩ := a.fz (i := k) (ds := ds) (by rw [List.getElem?_set_self c])
        rw [List.set_set] at h4
        exact kk.nx _ H' F2 _ M' (s'.trans h2) h4 h
      · have e1 : ρ'.set k (.ow ds) = ρ' := List.set_eq_of_length_le (by omega)
        have e2 : ρ'.set k (.sh (.lst ds)) = ρ' := List.set_eq_of_length_le (by omega)
        rw [e1] at a
        rw [e2] at h
        exact kk.nx _ H' F' _ M' s' a h⟩⟩
end L4
namespace L4
open PySem PySem.Spec PyProof.Rows L2 L3 PySem.SeqAt
theorem Ag.unset {K : PySem.W.Frag} {Z F H : Hp} {M : Mm} {ρ : Rho} {σ : L2.St} {j : Nat} (a : Ag K Z F M H ρ σ) : Ag K Z F M H (ρ.set j .un) (σ.set j none) := a.put (e := .un) (o := none) trivial fun _ _ z => nomatch z
section
variable {X : Cx} {e : Expr} {es : List Expr} {fl : WA} {fs : WS} {x n f S : Str} {i j : Nat} {g : List D → (Option D → Prop) → Prop} {k : Nat} {ps : List Str} {b0 : Stmt} {suite : List Stmt} {pos pos' p cpos np hpos tpos : Pos} {C Sa : Addr}
end
section
variable {X : Cx} {a b e : Expr} {pos np p np2 : Pos} {x y : Str}
end
open Classical in
theorem qqr_ {X : Cx} {pins : List (Addr × Obj)} {σ : L2.St} {H : Hp} {s : Shared} (I : Inv X pins σ H s) {A : Around} (hu : A.units + 60 < cLine) {d : D} {x : V} {u : Value} (rx : Rp X.K H d x) (ru : RelV x u) {es : List D} {vs : List V} {us : List Value} (re : Rps X.K H es vs) (rv : Vals vs us) (hd : ∀ e ∈ es, dep e ≤ 50) :
    ∃ e : Value → Bool, (∀ y, y ∈ us.toArray → EqAt A.in1 s y u (e y)) ∧ us.toArray.any e = es.any fun e => peq e d := by
  have uniq : ∀ (i j : Nat) (a b : D) (y : Value), es[i]? = some a → es[j]? = some b → us[i]? = some y → us[j]? = some y → a = b := fun i j a b y h1 h2 h3 h4 => by
    obtain ⟨v1, g1, g2⟩ := re.get h1
    obtain ⟨v2, g3, g4⟩ := re.get h2
    obtain ⟨w1, f1, f2⟩ := rv.get g1
    obtain ⟨w2, f3, f4⟩ := rv.get g3
    rw [h3] at f1
    rw [h4] at f3
    cases f1
    cases f3
    have := RelV.inj f2 f4
    subst this
    exact Rp.inj I g2 g4
  let e : Value → Bool := fun y => decide (∃ (i : Nat) (a : D), es[i]? = some a ∧ us[i]? = some y ∧ peq a d = true)
  have ev : ∀ (i : Nat) (a : D) (y : Value), es[i]? = some a → us[i]? = some y → e y = peq a d := fun i a y h1 h2 => by
    show decide _ = _
    by_cases c : peq a d = true
    · rw [c]; exact decide_eq_true ⟨i, a, h1, h2, c⟩
    · rw [Bool.not_eq_true] at c
      rw [c]
      refine decide_eq_false ?_
      rintro ⟨j, b, h3, h4, h5⟩
      rw [uniq j i b a y h3 h1 h4 h2, c] at h5
      cases h5
  have ll : es.length = us.length := re.length.trans rv.length
  refine ⟨e, fun y hy => ?_, ?_⟩
  · have hy : y ∈ us := by simpa using hy
    obtain ⟨i, hi⟩ := List.mem_iff_getElem?.mp hy
    have hil : i < es.length := by rw [ll]; exact (List.getElem?_eq_some_iff.mp hi).1
    have ha : es[i]? = some es[i] := List.getElem?_eq_getElem hil
    obtain ⟨v1, g1, g2⟩ := re.get ha
    obtain ⟨w1, f1, f2⟩ := rv.get g1
    rw [hi] at f1
    cases f1
    rw [ev i _ y ha hi]
    exact (qp1_ I A.in1 _ d v1 x y u (hd _ (List.getElem_mem hil)) (by rw [qcd_]; omega) g2 rx f2 ru).1
  · rw [← Array.any_toList]
    show us.any e = _
    rw [Bool.eq_iff_iff, List.any_eq_true, List.any_eq_true]
    constructor
    · rintro ⟨y, hy, h⟩
      obtain ⟨i, hi⟩ := List.mem_iff_getElem?.mp hy
      have hil : i < es.length := by rw [ll]; exact (List.getElem?_eq_some_iff.mp hi).1
      have ha : es[i]? = some es[i] := List.getElem?_eq_getElem hil
      rw [ev i _ y ha hi] at h
      exact ⟨_, List.getElem_mem hil, h⟩
    · rintro ⟨a, ha, h⟩
      obtain ⟨i, hi⟩ := List.mem_iff_getElem?.mp ha
      have hil : i < us.length := by rw [← ll]; exact (List.getElem?_eq_some_iff.mp hi).1
      have hy : us[i]? = some us[i] := List.getElem?_eq_getElem hil
      exact ⟨_, List.getElem_mem hil, by rw [ev i a _ hi hy]; exact h⟩
def rInD (K : PySem.W.Frag) (f : Bool → Bool) : R2 := fun x y H Q => ∃ d l es vs, Rp K H d x ∧ y = .ref l ∧ Rd H l (.lst vs) ∧ Rps K H es vs ∧ (∀ e ∈ es, dep e ≤ 50) ∧ Q (.bl (f (es.any fun e => peq e d))) H
theorem qr4_ {X : Cx} (hu : X.A.units + 60 < cLine) : OpR X (compareOp .In) (rInD X.K id) := by
  intro pins s σ H x y u v Q I rx ry h
  obtain ⟨d, l, es, vs, hd, rfl, hl, re, dd, q⟩ := h
  cases ry
  obtain ⟨its, rv, pl, hz⟩ := I.list (.inl hl)
  obtain ⟨e, h1, h2⟩ := qqr_ I hu hd rx re rv dd
  refine in_listAt e pl.isList h1 ?_
  rw [h2]
  exact ⟨.bl _, H, I, rfl, q⟩
def RIn (f : Bool → Bool) : D → D → (D → Prop) → Prop := fun x y P => match y with
  | .lst es => (∀ e ∈ es, dep e ≤ 50) ∧ P (.bl (f (es.any fun e => peq e x)))
  | _ => False
theorem w_in {X : Cx} (f : Bool → Bool) : OpW X (rInD X.K f) (RIn f) := fun x y v u F H Q P sm rx ry h k => by
  unfold RIn at h
  split at h
  · rename_i es
    rw [Rp] at ry
    obtain ⟨q, vs, rfl, g1, g2⟩ := ry
    exact ⟨x, q, es, vs, rx.same sm, rfl, qk_ sm g1, g2.same sm, h.1, k _ _ F H .rf (by rw [Rp]) h.2⟩
  · exact h.elim
section
variable {X : Cx} {a b : Expr} {pos : Pos} {fa fb : WE}
theorem qu4_ {k : Nat} (hr : Room k X.A) (ha : JE X a fa) (hb : JE X b fb) (hm : behindInMarks .In b = false := by with_unfolding_all rfl) : JT X (.Compare a [.In] [b] pos) (wB (wOp (RIn id) fa fb)) := qe4_ (qr4_ (Room.u60 hr)) (w_in id) ha hb hm
end
end L4
namespace L4
open PySem PySem.Spec PySem.Calls PyProof.Rows L2 L3
section
variable {P : Program} {w : World} {K : PySem.W.Frag} {mg : Str → Option Value} {base : Heap} {k : Nat} {x : Str} {st : Stmt} {N ps : List Str} {g : WFU}
end
section
variable {X : Cx} {a e : Expr} {es : List Expr} {pos p apos : Pos} {gl : WUA} {ga ge : WU} {fe : WE} {fl : WA} {x f : Str} {k : Nat} {ps : List Str}
end
section
variable {K : PySem.W.Frag} {Z F H H' : Hp} {M : Mm} {ρ : Rho} {σ : L2.St} {P : Addr} {lpos : Pos} {q : Str}
end
section
variable {X : Cx} {e : Expr} {fe : WE} {i j : Nat} {x y fld : Str} {c P cy C : Addr} {params : Arguments} {scope : Scope} {p pos lpos kp1 kp2 np p1 p2 p3 p4 : Pos} {ns : List Str}
end
end L4
namespace L4
open PySem PySem.Spec PySem.Calls PyProof.Rows L2 L3
section
variable {X : Cx} {a b : Expr} {pos : Pos} {fa fb : WE}
end
theorem len1 {α : Type} : ∀ {l : List α}, l.length = 1 → ∃ a, l = [a]
  | [a], _ => ⟨a, rfl⟩
theorem len2 {α : Type} : ∀ {l : List α}, l.length = 2 → ∃ a b, l = [a, b] := fun {l} h => match l with
  | a :: l => let ⟨b, e⟩ := len1 (l := l) (Nat.succ.inj h); ⟨a, b, congrArg _ e⟩
theorem len3 {α : Type} : ∀ {l : List α}, l.length = 3 → ∃ a b c, l = [a, b, c] := fun {l} h => match l with
  | a :: l => let ⟨b, c, e⟩ := len2 (l := l) (Nat.succ.inj h); ⟨a, b, c, congrArg _ e⟩
theorem len4 {α : Type} : ∀ {l : List α}, l.length = 4 → ∃ a b c d, l = [a, b, c, d] := fun {l} h => match l with
  | a :: l => let ⟨b, c, d, e⟩ := len3 (l := l) (Nat.succ.inj h); ⟨a, b, c, d, congrArg _ e⟩
end L4
set_option maxHeartbeats 4000000
namespace M
open PySem PySem.Spec PyProof.Rows L2 L3 L4
def top (i : Nat) : Stmt := PySem.Challenge.pw_shimright_k20_chosen_by_a_rule.main.body.getD i (.Pass ⟨0, 0, 0, 0⟩)
section
variable {P : Program} {w : World} {K : PySem.W.Frag} {mg : Str → Option Value} {base : Heap}
/-! ### fractions, over trees -/
abbrev q6_ : Stmt := top 11
theorem sc_common_divisor : FnScope ["one", "other", "larger", "smaller", "rest"] ["one", "other"] (qd_ q6_) := ⟨rfl, rfl, rfl, by decide +kernel, rfl, by decide +kernel, by decide +kernel⟩
def gGcd : List D → (D → Prop) → Prop := fun ds P => ∃ a b : Int, ds = [.int a, .int b] ∧ P (.int (Int.gcd a b : Int))
theorem qqp_ (a b : Int) : Int.gcd (if a < 0 then -a else a) (if b < 0 then -b else b) = Int.gcd a b := by
  split <;> split <;> simp [Int.gcd_neg, Int.neg_gcd]
theorem h_common_divisor (B : Bl mg) (F : Def K mg "common_divisor" q6_ ["one", "other"]) : Has P w K mg base CX0 1 "common_divisor" ["one", "other"] (spW K (pur gGcd)) := by
  refine F.hasP sc_common_divisor (fun ds P h => by obtain ⟨a, b, rfl, _⟩ := h; rfl) fun f cdv A outer s H E hr => ?_
  have nd := sc_common_divisor.nd
  refine ⟨_, (qc_ (qo_ (i := 2) nd rfl (Or.inl rfl) (qpt_ rfl B.abs (qa_ (jv 0) qb_)))
    (qc_ (qo_ (i := 3) nd rfl (Or.inl rfl) (qpt_ rfl B.abs (qa_ (jv 1) qb_)))
    (qc_ (qjn_ PassesOwn.never (qjy_ hr (jv 3) qe_) (qc_ (qo_ (i := 4) nd rfl (Or.inl rfl) (qfb_ (jv 2) (jv 3)))
    (qc_ (qo_ (i := 2) nd rfl (Or.inl rfl) (jv 3))
    (qg_ (qo_ (i := 3) nd rfl (Or.inl rfl) (jv 4))))))
    (qg_ (qr_ (jv 2)))))), ?_⟩
  rintro ds M Q ⟨a, b, rfl, q⟩
  refine ⟨fun m ρ M' => M' = M ∧ ∃ (l k : Int) (r : Ent), ρ = [.sh (.int a), .sh (.int b), .sh (.int l), .sh (.int k), r] ∧ m = k.natAbs ∧ 0 ≤ l ∧ 0 ≤ k ∧ Int.gcd l k = Int.gcd a b, ⟨_, rfl, _, _, _, rfl, rfl, ?_, ?_, qqp_ a b⟩, ?_⟩
  · split <;> omega
  · split <;> omega
  rintro m ρ M' ⟨rfl, l, k, r, rfl, rfl, hl, hk, e⟩
  refine ⟨by show 0 ≤ 60; decide, ?_⟩
  show if (!(k == 0)) = true then _ else _
  refine iteB (fun c => ?_) (fun c => ?_)
  · have c' : k ≠ 0 := by simpa using c
    exact ⟨c', _, qfs_ (a := l) c', rfl, _, _, _, rfl, rfl, hk, Int.fmod_nonneg hl hk, by rw [qja_, e]⟩
  · have c' : k = 0 := by simpa using c
    subst c'
    have e2 : l = (Int.gcd a b : Int) := by
      rw [← e, Int.gcd_zero_right]
      omega
    exact ⟨_, Sub.refl _, by rw [e2]; exact q⟩
abbrev qdg_ : Stmt := top 12
theorem sc_fraction : FnScope ["top", "bottom", "shared"] ["top", "bottom"] (qd_ qdg_) := ⟨rfl, rfl, rfl, by decide +kernel, rfl, by decide +kernel, by decide +kernel⟩
def gFr : List D → (D → Prop) → Prop := fun ds P => ∃ a b : Int, ds = [.int a, .int b] ∧ b ≠ 0 ∧ Sm 9000 b ∧ P (frD (Rat.divInt a b))
theorem h_fraction (B : Bl mg) (F : Def K mg "fraction" qdg_ ["top", "bottom"]) (F_common_divisor : Has P w K mg base CX0 1 "common_divisor" ["one", "other"] (spW K (pur gGcd))) : Has P w K mg base CX0 2 "fraction" ["top", "bottom"] (spW K (pur gFr)) := by
  refine F.hasP sc_fraction (fun ds P h => by obtain ⟨a, b, rfl, _⟩ := h; rfl) fun f cdv A outer s H E hr => ?_
  have nd := sc_fraction.nd
  refine ⟨_, (qc_ (qb9_ (qmn_ hr (jv 1) qe_) (qg_ qnt_) qv_)
    (qc_ (qo_ (i := 2) nd rfl (Or.inl rfl) (j_h F_common_divisor (hr.mono (by decide)) rfl (qa_ (jv 0) (qa_ (jv 1) qb_))))
    (qc_ (qb9_ (qj9_ (jv 1) qe_) (qg_ (qo_ (i := 2) nd rfl (Or.inl rfl) (qfe_ (jv 2)))) qv_)
    (qg_ (qr_ (qbl_ (qa_ (qc0_ (jv 0) (jv 2)) (qa_ (qc0_ (jv 1) (jv 2)) qb_)))))))), ?_⟩
  rintro ds M Q ⟨a, b, rfl, hb, hs, q⟩
  refine ⟨by show 0 ≤ 60; decide, ?_⟩
  show if (b == 0) = true then _ else _
  refine iteN (by simpa using hb) ?_
  refine ⟨a, b, rfl, ?_⟩
  have gs : Sm 9000 (Int.gcd a b : Int) := qoa_ hb hs
  have gp := qmg_ (a := a) hb
  have fin : ∀ g : Int, g = (if b < 0 then -(Int.gcd a b : Int) else (Int.gcd a b : Int)) → qnc_ a g ∧ qnc_ b g ∧ frD (Rat.divInt a b) = .tup [.int (a.fdiv g), .int (b.fdiv g)] := by
    intro g e
    have h1 : g ≠ 0 := by rw [e]; split <;> omega
    have h2 : Sm 9000 g := by
      rw [e]; split
      · exact gs.neg
      · exact gs
    refine ⟨⟨h1, h2⟩, ⟨h1, h2⟩, ?_⟩
    unfold frD
    rw [e, ← qox_ hb, ← qkd_ hb]
  show if decide (b < 0) = true then _ else _
  refine iteB (fun c => ?_) (fun c => ?_)
  · have c' : b < 0 := by simpa using c
    obtain ⟨g0, g1, g2⟩ := fin (-(Int.gcd a b : Int)) (by rw [if_pos c'])
    exact ⟨g0, g1, by show 2 ≤ sizeLine; decide, _, Sub.refl _, by rw [← g2]; exact q⟩
  · have c' : ¬ b < 0 := by simpa using c
    obtain ⟨g0, g1, g2⟩ := fin (Int.gcd a b : Int) (by rw [if_neg c'])
    exact ⟨g0, g1, by show 2 ≤ sizeLine; decide, _, Sub.refl _, by rw [← g2]; exact q⟩

/-! ### sums, products, order, over trees -/
def Mx (q r : Rat) : Prop := ∃ n m, n + m ≤ 8990 ∧ SmR n q ∧ SmR m r
theorem Mx.of {n m : Nat} {q r : Rat} (a : SmR n q) (b : SmR m r) (h : n + m ≤ 8990 := by decide) : Mx q r := ⟨n, m, h, a, b⟩
theorem Mx.c1 {q r : Rat} (h : Mx q r) : CM q.num r.den := let ⟨n, m, l, a, b⟩ := h; .inr ⟨n, m, by omega, a.1, b.2⟩
theorem Mx.c2 {q r : Rat} (h : Mx q r) : CM r.num q.den := let ⟨n, m, l, a, b⟩ := h; .inr ⟨m, n, by omega, b.1, a.2⟩
theorem Mx.c3 {q r : Rat} (h : Mx q r) : CM q.den r.den := let ⟨n, m, l, a, b⟩ := h; .inr ⟨n, m, by omega, a.2, b.2⟩
theorem Mx.c4 {q r : Rat} (h : Mx q r) : CM q.num r.num := let ⟨n, m, l, a, b⟩ := h; .inr ⟨n, m, by omega, a.1, b.1⟩
theorem Mx.s {q r : Rat} (h : Mx q r) : Sm 9000 ((q.den : Int) * (r.den : Int)) := let ⟨n, m, l, a, b⟩ := h; (a.2.mul b.2).mono (by omega)
theorem qkm_ (q r : Rat) : (q.den : Int) * (r.den : Int) ≠ 0 := Int.mul_ne_zero (qe6_ q) (qe6_ r)
def gOp (f : Rat → Rat → Rat) : List D → (D → Prop) → Prop := fun ds P => ∃ q r : Rat, ds = [frD q, frD r] ∧ Mx q r ∧ P (frD (f q r))
abbrev qq2_ (P : Program) (w : World) (K : PySem.W.Frag) (mg : Str → Option Value) (base : Heap) : Prop := Has P w K mg base CX0 2 "fraction" ["top", "bottom"] (spW K (pur gFr))
abbrev qiq_ : Stmt := top 13
theorem sc_plus : FnScope ["q", "r"] ["q", "r"] (qd_ qiq_) := ⟨rfl, rfl, rfl, by decide +kernel, rfl, by decide +kernel, by decide +kernel⟩
theorem h_plus (B : Bl mg) (F : Def K mg "plus" qiq_ ["q", "r"]) (F_fraction : qq2_ P w K mg base) : Has P w K mg base CX0 3 "plus" ["q", "r"] (spW K (pur (gOp fun q r => q + r))) := by
  refine F.hasP sc_plus (fun ds P h => by obtain ⟨a, b, rfl, _⟩ := h; rfl) fun f cdv A outer s H E hr => ?_
  have nd := sc_plus.nd
  refine ⟨_, (qg_ (qr_ (j_h F_fraction (hr.mono (by decide)) rfl (qa_ (qds_ (qby_ (qm_ 0 qe_) (qm_ 1 qe_)) (qby_ (qm_ 1 qe_) (qm_ 0 qe_))) (qa_ (qby_ (qm_ 0 qe_) (qm_ 1 qe_)) qb_))))), ?_⟩
  rintro ds M Q ⟨q, r, rfl, m, k⟩
  exact ⟨m.c1, m.c2, m.c3, _, _, rfl, qkm_ q r, m.s, _, Sub.refl _, by rw [qo8_]; exact k⟩
abbrev qgo_ : Stmt := top 15
theorem sc_times : FnScope ["q", "r"] ["q", "r"] (qd_ qgo_) := ⟨rfl, rfl, rfl, by decide +kernel, rfl, by decide +kernel, by decide +kernel⟩
theorem h_times (B : Bl mg) (F : Def K mg "times" qgo_ ["q", "r"]) (F_fraction : qq2_ P w K mg base) : Has P w K mg base CX0 3 "times" ["q", "r"] (spW K (pur (gOp fun q r => q * r))) := by
  refine F.hasP sc_times (fun ds P h => by obtain ⟨a, b, rfl, _⟩ := h; rfl) fun f cdv A outer s H E hr => ?_
  have nd := sc_times.nd
  refine ⟨_, (qg_ (qr_ (j_h F_fraction (hr.mono (by decide)) rfl (qa_ (qby_ (qm_ 0 qe_) (qm_ 1 qe_)) (qa_ (qby_ (qm_ 0 qe_) (qm_ 1 qe_)) qb_))))), ?_⟩
  rintro ds M Q ⟨q, r, rfl, m, k⟩
  exact ⟨m.c4, m.c3, _, _, rfl, qkm_ q r, m.s, _, Sub.refl _, by rw [qpb_]; exact k⟩

/-! ### the module's fraction 0 -/
abbrev Zero4 (K : PySem.W.Frag) (mg : Str → Option Value) : Prop := Cst K mg "ZERO" (frD 0)
theorem Zero4.of {a : Addr} {od : Option Addr} {sl : Array (Option Value)} {n : Nat} {t0 t1 : Tok} (h : mg "ZERO" = some (.ref a)) (l : K.lookup a = some ⟨.type "tuple", od, .seq #[.int 0 t0, .int 1 t1] n, sl⟩) : Zero4 K mg :=
  ⟨.ref a, .ref a, h, rfl, fun F => by
    rw [frD, Rp]
    refine ⟨a, [.int 0, .int 1], rfl, .inr ⟨_, _, _, l, rfl, rfl, by show 2 ≤ sizeLine; decide, .cons ⟨_, rfl⟩ (.cons ⟨_, rfl⟩ .nil)⟩, ?_⟩
    rw [Rps]
    exact ⟨_, _, rfl, by rw [Rp]; rfl, by rw [Rps]; exact ⟨_, _, rfl, by rw [Rp]; rfl, by rw [Rps]⟩⟩⟩

/-! ### sums of products -/
def dot : List Rat → List Rat → Rat
  | q :: qs, r :: rs => q * r + dot qs rs
  | _, _ => 0
theorem qik_ : ∀ {qs rs : List Rat} {i : Nat} {q r : Rat}, qs[i]? = some q → rs[i]? = some r → dot (qs.take (i + 1)) (rs.take (i + 1)) = dot (qs.take i) (rs.take i) + q * r
  | [], _, _, _, _, h, _ => by simp at h
  | _ :: _, [], _, _, _, _, h => by simp at h
  | a :: qs, b :: rs, 0, q, r, h1, h2 => by
    simp only [List.getElem?_cons_zero, Option.some.injEq] at h1 h2
    subst h1 h2
    simp only [List.take_succ_cons, List.take_zero, dot]
    grind
  | a :: qs, b :: rs, i + 1, q, r, h1, h2 => by
    simp only [List.getElem?_cons_succ] at h1 h2
    have := qik_ (i := i) h1 h2
    simp only [List.take_succ_cons, dot] at this ⊢
    rw [this]
    grind
theorem sm0 : SmR 1 (0 : Rat) := ⟨by unfold Sm; decide, by unfold Sm; decide⟩
structure Two (n m k : Nat) (qs rs : List Rat) : Prop where
  len : qs.length = rs.length
  few : qs.length ≤ k
  bnd : (n + m + 1) * k ≤ 8900
  s1 : ∀ q ∈ qs, SmR n q
  s2 : ∀ q ∈ rs, SmR m q
abbrev frL (qs : List Rat) : D := .lst (qs.map frD)
theorem qot_ : ∀ {qs rs : List Rat} {i : Nat} {d : D}, (zipD (qs.map frD) (rs.map frD))[i]? = some d → ∃ q r, qs[i]? = some q ∧ rs[i]? = some r ∧ d = .tup [frD q, frD r] := fun {qs rs i d} h => by
  obtain ⟨x, y, h1, h2, rfl⟩ := qgg_ h
  rw [List.getElem?_map, Option.map_eq_some_iff] at h1 h2
  obtain ⟨q, e1, rfl⟩ := h1
  obtain ⟨r, e2, rfl⟩ := h2
  exact ⟨q, r, e1, e2, rfl⟩
theorem qg8_ : ∀ (qs rs : List Rat), dot (qs.take (min qs.length rs.length)) (rs.take (min qs.length rs.length)) = dot qs rs
  | [], _ => by simp [dot]
  | _ :: _, [] => by simp [dot]
  | q :: qs, r :: rs => by
    have := qg8_ qs rs
    rw [List.length_cons, List.length_cons, Nat.succ_min_succ, List.take_succ_cons, List.take_succ_cons, dot, dot, this]

/-! ### the fraction 1, opposites, lists that are 0 but at a place -/
abbrev One4 (K : PySem.W.Frag) (mg : Str → Option Value) : Prop := Cst K mg "ONE" (frD 1)
theorem One4.of {a : Addr} {od : Option Addr} {sl : Array (Option Value)} {n : Nat} {t0 t1 : Tok} (h : mg "ONE" = some (.ref a)) (l : K.lookup a = some ⟨.type "tuple", od, .seq #[.int 1 t0, .int 1 t1] n, sl⟩) : One4 K mg :=
  ⟨.ref a, .ref a, h, rfl, fun F => by
    rw [frD, Rp]
    refine ⟨a, [.int 1, .int 1], rfl, .inr ⟨_, _, _, l, rfl, rfl, by show 2 ≤ sizeLine; decide, .cons ⟨_, rfl⟩ (.cons ⟨_, rfl⟩ .nil)⟩, ?_⟩
    rw [Rps]
    exact ⟨_, _, rfl, by rw [Rp]; rfl, by rw [Rps]; exact ⟨_, _, rfl, by rw [Rp]; rfl, by rw [Rps]⟩⟩⟩
def gOpp : List D → (D → Prop) → Prop := fun ds P => ∃ q : Rat, ds = [frD q] ∧ P (frD (-q))
abbrev qdh_ : Stmt := top 14
theorem sc_opposite : FnScope ["q"] ["q"] (qd_ qdh_) := ⟨rfl, rfl, rfl, by decide +kernel, rfl, by decide +kernel, by decide +kernel⟩
theorem h_opposite (B : Bl mg) (F : Def K mg "opposite" qdh_ ["q"]) : Has P w K mg base CX0 1 "opposite" ["q"] (spW K (pur gOpp)) := by
  refine F.hasP sc_opposite (fun ds P h => by obtain ⟨_, rfl, _⟩ := h; rfl) fun f cdv A outer s H E hr => ?_
  have nd := sc_opposite.nd
  refine ⟨_, (qg_ (qr_ (qbl_ (qa_ (qfe_ (qm_ 0 qe_)) (qa_ (qm_ 0 qe_) qb_))))), ?_⟩
  rintro ds M Q ⟨q, rfl, k⟩
  have e : frD (-q) = .tup [.int (-q.num), .int (q.den : Int)] := by rw [frD, Rat.neg_num, Rat.neg_den]
  rw [e] at k
  exact ⟨by show 2 ≤ sizeLine; decide, _, Sub.refl _, k⟩
def qbx_ (n k : Nat) (q : Rat) : List Rat := (List.replicate n 0).set k q
def qt9_ : List D → (D → Prop) → Prop := fun ds P => ∃ (n k : Nat) (q : Rat), ds = [.int n, .int k, frD q] ∧ k < n ∧ n ≤ 1000 ∧ P (frL (qbx_ n k q))
abbrev qba_ : Stmt := top 23
theorem sc_all_but_one_0 : FnScope ["length", "place", "q", "told"] ["length", "place", "q"] (qd_ qba_) := ⟨rfl, rfl, rfl, by decide +kernel, rfl, by decide +kernel, by decide +kernel⟩
theorem h_all_but_one_0 (B : Bl mg) (F : Def K mg "all_but_one_0" qba_ ["length", "place", "q"]) (C_ZERO : Zero4 K mg) : Has P w K mg base CX0 1 "all_but_one_0" ["length", "place", "q"] (spN K qt9_) := by
  refine F.hasN sc_all_but_one_0 (fun ds P h => by obtain ⟨_, _, _, rfl, _⟩ := h; rfl) fun f cdv A outer s H E hr => ?_
  have nd := sc_all_but_one_0.nd
  refine ⟨_, (qc_ (qkp_ (k := 3) nd rfl (Or.inl rfl) ["k"] [none] ⟨rfl, by decide +kernel, by decide +kernel, rfl, rfl, by intro i x j _ h; exact absurd h (by rcases i with _ | _ | _ | i <;> simp)⟩ rfl (qex_ rfl B.range (qa_ (jv 0) qb_)) (fun _ _ _ _ _ => (qj_ (i := 0) (show List.Nodup [("k" : Str)] by decide +kernel) rfl (Or.inl rfl))) (fun _ _ _ _ _ => qb0_) (fun _ _ _ _ _ => (qc1_ C_ZERO rfl)))
    (qc_ (qlo_ 3 (jv 2) (jv 1))
    (qg_ (qdu_ (ju_v 3))))), ?_⟩
  rintro ds M Q ⟨n, k, q, rfl, kn, n1, kk⟩
  refine ⟨⟨by omega, by omega⟩, fun i out ρ M' => M' = M ∧ out = List.replicate i (frD 0) ∧ ∃ o, ρ = [o], ⟨rfl, rfl, _, rfl⟩, ?_, ?_⟩
  · rintro i d out ρ M' hd ⟨rfl, rfl, o, rfl⟩
    have hi : i < n := by have := (List.getElem?_eq_some_iff.mp hd).1; simpa [rngD] using this
    exact ⟨by rw [List.length_replicate]; exact qn_ (by omega), rfl, by rw [List.replicate_succ'], .sh d, rfl⟩
  · rintro out ρ M' ⟨rfl, rfl, o, rfl⟩
    have ln : (rngD 0 (n : Int).toNat).length = n := by simp [rngD]
    rw [ln]
    refine ⟨trivial, ?_⟩
    have e : ixN (List.replicate n (frD 0)).length (k : Int) = some k := by
      rw [List.length_replicate]
      unfold ixN
      rw [if_pos (by omega), if_pos (by omega)]
      rfl
    show match ixN (List.replicate n (frD 0)).length (k : Int) with | some n => _ | none => False
    rw [e]
    have e2 : frL (qbx_ n k q) = .lst ((List.replicate n (frD 0)).set k (frD q)) := by rw [frL, qbx_, List.map_set, List.map_replicate]
    rw [e2] at kk
    refine fun p hp => ⟨_, _, Sub.refl _, .newD ?_ hp, kk⟩
    have e3 : (List.replicate n (frD 0)).set k (frD q) = (qbx_ n k q).map frD := by rw [qbx_, List.map_set, List.map_replicate]
    rw [e3]
    exact qb2_ fun _ => rfl

/-! ### the rows of a plan, over trees -/
abbrev BR := List Rat × Rat
def rQ (r : BR) : D := .tup [frL r.1, frD r.2]
def qjq_ (n k : Nat) (x : Rat × Rat) : List BR := [(qbx_ n k 1, -x.1), (qbx_ n k (-1), x.2)]
def qco_ (T : List (Rat × Rat)) : List BR := (T.mapIdx fun k x => qjq_ T.length k x).flatten
theorem qh9_ {α β : Type} (f : Nat → α → β) {l : List α} {i : Nat} {x : α} (h : l[i]? = some x) : (l.take (i + 1)).mapIdx f = (l.take i).mapIdx f ++ [f i x] := by
  have hi := (List.getElem?_eq_some_iff.mp h).1
  rw [List.take_add_one, h, Option.toList_some, List.mapIdx_append, List.mapIdx_singleton, List.length_take, Nat.min_eq_left (by omega), Nat.zero_add]
def bQ (x : Rat × Rat) : D := .tup [frD x.1, frD x.2]
def gBR : List D → (D → Prop) → Prop := fun ds P => ∃ T : List (Rat × Rat), ds = [.lst (T.map bQ)] ∧ T.length ≤ 100 ∧ P (.lst ((qco_ T).map rQ))
theorem qh7_ (n : Nat) : ∀ (l : List (List BR)), (∀ x ∈ l, x.length = 2) → l.flatten.length = 2 * l.length
  | [], _ => rfl
  | a :: l, h => by rw [List.flatten_cons, List.length_append, h a (by simp), qh7_ n l fun x hx => h x (by simp [hx]), List.length_cons]; omega
abbrev qb7_ : Stmt := top 24
theorem sc_bound_rows : FnScope ["shims", "told", "k", "pair"] ["shims"] (qd_ qb7_) := ⟨rfl, rfl, rfl, by decide +kernel, rfl, by decide +kernel, by decide +kernel⟩
theorem h_bound_rows (B : Bl2 mg) (F : Def K mg "bound_rows" qb7_ ["shims"]) (F_all_but_one_0 : Has P w K mg base CX0 1 "all_but_one_0" ["length", "place", "q"] (spN K qt9_)) (F_opposite : Has P w K mg base CX0 1 "opposite" ["q"] (spW K (pur gOpp))) (C_ONE : One4 K mg) : Has P w K mg base CX0 2 "bound_rows" ["shims"] (spN K gBR) := by
  refine F.hasN sc_bound_rows (fun ds P h => by obtain ⟨_, rfl, _⟩ := h; rfl) fun f cdv A outer s H E hr => ?_
  have nd := sc_bound_rows.nd
  refine ⟨_, (qc_ (qdr_ (i := 1) nd rfl (Or.inl rfl) (qfj_ (qla_ (qbn_ qb_))))
    (qc_ (qbv_ PassesOwn.never rfl (qry_ rfl B.enumerate (qa_ (jv 0) qb_)) (qd7_ (n := 2) rfl (qs_ (qj_ (i := 2) nd rfl (Or.inl rfl)) (qs_ (qj_ (i := 3) nd rfl (Or.inl rfl)) qcs_)))
    (qc_ (qep_ (ju_v 1) (qks_ (qb1_ (j_hN F_all_but_one_0 (hr.mono (by decide)) rfl (qa_ (qhe_ 0 rfl B.len) (qa_ (jv 2) (qa_ (qc1_ C_ONE rfl) qb_)))) (qb1_ (ju_d (j_h F_opposite (hr.mono (by decide)) rfl (qa_ (qm_ 3 qe_) qb_))) qf2_))))
    (qg_ (qep_ (ju_v 1) (qks_ (qb1_ (j_hN F_all_but_one_0 (hr.mono (by decide)) rfl (qa_ (qhe_ 0 rfl B.len) (qa_ (jv 2) (qa_ (j_h F_opposite (hr.mono (by decide)) rfl (qa_ (qc1_ C_ONE rfl) qb_)) qb_)))) (qb1_ (ju_d (qm_ 3 qe_)) qf2_)))))))
    (qg_ (qdu_ (ju_v 1))))), ?_⟩
  rintro ds M Q ⟨T, rfl, l1, k⟩
  refine ⟨by show 0 ≤ sizeLine; decide, fun p hp => ⟨fun i ρ M' => Fresh M M' (.lst ((((T.take i).mapIdx fun k x => qjq_ T.length k x).flatten).map rQ)) (.adr p) ∧ ∃ o2 o3, ρ = [.sh (.lst (T.map bQ)), .ut (.adr p), o2, o3], ⟨.newD rfl hp, _, _, rfl⟩, ?_, ?_⟩⟩
  · rintro i d ρ M' hd ⟨fr, o2, o3, rfl⟩
    obtain ⟨x, hx, rfl⟩ := qgb_ hd
    rw [List.getElem?_map, Option.map_eq_some_iff] at hx
    obtain ⟨x, hx, rfl⟩ := hx
    have hi := (List.getElem?_eq_some_iff.mp hx).1
    have hlen : ((((T.take i).mapIdx fun k x => qjq_ T.length k x).flatten).map rQ).length ≤ 200 := by
      rw [List.length_map, qh7_ 0 _ (by intro y hy; obtain ⟨j, hj, rfl⟩ := List.mem_mapIdx.mp hy; rfl), List.length_mapIdx, List.length_take]
      omega
    have el : ((T.map bQ).length : Int) = (T.length : Int) := by rw [List.length_map]
    obtain ⟨us, e1, n1, st1⟩ := fr.own_of
    refine ⟨rfl, ⟨us, e1⟩, T.length, i, 1, ?_, hi, by omega, fun u M2 f2 => ⟨x.1, rfl, by show 2 ≤ sizeLine; decide, us, st1 _ _ _ f2, by rw [n1]; exact Nat.lt_of_le_of_lt hlen (by decide), ?_⟩⟩
    · rw [el, Nat.zero_add]
    have fr2 := fr.push (Fresh.tup (.cons f2 (.cons (Fresh.leaf (d := frD (-x.1)) rfl) .nil))) (st1 _ _ _ f2)
    obtain ⟨us2, e2, n2, st2⟩ := fr2.own_of
    refine ⟨⟨us2, e2⟩, 1, rfl, T.length, i, -1, ?_, hi, by omega, fun u3 M3 f3 => ⟨by show 2 ≤ sizeLine; decide, us2, st2 _ _ _ f3, ?_, ?_⟩⟩
    · rw [el, Nat.zero_add]
    · rw [n2, List.length_append]; exact Nat.lt_of_le_of_lt (show _ ≤ 201 by simp at hlen ⊢; omega) (by decide)
    have fr3 := fr2.push (Fresh.tup (.cons f3 (.cons (Fresh.leaf (d := frD x.2) rfl) .nil))) (st2 _ _ _ f3)
    refine ⟨?_, .sh (.int i), .sh (bQ x), ?_⟩
    · rw [qh9_ _ hx, List.flatten_append, List.map_append]
      rw [List.append_assoc] at fr3
      exact fr3
    · rw [Nat.zero_add]; rfl
  · rintro ρ M' ⟨fr, o2, o3, rfl⟩
    rw [qej_, List.length_map, List.take_length] at fr
    exact ⟨_, _, Sub.refl _, fr, k⟩
abbrev ZR := List Rat × List Rat × Rat
def zQ (z : ZR) : D := .tup [frL z.1, frL z.2.1, frD z.2.2]
theorem qbt_ {α : Type} {f : α → D} {l : List α} {i : Nat} {x : α} (h : l[i]? = some x) : (l.take i).map f ++ [f x] = (l.take (i + 1)).map f := by
  rw [List.take_add_one, h, List.map_append]; rfl

/-! ### plans as trees -/
def qeu_ (S T : List (Rat × Rat)) (Z : List ZR) : D := .tup [.lst (S.map bQ), .lst (T.map bQ), .lst (Z.map zQ)]
theorem q0_ {α : Type} {f : α → D} {l : List α} {i : Nat} {d : D} (h : (l.map f)[i]? = some d) : ∃ x, l[i]? = some x ∧ d = f x := by
  rw [List.getElem?_map, Option.map_eq_some_iff] at h
  obtain ⟨x, e, rfl⟩ := h
  exact ⟨x, e, rfl⟩
theorem qcf_ {α : Type} {l : List α} {x : α} {p : α → Prop} (h : ∀ y ∈ l, p y) (k : p x) : ∀ y ∈ l ++ [x], p y := fun y hy => by
  rcases List.mem_append.mp hy with z | z
  · exact h y z
  · rw [List.mem_singleton] at z; subst z; exact k
theorem qtm_ {n k : Nat} (h : k < n) : ixN n (k : Int) = some k := by
  unfold ixN
  rw [if_pos (by omega), if_pos (by omega)]
  rfl
theorem qoo_ {α : Type} {ds : List α} {k : Nat} {d : α} (h : ds[k]? = some d) : atI ds (k : Int) = some d := by
  have := (List.getElem?_eq_some_iff.mp h).1
  unfold atI
  rw [qtm_ this]; exact h
theorem RIx.get {ds : List D} {k : Nat} {d : D} {P : D → Prop} (h : ds[k]? = some d) (p : P d) : RIx (.lst ds) (.int (k : Int)) P := by
  show match atI ds (k : Int) with | some d => P d | none => False
  rw [qoo_ h]; exact p
theorem qm3_ {n i : Nat} {d : D} (h : (rngD 0 n)[i]? = some d) : d = .int (i : Int) ∧ i < n := by
  obtain ⟨h1, h2⟩ := qeq_ h
  rw [Int.zero_add] at h1
  exact ⟨h1, h2⟩
theorem qrd_ {ds : List D} {i : Int} (h0 : 0 ≤ i) (h1 : i < ds.length) : ∃ d, d ∈ ds ∧ atI ds i = some d := by
  have hi : i.toNat < ds.length := by omega
  refine ⟨ds[i.toNat], List.getElem_mem hi, ?_⟩
  unfold atI ixN
  rw [if_pos (by omega), if_pos (by omega)]
  exact List.getElem?_eq_getElem hi
theorem RIx.lst {ds : List D} {i : Int} {P : D → Prop} (h0 : 0 ≤ i) (h1 : i < ds.length) (k : ∀ d, d ∈ ds → P d) : RIx (.lst ds) (.int i) P := by
  obtain ⟨d, h2, h3⟩ := qrd_ h0 h1
  show match atI ds i with | some d => P d | none => False
  rw [h3]; exact k d h2
theorem qbk_ {α : Type} {f : α → D} {n : Nat} (h : ∀ a, dep (f a) ≤ n) : ∀ l : List α, deps (l.map f) ≤ n
  | [] => by rw [List.map_nil, deps]; exact Nat.zero_le _
  | x :: l => by rw [List.map_cons, deps]; exact Nat.max_le.mpr ⟨h x, qbk_ h l⟩
theorem qcm_ (q : Rat) : dep (frD q) ≤ 1 := by simp [frD, dep, deps]
theorem qef_ (qs : List Rat) : dep (frL qs) ≤ 2 := by rw [dep]; exact Nat.succ_le_succ (qbk_ qcm_ qs)
theorem qlq_ (z : ZR) : dep (zQ z) ≤ 3 := by
  have h1 := qef_ z.1
  have h2 := qef_ z.2.1
  have h3 := qcm_ z.2.2
  simp only [zQ, dep, deps] at h1 h2 ⊢; omega
theorem frI (i : Int) : D.tup [.int i, .int 1] = frD (i : Rat) := by rw [frD, Rat.num_intCast, Rat.den_intCast]; rfl

/-! ### rows put on, shims taken out -/
def qjj_ : List D → (D → Prop) → Prop := fun ds P => ∃ q r : Rat, ds = [frD q, frD r] ∧ Mx q r ∧ P (.bl (decide (q < r)))
abbrev qf4_ : Stmt := top 17
theorem sc_below : FnScope ["q", "r"] ["q", "r"] (qd_ qf4_) := ⟨rfl, rfl, rfl, by decide +kernel, rfl, by decide +kernel, by decide +kernel⟩
theorem h_below (B : Bl mg) (F : Def K mg "below" qf4_ ["q", "r"]) : Has P w K mg base CX0 1 "below" ["q", "r"] (spW K (pur qjj_)) := by
  refine F.hasP sc_below (fun ds P h => by obtain ⟨a, b, rfl, _⟩ := h; rfl) fun f cdv A outer s H E hr => ?_
  have nd := sc_below.nd
  refine ⟨_, (qg_ (qr_ (j_lt (qby_ (qm_ 0 qe_) (qm_ 1 qe_)) (qby_ (qm_ 1 qe_) (qm_ 0 qe_))))), ?_⟩
  rintro ds M Q ⟨q, r, rfl, m, k⟩
  exact ⟨m.c1, m.c2, _, Sub.refl _, by have := r_lt q r; dsimp only at this ⊢; rw [this]; exact k⟩
abbrev qix_ (P : Program) (w : World) (K : PySem.W.Frag) (mg : Str → Option Value) (base : Heap) : Prop := Has P w K mg base CX0 1 "below" ["q", "r"] (spW K (pur qjj_))
abbrev qqj_ (P : Program) (w : World) (K : PySem.W.Frag) (mg : Str → Option Value) (base : Heap) : Prop := Has P w K mg base CX0 3 "plus" ["q", "r"] (spW K (pur (gOp fun q r => q + r)))
abbrev qn9_ (P : Program) (w : World) (K : PySem.W.Frag) (mg : Str → Option Value) (base : Heap) : Prop := Has P w K mg base CX0 3 "times" ["q", "r"] (spW K (pur (gOp fun q r => q * r)))
structure RowOk (s t n : Nat) (z : ZR) : Prop where
  s : z.1.length = s
  t : z.2.1.length = t
  a : ∀ q ∈ z.1, SmR n q
  b : ∀ q ∈ z.2.1, SmR n q
  c : SmR n z.2.2
theorem RowOk.mono {s t n m : Nat} {z : ZR} (h : RowOk s t n z) (l : n ≤ m) : RowOk s t m z := ⟨h.s, h.t, fun q hq => (h.a q hq).mono l, fun q hq => (h.b q hq).mono l, h.c.mono l⟩
def idle (z : ZR) : Bool := (z.1 ++ z.2.1).all (fun q => decide (q = 0)) && !decide (z.2.2 < 0)
theorem qiz_ {n : Nat} (h : n ≤ 100000) : n < sizeLine := Nat.lt_of_le_of_lt h (by rw [sizeLine_eq]; decide)
theorem qlu_ {q r : Rat} (h : frD q = frD r) : q = r := by
  have := qk7_ q r
  rw [h, qb3_] at this
  simpa using this.symm
theorem qf9_ : ∀ {qs rs : List Rat}, qs.map frD = rs.map frD → qs = rs
  | [], [], _ => rfl
  | [], _ :: _, h => by simp at h
  | _ :: _, [], h => by simp at h
  | q :: qs, r :: rs, h => by
    rw [List.map_cons, List.map_cons] at h
    injection h with h1 h2
    rw [qlu_ h1, qf9_ h2]
def gSN : List D → (D → Prop) → Prop := fun ds P => ∃ (z : ZR) (s t : Nat), ds = [zQ z] ∧ RowOk s t 4000 z ∧ s ≤ 100 ∧ t ≤ 100 ∧ P (.bl (idle z))
abbrev qbj_ : Stmt := top 26
theorem sc_says_nothing : FnScope ["row"] ["row"] (qd_ qbj_) := ⟨rfl, rfl, rfl, by decide +kernel, rfl, by decide +kernel, by decide +kernel⟩
theorem h_says_nothing (B : Bl mg) (F : Def K mg "says_nothing" qbj_ ["row"]) (F_below : qix_ P w K mg base) (C_ZERO : Zero4 K mg) : Has P w K mg base CX0 2 "says_nothing" ["row"] (spW K (pur gSN)) := by
  refine F.hasP sc_says_nothing (fun ds P h => by obtain ⟨_, _, _, rfl, _⟩ := h; rfl) fun f cdv A outer s H E hr => ?_
  have nd := sc_says_nothing.nd
  refine ⟨_, (qg_ (qr_ (qn3_ (qvw_ rfl B.all rfl (qa_ (j_fz (qhs_ ["q"] [none] ⟨rfl, by decide +kernel, by decide +kernel, rfl, rfl, by intro i x j _ h; exact absurd h (by rcases i with _ | _ | _ | i <;> simp)⟩ rfl (qu_ (j_fz (qin_ (qm_ 0 qe_) (qm_ 0 qe_)))) (fun _ _ _ _ _ => (qj_ (i := 0) (show List.Nodup [("q" : Str)] by decide +kernel) rfl (Or.inl rfl))) (fun _ _ _ _ _ => qb0_) (fun _ _ _ _ _ => (j_eq hr (jv 0) (qc1_ C_ZERO rfl))))) qb_)) (qpa_ (qpf_ (j_h F_below (hr.mono (by decide)) rfl (qa_ (qm_ 0 qe_) (qa_ (qc1_ C_ZERO rfl) qb_)))))))), ?_⟩
  rintro ds M Q ⟨z, s, t, rfl, ok, hs, ht, k⟩
  have l1 := ok.s
  have l2 := ok.t
  refine ⟨Nat.le_trans (show _ ≤ 200 by rw [List.length_map, List.length_map]; omega) (by rw [sizeLine_eq]; decide), ?_⟩
  refine ⟨fun i out ρ M' => M' = M ∧ out = ((z.1 ++ z.2.1).take i).map (fun q => D.bl (decide (q = 0))) ∧ ∃ o, ρ = [o], ⟨rfl, rfl, _, rfl⟩, ?_, ?_⟩
  · rintro i d out ρ M' hd ⟨rfl, rfl, o, rfl⟩
    have hd : (z.1.map frD ++ z.2.1.map frD)[i]? = some d := hd
    rw [← List.map_append] at hd
    obtain ⟨q, hq, rfl⟩ := q0_ hd
    have hi := (List.getElem?_eq_some_iff.mp hq).1
    rw [List.length_append] at hi
    refine ⟨Nat.le_trans (qcm_ q) (by decide), by rw [List.length_map, List.length_take]; exact qn_ (by omega), rfl, ?_, .sh (frD q), rfl⟩
    rw [← qbt_ (f := fun q : Rat => D.bl (decide (q = 0))) hq]
    have := qk7_ q 0
    rw [← this]
  rintro out ρ M' ⟨rfl, rfl, o, rfl⟩
  have el : (z.1.map frD ++ z.2.1.map frD).length = (z.1 ++ z.2.1).length := by rw [← List.map_append, List.length_map]
  rw [el, List.take_length]
  show match bls ((z.1 ++ z.2.1).map fun q => D.bl (decide (q = 0))) with | some bs => _ | none => False
  have eb : ((z.1 ++ z.2.1).map fun q => D.bl (decide (q = 0))) = ((z.1 ++ z.2.1).map fun q => decide (q = 0)).map D.bl := by rw [List.map_map]; rfl
  rw [eb, qk1_]
  show if ((z.1 ++ z.2.1).map fun q => decide (q = 0)).all id = true then _ else _
  have ea : ((z.1 ++ z.2.1).map fun q => decide (q = 0)).all id = (z.1 ++ z.2.1).all (fun q => decide (q = 0)) := by rw [List.all_map]; rfl
  rw [ea]
  unfold idle at k
  refine iteB (fun c => ?_) (fun c => ?_)
  · rw [c, Bool.true_and] at k
    exact ⟨z.2.2, 0, rfl, Mx.of ok.c sm0, _, Sub.refl _, k⟩
  · rw [c, Bool.false_and] at k
    exact ⟨_, Sub.refl _, k⟩
def onR (acc : List ZR) (z : ZR) : List ZR := if idle z then acc else if z ∈ acc then acc else acc ++ [z]
def onQ (R : List ZR) : List ZR := R.foldl onR []
def kQ (z : ZR) : D := .tup [.tup (z.1.map frD), .tup (z.2.1.map frD), frD z.2.2]
theorem qr1_ {y z : ZR} (h : kQ y = kQ z) : y = z := by
  unfold kQ at h
  injection h with h
  injection h with h1 h
  injection h1 with h1
  injection h with h2 h
  injection h2 with h2
  injection h with h3 _
  obtain ⟨a, b, c⟩ := y
  obtain ⟨a', b', c'⟩ := z
  simp only at h1 h2 h3
  rw [qf9_ h1, qf9_ h2, qlu_ h3]
theorem qqb_ {acc : List ZR} {z y : ZR} (h : y ∈ onR acc z) : y ∈ acc ∨ y = z := by
  unfold onR at h
  split at h
  · exact .inl h
  · split at h
    · exact .inl h
    · rcases List.mem_append.mp h with h | h
      · exact .inl h
      · exact .inr (List.mem_singleton.mp h)
theorem qpi_ (acc : List ZR) (z : ZR) : (onR acc z).length ≤ acc.length + 1 := by
  unfold onR
  split
  · omega
  · split
    · omega
    · simp
theorem qi6_ (R : List ZR) : (onQ R).length ≤ R.length := by
  unfold onQ
  have : ∀ (R acc : List ZR), (R.foldl onR acc).length ≤ acc.length + R.length := by
    intro R
    induction R with
    | nil => intro acc; simp
    | cons z R ih =>
      intro acc
      rw [List.foldl_cons, List.length_cons]
      have h1 := ih (onR acc z)
      have h2 := qpi_ acc z
      omega
  have := this R []
  simpa using this
theorem qok_ {R : List ZR} {y : ZR} (h : y ∈ onQ R) : y ∈ R := by
  unfold onQ at h
  have : ∀ (R acc : List ZR), y ∈ R.foldl onR acc → y ∈ acc ∨ y ∈ R := by
    intro R
    induction R with
    | nil => intro acc h; exact .inl h
    | cons z R ih =>
      intro acc h
      rw [List.foldl_cons] at h
      rcases ih _ h with h | h
      · rcases qqb_ h with h | h
        · exact .inl h
        · exact .inr (by simp [h])
      · exact .inr (by simp [h])
  rcases this R [] h with h | h
  · cases h
  · exact h
theorem qkj_ : ∀ qs : List Rat, kOks (qs.map frD) = true
  | [] => rfl
  | q :: qs => by rw [List.map_cons, kOks, qkj_ qs]; rfl
theorem qup_ (z : ZR) : kOk (kQ z) = true := by
  unfold kQ
  simp only [kOk, kOks, qkj_, Bool.true_and, Bool.and_true]
  rfl
theorem qsa_ (z : ZR) : dep (kQ z) ≤ 8 := by
  have h1 := qbk_ qcm_ z.1
  have h2 := qbk_ qcm_ z.2.1
  have h3 := qcm_ z.2.2
  simp only [kQ, dep, deps] at h1 h2 ⊢; omega
theorem qfr_ {α β : Type} {f : β → α → β} {z : β} {l : List α} {i : Nat} {x : α} (h : l[i]? = some x) : (l.take (i + 1)).foldl f z = f ((l.take i).foldl f z) x := by
  rw [List.take_add_one, h, Option.toList_some, List.foldl_append]; rfl
def gOn : List D → (D → Prop) → Prop := fun ds P => ∃ (R : List ZR) (s t : Nat), ds = [.lst (R.map zQ)] ∧ R.length ≤ 100000 ∧ s ≤ 100 ∧ t ≤ 100 ∧ (∀ z ∈ R, RowOk s t 4000 z) ∧ P (.lst ((onQ R).map zQ))
abbrev qel_ : Stmt := top 27
theorem sc_put_on : FnScope ["rows", "told", "row"] ["rows"] (qd_ qel_) := ⟨rfl, rfl, rfl, by decide +kernel, rfl, by decide +kernel, by decide +kernel⟩
theorem h_put_on (B : Bl mg) (F : Def K mg "put_on" qel_ ["rows"]) (F_says_nothing : Has P w K mg base CX0 2 "says_nothing" ["row"] (spW K (pur gSN))) : Has P w K mg base CX0 3 "put_on" ["rows"] (spW K (pur gOn)) := by
  refine F.hasP sc_put_on (fun ds P h => by obtain ⟨_, _, _, rfl, _⟩ := h; rfl) fun f cdv A outer s H E hr => ?_
  have nd := sc_put_on.nd
  refine ⟨_, (qc_ (qp5_ (i := 1) nd rfl (Or.inl rfl))
    (qc_ (qbv_ PassesOwn.never rfl (qu_ (jv 0)) (qj_ (i := 2) nd rfl (Or.inl rfl))
    (qg_ (qb9_ (qfm_ (jt (j_h F_says_nothing (hr.mono (by decide)) rfl (qa_ (jv 2) qb_)))) (qg_ (qvo_ 1 (u10 hr) (qa_ (qbl_ (qa_ (qoq_ rfl B.tuple (qa_ (qm_ 2 qe_) qb_)) (qa_ (qoq_ rfl B.tuple (qa_ (qm_ 2 qe_) qb_)) (qa_ (qm_ 2 qe_) qb_)))) (qa_ (jv 2) qb_)))) qv_)))
    (qg_ (qr_ (j_fz (qqd_ (pos2 := ⟨0, 0, 0, 0⟩) 1 rfl B.list rfl)))))), ?_⟩
  rintro ds M Q ⟨R, s, t, rfl, lR, hs, ht, ok, k⟩
  intro p hp
  refine ⟨fun i ρ M' => (M' = mset M p (.tk (((R.take i).foldl onR []).map fun z => (kQ z, zQ z)))) ∧ ∃ o2, ρ = [.sh (.lst (R.map zQ)), .rf p, o2], ⟨rfl, _, rfl⟩, ?_, ?_⟩
  · rintro i d ρ M' hd ⟨rfl, o2, rfl⟩
    obtain ⟨z, hz, rfl⟩ := q0_ hd
    have zm := List.mem_of_getElem? hz
    have hi := (List.getElem?_eq_some_iff.mp hz).1
    have eo : (R.take (i + 1)).foldl onR [] = onR ((R.take i).foldl onR []) z := qfr_ hz
    have lo : ((R.take i).foldl onR []).length ≤ i := by
      have := qi6_ (R.take i)
      rw [List.length_take] at this
      exact Nat.le_trans this (by omega)
    generalize (R.take i).foldl onR [] = acc at eo lo
    refine ⟨z, s, t, rfl, ok z zm, hs, ht, ?_⟩
    show if (!idle z) = true then _ else _
    refine iteB (fun c => ?_) (fun c => ?_)
    · have c' : idle z = false := by simpa using c
      refine ⟨⟨_, qf_⟩, by show 3 ≤ sizeLine; decide, _, _, _, rfl, qf_, qup_ z, qsa_ z, by rw [List.length_map]; exact qiz_ (by omega), ?_, .sh (zQ z), rfl⟩
      rw [qp_, eo, onR, c']
      have ek : (acc.map fun z => (kQ z, zQ z)).map (·.1) = acc.map kQ := by rw [List.map_map]; rfl
      have em : kQ z ∈ (acc.map fun z => (kQ z, zQ z)).map (·.1) ↔ z ∈ acc := by
        rw [ek, List.mem_map]
        exact ⟨fun ⟨y, hy, e⟩ => qr1_ e ▸ hy, fun h => ⟨z, h, rfl⟩⟩
      show mset M p (.tk (sdK (acc.map fun z => (kQ z, zQ z)) (kQ z) (zQ z))) = _
      unfold sdK
      by_cases h : z ∈ acc
      · rw [if_pos (em.mpr h), if_neg Bool.false_ne_true, if_pos h]
      · rw [if_neg (fun x => h (em.mp x)), if_neg Bool.false_ne_true, if_neg h, List.map_append]; rfl
    · have c' : idle z = true := by simpa using c
      refine ⟨?_, .sh (zQ z), rfl⟩
      rw [eo, onR, c', if_pos rfl]
  · rintro ρ M' ⟨rfl, o2, rfl⟩
    rw [List.length_map, List.take_length]
    have lo := qi6_ R
    refine ⟨_, qf_, by rw [List.length_map]; exact Nat.le_trans lo lR, M, (Sub.refl M).mset hp, ?_⟩
    have e : ((R.foldl onR []).map fun z => (kQ z, zQ z)).map (·.2) = (onQ R).map zQ := by rw [List.map_map]; rfl
    rw [e]
    exact k

def gCR : List D → (D → Prop) → Prop := fun ds P => ∃ Z : List ZR, ds = [.lst (Z.map zQ)] ∧ Z.length ≤ 1000 ∧ P (.lst (Z.map zQ))
abbrev qbr_ : Stmt := top 19
theorem sc_copied_rows : FnScope ["rows"] ["rows"] (qd_ qbr_) := ⟨rfl, rfl, rfl, by decide +kernel, rfl, by decide +kernel, by decide +kernel⟩
theorem h_copied_rows (B : Bl mg) (F : Def K mg "copied_rows" qbr_ ["rows"]) : Has P w K mg base CX0 1 "copied_rows" ["rows"] (spN K gCR) := by
  refine F.hasN sc_copied_rows (fun ds P h => by obtain ⟨_, rfl, _⟩ := h; rfl) fun f cdv A outer s H E hr => ?_
  have nd := sc_copied_rows.nd
  refine ⟨_, (qg_ (qdu_ (qfj_ (qtg_ ["a", "b", "c"] [none, none, none] ⟨rfl, by decide +kernel, by decide +kernel, rfl, rfl, by intro i x j _ h; exact absurd h (by rcases i with _ | _ | _ | i <;> simp)⟩ rfl (qu_ (jv 0)) (fun _ _ _ _ _ => (qd7_ (n := 3) rfl (qs_ (qj_ (i := 0) (show List.Nodup [("a" : Str), ("b" : Str), ("c" : Str)] by decide +kernel) rfl (Or.inl rfl)) (qs_ (qj_ (i := 1) (show List.Nodup [("a" : Str), ("b" : Str), ("c" : Str)] by decide +kernel) rfl (Or.inl rfl)) (qs_ (qj_ (i := 2) (show List.Nodup [("a" : Str), ("b" : Str), ("c" : Str)] by decide +kernel) rfl (Or.inl rfl)) qcs_))))) (fun _ _ _ _ _ => qb0_) (fun _ _ _ _ _ => (qks_ (qb1_ (qfj_ (qla_ (qhy_ rfl B.list (qa_ (jv 0) qb_)))) (qb1_ (qfj_ (qla_ (qhy_ rfl B.list (qa_ (jv 1) qb_)))) (qb1_ (ju_d (jv 2)) qf2_))))))))), ?_⟩
  rintro ds M Q ⟨Z, rfl, l, k⟩
  refine ⟨fun i out ρ M' => Freshs M M' ((Z.take i).map zQ) out ∧ ∃ o1 o2 o3, ρ = [o1, o2, o3], ⟨.nil, _, _, _, rfl⟩, ?_, ?_⟩
  · rintro i d out ρ M' hd ⟨fr, o1, o2, o3, rfl⟩
    obtain ⟨z, hz, rfl⟩ := q0_ hd
    have hi := (List.getElem?_eq_some_iff.mp hz).1
    have lo : out.length ≤ 1000 := by
      obtain ⟨A, h1, _⟩ := fr
      rw [← h1.length, List.length_map, List.length_take]; omega
    refine ⟨rfl, fun p hp p2 hp2 => ⟨by show 3 ≤ sizeLine; decide, qn_ (by omega), ?_, .sh (frL z.1), .sh (frL z.2.1), .sh (frD z.2.2), rfl⟩⟩
    rw [← qbt_ (f := zQ) hz]
    exact fr.snoc (.tup (.cons (.newD (qb2_ fun _ => rfl) hp) (.cons (.newD (qb2_ fun _ => rfl) hp2) (.cons (.leaf rfl) .nil))))
  · rintro out ρ M' ⟨fr, o1, o2, o3, rfl⟩
    rw [List.length_map, List.take_length] at fr
    exact fun p hp => ⟨_, _, Sub.refl _, .new fr hp, k⟩

def qfd_ (S T : List (Rat × Rat)) : List ZR := (qco_ T).map fun r => (List.replicate S.length 0, r.1, r.2)
def gSR : List D → (D → Prop) → Prop := fun ds P => ∃ (S T : List (Rat × Rat)) (Z : List ZR), ds = [qeu_ S T Z] ∧ S.length ≤ 100 ∧ T.length ≤ 100 ∧ P (.lst ((qfd_ S T).map zQ))
theorem qeg_ (T : List (Rat × Rat)) : (qco_ T).length = 2 * T.length := by
  unfold qco_
  rw [qh7_ 0 _ (by intro y hy; obtain ⟨j, hj, rfl⟩ := List.mem_mapIdx.mp hy; rfl), List.length_mapIdx]
abbrev qcq_ : Stmt := top 28
theorem sc_shim_rows : FnScope ["plan"] ["plan"] (qd_ qcq_) := ⟨rfl, rfl, rfl, by decide +kernel, rfl, by decide +kernel, by decide +kernel⟩
theorem h_shim_rows (B : Bl mg) (F : Def K mg "shim_rows" qcq_ ["plan"]) (F_bound_rows : Has P w K mg base CX0 2 "bound_rows" ["shims"] (spN K gBR)) (C_ZERO : Zero4 K mg) : Has P w K mg base CX0 3 "shim_rows" ["plan"] (spW K (pur gSR)) := by
  refine F.hasP sc_shim_rows (fun ds P h => by obtain ⟨_, _, _, rfl, _⟩ := h; rfl) fun f cdv A outer s H E hr => ?_
  have nd := sc_shim_rows.nd
  refine ⟨_, (qg_ (qr_ (j_fz (qhs_ ["b", "d", "plan"] [none, none, some 0] ⟨rfl, by decide +kernel, by decide +kernel, rfl, rfl, qbb_ rfl⟩ rfl (qu_ (j_h (L3.Has.toW F_bound_rows) (hr.mono (by decide)) rfl (qa_ (qm_ 0 qe_) qb_))) (fun _ _ _ _ _ => (qd7_ (n := 2) rfl (qs_ (qj_ (i := 0) (show List.Nodup [("b" : Str), ("d" : Str), ("plan" : Str)] by decide +kernel) rfl (Or.inl rfl)) (qs_ (qj_ (i := 1) (show List.Nodup [("b" : Str), ("d" : Str), ("plan" : Str)] by decide +kernel) rfl (Or.inl rfl)) qcs_)))) (fun _ _ _ _ _ => qb0_) (fun _ _ _ _ _ => (qbl_ (qa_ (j_fz (qhs_ ["pair"] [none] ⟨rfl, by decide +kernel, by decide +kernel, rfl, rfl, by intro i x j _ h; exact absurd h (by rcases i with _ | _ | _ | i <;> simp)⟩ rfl (qu_ (qm_ 2 qe_)) (fun _ _ _ _ _ => (qj_ (i := 0) (show List.Nodup [("pair" : Str)] by decide +kernel) rfl (Or.inl rfl))) (fun _ _ _ _ _ => qb0_) (fun _ _ _ _ _ => (qc1_ C_ZERO rfl)))) (qa_ (jv 0) (qa_ (jv 1) qb_))))))))), ?_⟩
  rintro ds M Q ⟨S, T, Z, rfl, lS, lT, k⟩
  have lb := qeg_ T
  refine ⟨T, rfl, lT, fun i out ρ M' => M' = M ∧ out = ((qco_ T).take i).map (fun r => zQ (List.replicate S.length 0, r.1, r.2)) ∧ ∃ o1 o2, ρ = [o1, o2, .sh (qeu_ S T Z)], ⟨rfl, rfl, _, _, rfl⟩, ?_, ?_⟩
  · rintro i d out ρ M' hd ⟨rfl, rfl, o1, o2, rfl⟩
    obtain ⟨r, hr', rfl⟩ := q0_ hd
    have hi := (List.getElem?_eq_some_iff.mp hr').1
    refine ⟨rfl, fun j out ρ M2 => M2 = M' ∧ out = List.replicate j (frD 0) ∧ ∃ o, ρ = [o], ⟨rfl, rfl, _, rfl⟩, ?_, ?_⟩
    · rintro j d out ρ M2 hd ⟨rfl, rfl, o, rfl⟩
      have hj := (List.getElem?_eq_some_iff.mp hd).1
      have hj : j < (S.map bQ).length := hj
      rw [List.length_map] at hj
      exact ⟨by rw [List.length_replicate]; exact qn_ (by omega), rfl, by rw [List.replicate_succ'], .sh d, rfl⟩
    rintro out2 ρ M2 ⟨rfl, h2, o, rfl⟩
    have h2 : out2 = List.replicate (S.map bQ).length (frD 0) := h2
    rw [List.length_map] at h2
    have e2 : D.lst out2 = frL (List.replicate S.length 0) := by rw [h2, frL, List.map_replicate]
    refine ⟨by show 3 ≤ sizeLine; decide, by rw [List.length_map, List.length_take]; exact qn_ (by omega), rfl, ?_, .sh (frL r.1), .sh (frD r.2), rfl⟩
    rw [← qbt_ (f := fun r : BR => zQ (List.replicate S.length 0, r.1, r.2)) hr', e2]
    rfl
  · rintro out ρ M' ⟨rfl, rfl, o1, o2, rfl⟩
    rw [List.length_map, List.take_length]
    have e : ((qco_ T).map fun r => zQ (List.replicate S.length 0, r.1, r.2)) = (qfd_ S T).map zQ := by rw [qfd_, List.map_map]; rfl
    rw [e]
    exact ⟨_, Sub.refl _, k⟩
structure PlR (n : Nat) (S T : List (Rat × Rat)) (Z : List ZR) : Prop where
  s : S.length ≤ 10
  t : T.length ≤ 10
  z : Z.length ≤ 10
  r : ∀ z ∈ Z, RowOk S.length T.length n z
  b : ∀ x ∈ T, SmR n x.1 ∧ SmR n x.2
  n1 : 1 ≤ n
  n2 : n ≤ 2000
theorem sm1 {n : Nat} (h : 1 ≤ n) : SmR n 1 := SmR.mono (a := 1) ⟨by unfold Sm; decide, by unfold Sm; decide⟩ h
theorem smN {n : Nat} (h : 1 ≤ n) : SmR n (-1) := SmR.mono (a := 1) ⟨by unfold Sm; decide, by unfold Sm; decide⟩ h
theorem qe0_ {n : Nat} {q : Rat} (h : SmR n q) : SmR n (-q) := ⟨by rw [Rat.neg_num]; exact h.1.neg, by rw [Rat.neg_den]; exact h.2⟩
theorem qir_ {n k : Nat} {q x : Rat} (h : x ∈ qbx_ n k q) : x = 0 ∨ x = q := by
  unfold qbx_ at h
  rcases List.mem_or_eq_of_mem_set h with h | h
  · exact .inl (List.eq_of_mem_replicate h)
  · exact .inr h
theorem qp3_ {n : Nat} {S T : List (Rat × Rat)} {Z : List ZR} (pl : PlR n S T Z) : ∀ z ∈ qfd_ S T, RowOk S.length T.length n z := by
  intro z hz
  obtain ⟨r, hr, rfl⟩ := List.mem_map.mp hz
  unfold qco_ at hr
  obtain ⟨l, hl, hr⟩ := List.mem_flatten.mp hr
  obtain ⟨j, hj, rfl⟩ := List.mem_mapIdx.mp hl
  obtain ⟨b1, b2⟩ := pl.b _ (List.getElem_mem hj)
  have u : ∀ q : Rat, SmR n q → ∀ x ∈ qbx_ T.length j q, SmR n x := fun q hq x hx => by
    rcases qir_ hx with rfl | rfl
    · exact sm0.mono pl.n1
    · exact hq
  have ul : ∀ q : Rat, (qbx_ T.length j q).length = T.length := fun q => by simp [qbx_]
  have z0 : ∀ x ∈ List.replicate S.length (0 : Rat), SmR n x := fun x hx => by rw [List.eq_of_mem_replicate hx]; exact sm0.mono pl.n1
  simp only [qjq_, List.mem_cons, List.not_mem_nil, or_false] at hr
  rcases hr with rfl | rfl
  · exact ⟨List.length_replicate, ul 1, z0, u 1 (sm1 pl.n1), qe0_ b1⟩
  · exact ⟨List.length_replicate, ul (-1), z0, u (-1) (smN pl.n1), b2⟩
def qk5_ (S T : List (Rat × Rat)) (Z : List ZR) : List ZR := onQ (Z ++ qfd_ S T)
def qow_ : List D → (D → Prop) → Prop := fun ds P => ∃ (n : Nat) (S T : List (Rat × Rat)) (Z : List ZR), ds = [qeu_ S T Z] ∧ PlR n S T Z ∧ P (.lst ((qk5_ S T Z).map zQ))
theorem qiw_ (S T : List (Rat × Rat)) : (qfd_ S T).length = 2 * T.length := by rw [qfd_, List.length_map, qeg_]
abbrev qb5_ : Stmt := top 29
theorem sc_first_rows : FnScope ["plan"] ["plan"] (qd_ qb5_) := ⟨rfl, rfl, rfl, by decide +kernel, rfl, by decide +kernel, by decide +kernel⟩
theorem h_first_rows (B : Bl mg) (F : Def K mg "first_rows" qb5_ ["plan"]) (F_put_on : Has P w K mg base CX0 3 "put_on" ["rows"] (spW K (pur gOn))) (F_copied_rows : Has P w K mg base CX0 1 "copied_rows" ["rows"] (spN K gCR)) (F_shim_rows : Has P w K mg base CX0 3 "shim_rows" ["plan"] (spW K (pur gSR))) : Has P w K mg base CX0 4 "first_rows" ["plan"] (spW K (pur qow_)) := by
  refine F.hasP sc_first_rows (fun ds P h => by obtain ⟨_, _, _, _, rfl, _⟩ := h; rfl) fun f cdv A outer s H E hr => ?_
  have nd := sc_first_rows.nd
  refine ⟨_, (qg_ (qr_ (j_h F_put_on (hr.mono (by decide)) rfl (qa_ (j_fz (qin_ (j_h (L3.Has.toW F_copied_rows) (hr.mono (by decide)) rfl (qa_ (qm_ 0 qe_) qb_)) (j_h F_shim_rows (hr.mono (by decide)) rfl (qa_ (jv 0) qb_)))) qb_)))), ?_⟩
  rintro ds M Q ⟨n, S, T, Z, rfl, pl, k⟩
  have lS := pl.s
  have lT := pl.t
  have lZ := pl.z
  have ls := qiw_ S T
  refine ⟨Z, rfl, by omega, S, T, Z, rfl, by omega, by omega, Nat.le_trans (show _ ≤ 100 by rw [List.length_map, List.length_map]; omega) (by rw [sizeLine_eq]; decide), Z ++ qfd_ S T, S.length, T.length, by rw [List.map_append], by rw [List.length_append]; omega, by omega, by omega, fun z hz => ?_, _, Sub.refl _, k⟩
  rcases List.mem_append.mp hz with hz | hz
  · exact (pl.r z hz).mono (Nat.le_trans pl.n2 (by decide))
  · exact (qp3_ pl z hz).mono (Nat.le_trans pl.n2 (by decide))
def mixQ (q : Rat) (a : List Rat) (r : Rat) (b : List Rat) : List Rat := List.zipWith (fun x y => q * x + r * y) a b
def gMix : List D → (D → Prop) → Prop := fun ds P => ∃ (n : Nat) (q r : Rat) (a b : List Rat), ds = [frD q, frL a, frD r, frL b] ∧ n ≤ 2000 ∧ SmR n q ∧ SmR n r ∧ (∀ x ∈ a, SmR n x) ∧ (∀ x ∈ b, SmR n x) ∧ a.length = b.length ∧ a.length ≤ 100 ∧ P (frL (mixQ q a r b))
abbrev qgr_ : Stmt := top 30
theorem sc_mixed : FnScope ["q", "one", "r", "other"] ["q", "one", "r", "other"] (qd_ qgr_) := ⟨rfl, rfl, rfl, by decide +kernel, rfl, by decide +kernel, by decide +kernel⟩
theorem h_mixed (B : Bl mg) (F : Def K mg "mixed" qgr_ ["q", "one", "r", "other"]) (F_plus : qqj_ P w K mg base) (F_times : qn9_ P w K mg base) : Has P w K mg base CX0 4 "mixed" ["q", "one", "r", "other"] (spW K (pur gMix)) := by
  refine F.hasP sc_mixed (fun ds P h => by obtain ⟨_, _, _, _, _, rfl, _⟩ := h; rfl) fun f cdv A outer s H E hr => ?_
  have nd := sc_mixed.nd
  refine ⟨_, (qg_ (qr_ (j_fz (qhs_ ["x", "y", "q", "r"] [none, none, some 0, some 2] ⟨rfl, by decide +kernel, by decide +kernel, rfl, rfl, qbb_ rfl⟩ rfl (qoj_ rfl B.zip (qa_ (jv 1) (qa_ (jv 3) qb_))) (fun _ _ _ _ _ => (qd7_ (n := 2) rfl (qs_ (qj_ (i := 0) (show List.Nodup [("x" : Str), ("y" : Str), ("q" : Str), ("r" : Str)] by decide +kernel) rfl (Or.inl rfl)) (qs_ (qj_ (i := 1) (show List.Nodup [("x" : Str), ("y" : Str), ("q" : Str), ("r" : Str)] by decide +kernel) rfl (Or.inl rfl)) qcs_)))) (fun _ _ _ _ _ => qb0_) (fun _ _ _ _ _ => (j_h F_plus (hr.mono (by decide)) rfl (qa_ (j_h F_times (hr.mono (by decide)) rfl (qa_ (jv 2) (qa_ (jv 0) qb_))) (qa_ (j_h F_times (hr.mono (by decide)) rfl (qa_ (jv 3) (qa_ (jv 1) qb_))) qb_)))))))), ?_⟩
  rintro ds M Q ⟨n, q, r, a, b, rfl, hn, sq, sr, sa, sb, la, lb, k⟩
  refine ⟨fun i out ρ M' => M' = M ∧ out = ((mixQ q a r b).take i).map frD ∧ ∃ o1 o2, ρ = [o1, o2, .sh (frD q), .sh (frD r)], ⟨rfl, rfl, _, _, rfl⟩, ?_, ?_⟩
  · rintro i d out ρ M' hd ⟨rfl, rfl, o1, o2, rfl⟩
    obtain ⟨x, y, hx, hy, rfl⟩ := qot_ hd
    have hi := (List.getElem?_eq_some_iff.mp hx).1
    have sx := sa x (List.mem_of_getElem? hx)
    have sy := sb y (List.mem_of_getElem? hy)
    have hm : (mixQ q a r b)[i]? = some (q * x + r * y) := by rw [mixQ, List.getElem?_zipWith, hx, hy]
    refine ⟨rfl, q, x, rfl, Mx.of sq sx (by omega), r, y, rfl, Mx.of sr sy (by omega), _, _, rfl, Mx.of (qez_ sq sx) (qez_ sr sy) (by omega), by rw [List.length_map, List.length_take]; exact qn_ (by omega), rfl, qbt_ (f := frD) hm, .sh (frD x), .sh (frD y), rfl⟩
  · rintro out ρ M' ⟨rfl, rfl, o1, o2, rfl⟩
    have e : (zipD (a.map frD) (b.map frD)).length = (mixQ q a r b).length := by rw [qc8_, List.length_map, List.length_map, mixQ, List.length_zipWith]
    rw [e, List.take_length]
    exact ⟨_, Sub.refl _, k⟩
def ptQ (l h : ZR) (k : Nat) : ZR := (mixQ (-(h.2.1.getD k 0)) l.1 (l.2.1.getD k 0) h.1, mixQ (-(h.2.1.getD k 0)) l.2.1 (l.2.1.getD k 0) h.2.1, -(h.2.1.getD k 0) * l.2.2 + l.2.1.getD k 0 * h.2.2)
theorem qbq_ {l : List Rat} {k : Nat} (h : k < l.length) : l.getD k 0 ∈ l := by
  rw [List.getD_eq_getElem?_getD, List.getElem?_eq_getElem h]
  exact List.getElem_mem h
theorem RIx.frl {qs : List Rat} {k : Nat} {P : D → Prop} (h : k < qs.length) (p : P (frD (qs.getD k 0))) : RIx (frL qs) (.int (k : Int)) P := by
  refine RIx.get (d := frD (qs.getD k 0)) ?_ p
  rw [List.getElem?_map, List.getElem?_eq_getElem h, List.getD_eq_getElem?_getD, List.getElem?_eq_getElem h]; rfl
def gPT : List D → (D → Prop) → Prop := fun ds P => ∃ (l h : ZR) (k s t n : Nat), ds = [zQ l, zQ h, .int k] ∧ RowOk s t n l ∧ RowOk s t n h ∧ k < t ∧ s ≤ 100 ∧ t ≤ 100 ∧ n ≤ 2000 ∧ P (zQ (ptQ l h k))
abbrev qbg_ : Stmt := top 31
theorem sc_put_together : FnScope ["low", "high", "k", "q", "r"] ["low", "high", "k"] (qd_ qbg_) := ⟨rfl, rfl, rfl, by decide +kernel, rfl, by decide +kernel, by decide +kernel⟩
theorem h_put_together (B : Bl mg) (F : Def K mg "put_together" qbg_ ["low", "high", "k"]) (F_opposite : Has P w K mg base CX0 1 "opposite" ["q"] (spW K (pur gOpp))) (F_mixed : Has P w K mg base CX0 4 "mixed" ["q", "one", "r", "other"] (spW K (pur gMix))) (F_plus : qqj_ P w K mg base) (F_times : qn9_ P w K mg base) : Has P w K mg base CX0 5 "put_together" ["low", "high", "k"] (spW K (pur gPT)) := by
  refine F.hasP sc_put_together (fun ds P h => by obtain ⟨_, _, _, _, _, _, rfl, _⟩ := h; rfl) fun f cdv A outer s H E hr => ?_
  have nd := sc_put_together.nd
  refine ⟨_, (qc_ (qo_ (i := 3) nd rfl (Or.inl rfl) (j_h F_opposite (hr.mono (by decide)) rfl (qa_ (j_at (qm_ 1 qe_) (jv 2)) qb_)))
    (qc_ (qo_ (i := 4) nd rfl (Or.inl rfl) (j_at (qm_ 0 qe_) (jv 2)))
    (qg_ (qr_ (qbl_ (qa_ (j_h F_mixed (hr.mono (by decide)) rfl (qa_ (jv 3) (qa_ (qm_ 0 qe_) (qa_ (jv 4) (qa_ (qm_ 1 qe_) qb_))))) (qa_ (j_h F_mixed (hr.mono (by decide)) rfl (qa_ (jv 3) (qa_ (qm_ 0 qe_) (qa_ (jv 4) (qa_ (qm_ 1 qe_) qb_))))) (qa_ (j_h F_plus (hr.mono (by decide)) rfl (qa_ (j_h F_times (hr.mono (by decide)) rfl (qa_ (jv 3) (qa_ (qm_ 0 qe_) qb_))) (qa_ (j_h F_times (hr.mono (by decide)) rfl (qa_ (jv 4) (qa_ (qm_ 1 qe_) qb_))) qb_))) qb_)))))))), ?_⟩
  rintro ds M Q ⟨l, h, k, s, t, n, rfl, ol, oh, hk, hs, ht, hn, q⟩
  have kl : k < l.2.1.length := by rw [ol.t]; exact hk
  have kh : k < h.2.1.length := by rw [oh.t]; exact hk
  have m1 := qe0_ (oh.b _ (qbq_ kh))
  have m2 := ol.b _ (qbq_ kl)
  refine RIx.frl kh ⟨_, rfl, RIx.frl kl ?_⟩
  refine ⟨n, _, _, l.1, h.1, rfl, hn, m1, m2, ol.a, oh.a, by rw [ol.s, oh.s], by rw [ol.s]; exact hs, n, _, _, l.2.1, h.2.1, rfl, hn, m1, m2, ol.b, oh.b, by rw [ol.t, oh.t], by rw [ol.t]; exact ht, ?_⟩
  exact ⟨_, _, rfl, Mx.of m1 ol.c (by omega), _, _, rfl, Mx.of m2 oh.c (by omega), _, _, rfl, Mx.of (qez_ m1 ol.c) (qez_ m2 oh.c) (by omega), by show 3 ≤ sizeLine; decide, _, Sub.refl _, q⟩

/-! ### fractions over a common bottom -/
theorem qrp_ {n : Nat} {a b : Int} (h : Sm n b) (h0 : 0 ≤ a) (h1 : a ≤ b) : Sm n a := by
  unfold Sm at *
  omega
def Wh (D n : Nat) (q : Rat) : Prop := ∃ k : Int, q = Rat.divInt k D ∧ Sm n k
theorem Wh.mono {D a b : Nat} {q : Rat} (h : Wh D a q) (k : a ≤ b) : Wh D b q := let ⟨x, e, s⟩ := h; ⟨x, e, s.mono k⟩
theorem Wh.add {D n : Nat} {q r : Rat} (h : Wh D n q) (k : Wh D n r) : Wh D (n + 1) (q + r) := by
  obtain ⟨a, rfl, sa⟩ := h
  obtain ⟨b, rfl, sb⟩ := k
  refine ⟨a + b, ?_, sa.add sb⟩
  rw [Rat.divInt_eq_div, Rat.divInt_eq_div, Rat.divInt_eq_div, Rat.intCast_add, Rat.div_def, Rat.div_def, Rat.div_def, Rat.add_mul]
theorem Wh.mul {D E n m : Nat} {q r : Rat} (h : Wh D n q) (k : Wh E m r) : Wh (D * E) (n + m) (q * r) := by
  obtain ⟨a, rfl, sa⟩ := h
  obtain ⟨b, rfl, sb⟩ := k
  exact ⟨a * b, by rw [Rat.divInt_mul_divInt, Int.natCast_mul], sa.mul sb⟩
theorem Wh.up {D n m : Nat} {q : Rat} (c : Nat) (h : Wh D n q) (c0 : c ≠ 0) (sc : Sm m (c : Int)) : Wh (D * c) (n + m) q := by
  obtain ⟨a, rfl, sa⟩ := h
  refine ⟨a * c, ?_, sa.mul sc⟩
  rw [Int.natCast_mul, Rat.divInt_mul_right (by omega)]
theorem Wh.smr {D n : Nat} {q : Rat} (h : Wh D n q) (d0 : D ≠ 0) (sD : Sm n (D : Int)) : SmR n q := by
  obtain ⟨a, rfl, sa⟩ := h
  exact qk6_ (by omega) sa sD
theorem Wh.den {D n m : Nat} {q : Rat} (h : Wh D n q) (d0 : D ≠ 0) (sD : Sm m (D : Int)) : Sm m (q.den : Int) := by
  obtain ⟨a, rfl, _⟩ := h
  have hb : (D : Int) ≠ 0 := by omega
  have e2 := qkd_ (a := a) hb
  rw [if_neg (by omega), Int.fdiv_eq_ediv_of_nonneg _ (by omega)] at e2
  refine qrp_ sD (by omega) ?_
  rw [e2]
  exact Int.ediv_le_self _ (by omega)
theorem Wh.of {n : Nat} {a : Int} {d c : Nat} (c0 : c ≠ 0) (h : Sm n (a * c)) : Wh (d * c) n (Rat.divInt a d) := ⟨a * c, by rw [Int.natCast_mul, Rat.divInt_mul_right (by omega)], h⟩

def bAt (k : Nat) (z : ZR) : Rat := z.2.1.getD k 0
def qw_ (k : Nat) (R : List ZR) : List ZR := R.filter fun z => decide (0 < bAt k z)
def q1_ (k : Nat) (R : List ZR) : List ZR := R.filter fun z => decide (bAt k z < 0)
def qes_ (k : Nat) (R : List ZR) : List ZR := R.filter fun z => decide (bAt k z = 0)
def qdx_ (k : Nat) (L G : List ZR) : List ZR := (L.map fun l => G.map fun h => ptQ l h k).flatten
def qjx_ (k : Nat) (R : List ZR) : List ZR := qes_ k R ++ qdx_ k (qw_ k R) (q1_ k R)
def outQ (k : Nat) (R : List ZR) : List ZR := onQ (qes_ k R ++ qdx_ k (qw_ k R) (q1_ k R))
theorem qbd_ {α : Type} {p : α → Bool} {l : List α} {i : Nat} {x : α} (h : l[i]? = some x) : (l.take (i + 1)).filter p = (l.take i).filter p ++ (if p x = true then [x] else []) := by
  rw [List.take_add_one, h, Option.toList_some, List.filter_append]
  congr 1
  by_cases c : p x = true
  · rw [if_pos c, List.filter_cons_of_pos c]; rfl
  · rw [if_neg c, List.filter_cons_of_neg c]; rfl
theorem qf7_ (k : Nat) : ∀ (L G : List ZR), (qdx_ k L G).length = L.length * G.length
  | [], G => by simp [qdx_]
  | l :: L, G => by
    have := qf7_ k L G
    unfold qdx_ at this ⊢
    rw [List.map_cons, List.flatten_cons, List.length_append, List.length_map, this, List.length_cons, Nat.add_mul, Nat.one_mul, Nat.add_comm]
theorem qj5_ {k i : Nat} {L G : List ZR} {l : ZR} (h : L[i]? = some l) : qdx_ k (L.take (i + 1)) G = qdx_ k (L.take i) G ++ G.map (fun h => ptQ l h k) := by
  unfold qdx_
  rw [List.take_add_one, h, Option.toList_some, List.map_append, List.flatten_append]
  simp
def gTO : List D → (D → Prop) → Prop := fun ds P => ∃ (R : List ZR) (k s t n : Nat), ds = [.lst (R.map zQ), .int k] ∧ R.length ≤ 330 ∧ (∀ z ∈ R, RowOk s t n z) ∧ (∀ z ∈ qjx_ k R, RowOk s t 4000 z) ∧ k < t ∧ s ≤ 100 ∧ t ≤ 100 ∧ n ≤ 2000 ∧ P (.tup [.lst ((qw_ k R).map zQ), .lst ((q1_ k R).map zQ), .lst ((outQ k R).map zQ)])
theorem qgw_ (k : Nat) : ∀ R : List ZR, (qes_ k R).length + (qw_ k R).length + (q1_ k R).length = R.length
  | [] => rfl
  | z :: R => by
    have ih := qgw_ k R
    unfold qes_ qw_ q1_ at ih ⊢
    rw [List.filter_cons, List.filter_cons, List.filter_cons, List.length_cons]
    rcases (show bAt k z < 0 ∨ bAt k z = 0 ∨ 0 < bAt k z by grind) with h | h | h
    · have h1 : ¬ bAt k z = 0 := by grind
      have h2 : ¬ 0 < bAt k z := by grind
      simp only [h, h1, h2, decide_true, decide_false, if_true, Bool.false_eq_true, if_false, List.length_cons]; omega
    · have h1 : ¬ bAt k z < 0 := by grind
      have h2 : ¬ 0 < bAt k z := by grind
      simp only [h1, h2, decide_true, decide_false, if_true, Bool.false_eq_true, if_false]; rw [if_pos (by simpa using h), List.length_cons]; omega
    · have h1 : ¬ bAt k z = 0 := by grind
      have h2 : ¬ bAt k z < 0 := by grind
      have h3 : 0 < bAt k z := h
      simp only [h1, h2, h3, decide_true, decide_false, if_true, Bool.false_eq_true, if_false, List.length_cons]; omega
theorem qi9_ {R : List ZR} {k c : Nat} (h : R.length ≤ c) (c4 : 4 ≤ c) : 4 * (qjx_ k R).length ≤ c * c := by
  have e := qgw_ k R
  unfold qjx_
  rw [List.length_append, qf7_]
  generalize (qes_ k R).length = x at *
  generalize (qw_ k R).length = a at *
  generalize (q1_ k R).length = b at *
  have h1 : 4 * (a * b) ≤ (a + b) * (a + b) := by
    rcases Nat.le_total a b with h | h
    · obtain ⟨d, rfl⟩ := Nat.exists_eq_add_of_le h
      have : (a + (a + d)) * (a + (a + d)) = 4 * (a * (a + d)) + d * d := by grind
      omega
    · obtain ⟨d, rfl⟩ := Nat.exists_eq_add_of_le h
      have : (b + d + b) * (b + d + b) = 4 * ((b + d) * b) + d * d := by grind
      omega
  have hm : x + (a + b) ≤ c := by omega
  generalize a + b = m at h1 hm
  obtain ⟨d, rfl⟩ := Nat.exists_eq_add_of_le (show m ≤ c by omega)
  have h2 : (m + d) * (m + d) = m * m + d * (m + (m + d)) := by grind
  have h3 : d * 4 ≤ d * (m + (m + d)) := Nat.mul_le_mul_left _ (by omega)
  omega
abbrev qcp_ : Stmt := top 32
theorem sc_taken_out : FnScope ["rows", "k", "lows", "highs", "told_on", "low"] ["rows", "k"] (qd_ qcp_) := ⟨rfl, rfl, rfl, by decide +kernel, rfl, by decide +kernel, by decide +kernel⟩
theorem h_taken_out (B : Bl mg) (F : Def K mg "taken_out" qcp_ ["rows", "k"]) (F_below : qix_ P w K mg base) (F_put_together : Has P w K mg base CX0 5 "put_together" ["low", "high", "k"] (spW K (pur gPT))) (F_put_on : Has P w K mg base CX0 3 "put_on" ["rows"] (spW K (pur gOn))) (C_ZERO : Zero4 K mg) : Has P w K mg base CX0 6 "taken_out" ["rows", "k"] (spW K (pur gTO)) := by
  refine F.hasP sc_taken_out (fun ds P h => by obtain ⟨_, _, _, _, _, rfl, _⟩ := h; rfl) fun f cdv A outer s H E hr => ?_
  have nd := sc_taken_out.nd
  refine ⟨_, (qc_ (qb8_ (k := 2) nd rfl (Or.inl rfl) ["row", "k"] [none, some 1] ⟨rfl, by decide +kernel, by decide +kernel, rfl, rfl, qbb_ rfl⟩ rfl (qu_ (jv 0)) (fun _ _ _ _ _ => (qj_ (i := 0) (show List.Nodup [("row" : Str), ("k" : Str)] by decide +kernel) rfl (Or.inl rfl))) (fun _ _ _ _ _ => (qio_ (jt (j_h F_below (hr.mono (by decide)) rfl (qa_ (qc1_ C_ZERO rfl) (qa_ (j_at (qm_ 0 qe_) (jv 1)) qb_)))))) (fun _ _ _ _ _ => (jv 0)))
    (qc_ (qb8_ (k := 3) nd rfl (Or.inl rfl) ["row", "k"] [none, some 1] ⟨rfl, by decide +kernel, by decide +kernel, rfl, rfl, qbb_ rfl⟩ rfl (qu_ (jv 0)) (fun _ _ _ _ _ => (qj_ (i := 0) (show List.Nodup [("row" : Str), ("k" : Str)] by decide +kernel) rfl (Or.inl rfl))) (fun _ _ _ _ _ => (qio_ (jt (j_h F_below (hr.mono (by decide)) rfl (qa_ (j_at (qm_ 0 qe_) (jv 1)) (qa_ (qc1_ C_ZERO rfl) qb_)))))) (fun _ _ _ _ _ => (jv 0)))
    (qc_ (qkp_ (k := 4) nd rfl (Or.inl rfl) ["row", "k"] [none, some 1] ⟨rfl, by decide +kernel, by decide +kernel, rfl, rfl, qbb_ rfl⟩ rfl (qu_ (jv 0)) (fun _ _ _ _ _ => (qj_ (i := 0) (show List.Nodup [("row" : Str), ("k" : Str)] by decide +kernel) rfl (Or.inl rfl))) (fun _ _ _ _ _ => (qio_ (qmn_ hr (j_at (qm_ 0 qe_) (jv 1)) (qc1_ C_ZERO rfl)))) (fun _ _ _ _ _ => (jv 0)))
    (qc_ (qbv_ PassesOwn.never rfl (qu_ (jv 2)) (qj_ (i := 5) nd rfl (Or.inr rfl))
    (qg_ (qp4_ 4 (qhs_ ["high", "low", "k"] [none, some 5, some 1] ⟨rfl, by decide +kernel, by decide +kernel, rfl, rfl, qbb_ rfl⟩ rfl (qu_ (jv 3)) (fun _ _ _ _ _ => (qj_ (i := 0) (show List.Nodup [("high" : Str), ("low" : Str), ("k" : Str)] by decide +kernel) rfl (Or.inl rfl))) (fun _ _ _ _ _ => qb0_) (fun _ _ _ _ _ => (j_h F_put_together (hr.mono (by decide)) rfl (qa_ (jv 1) (qa_ (jv 0) (qa_ (jv 2) qb_)))))))))
    (qg_ (qr_ (qbl_ (qa_ (jv 2) (qa_ (jv 3) (qa_ (j_h F_put_on (hr.mono (by decide)) rfl (qa_ (jv 4) qb_)) qb_)))))))))), ?_⟩
  rintro ds M Q ⟨R, k, s, t, n, rfl, lR, ok, ok2, hk, hs, ht, hn, q⟩
  have bk : ∀ z ∈ R, k < z.2.1.length ∧ SmR n (bAt k z) := fun z hz => ⟨by rw [(ok z hz).t]; exact hk, (ok z hz).b _ (qbq_ (by rw [(ok z hz).t]; exact hk))⟩
  -- lows
  refine ⟨fun i out ρ M' => M' = M ∧ out = ((R.take i).filter fun z => decide (0 < bAt k z)).map zQ ∧ ∃ o, ρ = [o, .sh (.int k)], ⟨rfl, rfl, _, rfl⟩, ?_, ?_⟩
  · rintro i d out ρ M' hd ⟨rfl, rfl, o, rfl⟩
    obtain ⟨z, hz, rfl⟩ := q0_ hd
    obtain ⟨k1, k2⟩ := bk z (List.mem_of_getElem? hz)
    have hi := (List.getElem?_eq_some_iff.mp hz).1
    refine RIx.frl k1 ⟨0, bAt k z, rfl, Mx.of sm0 k2 (by omega), ?_⟩
    have fl := List.length_filter_le (fun z => decide (0 < bAt k z)) (R.take i)
    rw [List.length_take] at fl
    refine iteB (fun c => ⟨by rw [List.length_map]; exact qn_ (by omega), rfl, ?_, .sh (zQ z), rfl⟩) (fun c => ⟨rfl, ?_, .sh (zQ z), rfl⟩)
    · rw [qbd_ hz, if_pos c, List.map_append]; rfl
    · rw [qbd_ hz, if_neg (by rw [c]; exact Bool.false_ne_true), List.append_nil]
  rintro out ρ M' ⟨rfl, rfl, o, rfl⟩
  rw [List.length_map, List.take_length]
  -- highs
  refine ⟨fun i out ρ M2 => M2 = M' ∧ out = ((R.take i).filter fun z => decide (bAt k z < 0)).map zQ ∧ ∃ o, ρ = [o, .sh (.int k)], ⟨rfl, rfl, _, rfl⟩, ?_, ?_⟩
  · rintro i d out ρ M2 hd ⟨rfl, rfl, o, rfl⟩
    obtain ⟨z, hz, rfl⟩ := q0_ hd
    obtain ⟨k1, k2⟩ := bk z (List.mem_of_getElem? hz)
    have hi := (List.getElem?_eq_some_iff.mp hz).1
    refine RIx.frl k1 ⟨bAt k z, 0, rfl, Mx.of k2 sm0 (by omega), ?_⟩
    have fl := List.length_filter_le (fun z => decide (bAt k z < 0)) (R.take i)
    rw [List.length_take] at fl
    refine iteB (fun c => ⟨by rw [List.length_map]; exact qn_ (by omega), rfl, ?_, .sh (zQ z), rfl⟩) (fun c => ⟨rfl, ?_, .sh (zQ z), rfl⟩)
    · rw [qbd_ hz, if_pos c, List.map_append]; rfl
    · rw [qbd_ hz, if_neg (by rw [c]; exact Bool.false_ne_true), List.append_nil]
  rintro out ρ M2 ⟨rfl, rfl, o, rfl⟩
  rw [List.length_map, List.take_length]
  -- the others
  refine ⟨fun i out ρ M3 => M3 = M2 ∧ out = ((R.take i).filter fun z => decide (bAt k z = 0)).map zQ ∧ ∃ o, ρ = [o, .sh (.int k)], ⟨rfl, rfl, _, rfl⟩, ?_, ?_⟩
  · rintro i d out ρ M3 hd ⟨rfl, rfl, o, rfl⟩
    obtain ⟨z, hz, rfl⟩ := q0_ hd
    obtain ⟨k1, k2⟩ := bk z (List.mem_of_getElem? hz)
    have hi := (List.getElem?_eq_some_iff.mp hz).1
    refine RIx.frl k1 ⟨Nat.le_trans (qcm_ _) (by decide), ?_⟩
    have fl := List.length_filter_le (fun z => decide (bAt k z = 0)) (R.take i)
    rw [List.length_take] at fl
    have e0 : peq (frD (bAt k z)) (frD 0) = decide (bAt k z = 0) := qk7_ _ _
    show if peq (frD (bAt k z)) (frD 0) = true then _ else _
    rw [e0]
    refine iteB (fun c => ⟨by rw [List.length_map]; exact qn_ (by omega), rfl, ?_, .sh (zQ z), rfl⟩) (fun c => ⟨rfl, ?_, .sh (zQ z), rfl⟩)
    · rw [qbd_ hz, if_pos c, List.map_append]; rfl
    · rw [qbd_ hz, if_neg (by rw [c]; exact Bool.false_ne_true), List.append_nil]
  rintro out ρ M3 ⟨rfl, rfl, o, rfl⟩
  rw [List.length_map, List.take_length]
  have lL : (qw_ k R).length ≤ 330 := Nat.le_trans (List.length_filter_le _ _) lR
  have lG : (q1_ k R).length ≤ 330 := Nat.le_trans (List.length_filter_le _ _) lR
  have lE : (qes_ k R).length ≤ 330 := Nat.le_trans (List.length_filter_le _ _) lR
  have okL : ∀ z ∈ qw_ k R, RowOk s t n z := fun z hz => ok z (List.mem_filter.mp hz).1
  have okG : ∀ z ∈ q1_ k R, RowOk s t n z := fun z hz => ok z (List.mem_filter.mp hz).1
  have tkG : (q1_ k R).take ((q1_ k R).map zQ).length = q1_ k R := by rw [List.length_map, List.take_length]
  have tkL : (qw_ k R).take ((R.filter fun z => decide (0 < bAt k z)).map zQ).length = qw_ k R := by rw [List.length_map]; exact List.take_length
  have l2 : ∀ l : ZR, ((q1_ k R).map (fun h => zQ (ptQ l h k))).length ≤ 330 := fun l => by rw [List.length_map]; exact lG
  -- each low with each high
  refine ⟨fun i ρ M4 => M4 = M3 ∧ ∃ o5 : Ent, ρ = [.sh (.lst (R.map zQ)), .sh (.int k), .sh (.lst ((qw_ k R).map zQ)), .sh (.lst ((q1_ k R).map zQ)), .ow ((qes_ k R ++ qdx_ k ((qw_ k R).take i) (q1_ k R)).map zQ), o5], ⟨rfl, .un, ?_⟩, ?_, ?_⟩
  · have : qdx_ k ((qw_ k R).take 0) (q1_ k R) = [] := by simp [qdx_]
    rw [this, List.append_nil]; rfl
  · rintro i d ρ M4 hd ⟨rfl, o5, rfl⟩
    obtain ⟨l, hl, rfl⟩ := q0_ hd
    have hl : (qw_ k R)[i]? = some l := hl
    have hi := (List.getElem?_eq_some_iff.mp hl).1
    have ol := okL l (List.mem_of_getElem? hl)
    have lB : ((qes_ k R ++ qdx_ k ((qw_ k R).take i) (q1_ k R)).map zQ).length ≤ 330 + 330 * 330 := by
      rw [List.length_map, List.length_append, qf7_, List.length_take]
      exact Nat.add_le_add lE (Nat.mul_le_mul (by omega) lG)
    refine ⟨trivial, fun j out ρ M5 => M5 = M4 ∧ out = ((q1_ k R).take j).map (fun h => zQ (ptQ l h k)) ∧ ∃ o, ρ = [o, .sh (zQ l), .sh (.int k)], ⟨rfl, rfl, _, rfl⟩, ?_, ?_⟩
    · rintro j d out ρ M5 hd ⟨rfl, rfl, o, rfl⟩
      obtain ⟨h, hh, rfl⟩ := q0_ hd
      have hj := (List.getElem?_eq_some_iff.mp hh).1
      exact ⟨l, h, k, s, t, n, rfl, ol, okG h (List.mem_of_getElem? hh), hk, hs, ht, by omega, by rw [List.length_map, List.length_take]; exact qn_ (by omega), rfl, qbt_ (f := fun h => zQ (ptQ l h k)) hh, .sh (zQ h), rfl⟩
    rintro out ρ M5 ⟨rfl, h1, o, rfl⟩
    have h1 : out = ((q1_ k R).take ((q1_ k R).map zQ).length).map (fun h => zQ (ptQ l h k)) := h1
    rw [tkG] at h1
    subst h1
    refine ⟨Nat.le_trans (Nat.add_le_add lB (l2 l)) (by rw [sizeLine_eq]; decide), rfl, .sh (zQ l), ?_⟩
    rw [qj5_ hl, ← List.append_assoc, List.map_append (l₁ := qes_ k R ++ _), List.map_map]
    rfl
  rintro ρ M4 ⟨rfl, o5, rfl⟩
  have lo := qi9_ (R := R) (k := k) lR (by decide)
  have lo' : (qes_ k R ++ qdx_ k (qw_ k R) (q1_ k R)).length ≤ 100000 := by unfold qjx_ at lo; omega
  exact ⟨qes_ k R ++ qdx_ k (qw_ k R) (q1_ k R), s, t, by rw [tkL], lo', hs, ht, ok2, by show 3 ≤ sizeLine; decide, _, Sub.refl _, q⟩

/-! ### rule_of, exact, for up to three shims -/
structure RowW (s t D n : Nat) (z : ZR) : Prop where
  s : z.1.length = s
  t : z.2.1.length = t
  a : ∀ q ∈ z.1, Wh D n q
  b : ∀ q ∈ z.2.1, Wh D n q
  c : Wh D n z.2.2
theorem RowW.ok {s t D n : Nat} {z : ZR} (h : RowW s t D n z) (d0 : D ≠ 0) (sD : Sm n (D : Int)) : RowOk s t n z := ⟨h.s, h.t, fun q hq => (h.a q hq).smr d0 sD, fun q hq => (h.b q hq).smr d0 sD, h.c.smr d0 sD⟩
theorem RowW.sq {s t D n : Nat} {z : ZR} (h : RowW s t D n z) (d0 : D ≠ 0) (sD : Sm n (D : Int)) : RowW s t (D * D) (2 * n + 1) z := by
  have u : ∀ q, Wh D n q → Wh (D * D) (2 * n + 1) q := fun q hq => (hq.up D d0 sD).mono (by omega)
  exact ⟨h.s, h.t, fun q hq => u q (h.a q hq), fun q hq => u q (h.b q hq), u _ h.c⟩
theorem qkk_ {D n : Nat} {q : Rat} (h : Wh D n q) : Wh D n (-q) := by
  obtain ⟨a, rfl, sa⟩ := h
  exact ⟨-a, by rw [Rat.neg_divInt], sa.neg⟩
theorem qoi_ {D n : Nat} {q r x y : Rat} (hq : Wh D n q) (hr : Wh D n r) (hx : Wh D n x) (hy : Wh D n y) : Wh (D * D) (2 * n + 1) (q * x + r * y) := ((hq.mul hx).add (hr.mul hy)).mono (by omega)
theorem pt_w {s t D n k : Nat} {l h : ZR} (ol : RowW s t D n l) (oh : RowW s t D n h) (hk : k < t) : RowW s t (D * D) (2 * n + 1) (ptQ l h k) := by
  have m1 := qkk_ (oh.b _ (qbq_ (l := h.2.1) (k := k) (by rw [oh.t]; exact hk)))
  have m2 := ol.b _ (qbq_ (l := l.2.1) (k := k) (by rw [ol.t]; exact hk))
  have mm : ∀ a b : List Rat, (∀ x ∈ a, Wh D n x) → (∀ x ∈ b, Wh D n x) → ∀ x ∈ mixQ (-(h.2.1.getD k 0)) a (l.2.1.getD k 0) b, Wh (D * D) (2 * n + 1) x := by
    intro a b ha hb x hx
    obtain ⟨i, hi⟩ := List.mem_iff_getElem?.mp hx
    rw [mixQ, List.getElem?_zipWith] at hi
    cases e1 : a[i]? with
    | none => rw [e1] at hi; cases hi
    | some y =>
      cases e2 : b[i]? with
      | none => rw [e1, e2] at hi; cases hi
      | some z =>
        rw [e1, e2] at hi
        rw [← Option.some.inj hi]
        exact qoi_ m1 m2 (ha y (List.mem_of_getElem? e1)) (hb z (List.mem_of_getElem? e2))
  refine ⟨?_, ?_, mm _ _ ol.a oh.a, mm _ _ ol.b oh.b, qoi_ m1 m2 ol.c oh.c⟩
  · show (mixQ _ _ _ _).length = s
    rw [mixQ, List.length_zipWith, ol.s, oh.s, Nat.min_self]
  · show (mixQ _ _ _ _).length = t
    rw [mixQ, List.length_zipWith, ol.t, oh.t, Nat.min_self]
theorem qrw_ {R : List ZR} {k s t D n : Nat} (d0 : D ≠ 0) (sD : Sm n (D : Int)) (ok : ∀ z ∈ R, RowW s t D n z) (hk : k < t) : ∀ z ∈ qjx_ k R, RowW s t (D * D) (2 * n + 1) z := by
  intro z hz
  rcases List.mem_append.mp hz with hz | hz
  · exact (ok z (List.mem_filter.mp hz).1).sq d0 sD
  · obtain ⟨l, hl, hz⟩ := List.mem_flatten.mp hz
    obtain ⟨x, hx, rfl⟩ := List.mem_map.mp hl
    obtain ⟨y, hy, rfl⟩ := List.mem_map.mp hz
    exact pt_w (ok x (List.mem_filter.mp hx).1) (ok y (List.mem_filter.mp hy).1) hk
structure RuOk (S T : List (Rat × Rat)) (Z : List ZR) : Prop where
  s : S.length ≤ 10
  t3 : T.length ≤ 3
  z10 : Z.length ≤ 10
  zt : Z.length + 2 * T.length ≤ 14
  z3 : T.length = 3 → Z.length ≤ 6
  w : ∃ D : Nat, D ≠ 0 ∧ Sm 400 (D : Int) ∧ (∀ z ∈ Z, RowW S.length T.length D 400 z) ∧ ∀ x ∈ T, Wh D 400 x.1 ∧ Wh D 400 x.2
def qbf_ (S T : List (Rat × Rat)) (Z : List ZR) : Nat → List ZR
  | 0 => qk5_ S T Z
  | i + 1 => outQ (T.length - 1 - i) (qbf_ S T Z i)
def qhu_ (k : Nat) (R : List ZR) : D := .tup [.lst ((qw_ k R).map zQ), .lst ((q1_ k R).map zQ)]
def q2_ (S T : List (Rat × Rat)) (Z : List ZR) (i : Nat) : List D := (List.range i).map fun j => qhu_ (T.length - 1 - j) (qbf_ S T Z j)
def qd6_ (S T : List (Rat × Rat)) (Z : List ZR) : D := .tup [.lst (q2_ S T Z T.length).reverse, .lst ((qbf_ S T Z T.length).map zQ)]
def cntR (t : Nat) : Nat → Nat
  | 0 => if t = 3 then 12 else 14
  | i + 1 => cntR t i * cntR t i / 4
def bitR : Nat → Nat
  | 0 => 400
  | i + 1 => 2 * bitR i + 1
def botR (D : Nat) : Nat → Nat
  | 0 => D
  | i + 1 => botR D i * botR D i
theorem qdv_ {D : Nat} (d0 : D ≠ 0) (sD : Sm 400 (D : Int)) : ∀ i, botR D i ≠ 0 ∧ Sm (bitR i) (botR D i : Int)
  | 0 => ⟨d0, sD⟩
  | i + 1 => by
    obtain ⟨h1, h2⟩ := qdv_ d0 sD i
    refine ⟨Nat.mul_ne_zero h1 h1, ?_⟩
    rw [botR, Int.natCast_mul]
    exact (h2.mul h2).mono (by rw [bitR]; omega)
theorem qu9_ (t i : Nat) : 4 ≤ cntR t i := by
  induction i with
  | zero => rw [cntR]; split <;> decide
  | succ i ih =>
    rw [cntR]
    have := Nat.mul_le_mul ih ih
    omega
theorem qgk_ {S T : List (Rat × Rat)} {Z : List ZR} (ok : RuOk S T Z) (i : Nat) : (qbf_ S T Z i).length ≤ cntR T.length i := by
  induction i with
  | zero =>
    have h := qi6_ (Z ++ qfd_ S T)
    rw [List.length_append, qiw_] at h
    have h1 := ok.zt
    have h3 := ok.z3
    rw [qbf_, cntR]
    refine Nat.le_trans h ?_
    split
    · rename_i e
      have := h3 e
      omega
    · omega
  | succ i ih =>
    rw [qbf_, cntR]
    have h := qi6_ (qjx_ (T.length - 1 - i) (qbf_ S T Z i))
    have h2 := qi9_ (k := T.length - 1 - i) ih (qu9_ _ _)
    refine Nat.le_trans h ?_
    omega
theorem qtw_ {S T : List (Rat × Rat)} {D : Nat} (d0 : D ≠ 0) (sD : Sm 400 (D : Int)) (b : ∀ x ∈ T, Wh D 400 x.1 ∧ Wh D 400 x.2) : ∀ z ∈ qfd_ S T, RowW S.length T.length D 400 z := by
  intro z hz
  obtain ⟨r, hr, rfl⟩ := List.mem_map.mp hz
  unfold qco_ at hr
  obtain ⟨l, hl, hr⟩ := List.mem_flatten.mp hr
  obtain ⟨j, hj, rfl⟩ := List.mem_mapIdx.mp hl
  obtain ⟨b1, b2⟩ := b _ (List.getElem_mem hj)
  have w0 : Wh D 400 0 := ⟨0, by rw [Rat.zero_divInt], by unfold Sm; decide⟩
  have w1 : Wh D 400 1 := ⟨D, by rw [Rat.divInt_self' (by omega)], sD⟩
  have u : ∀ q : Rat, Wh D 400 q → ∀ x ∈ qbx_ T.length j q, Wh D 400 x := fun q hq x hx => by
    rcases qir_ hx with rfl | rfl
    · exact w0
    · exact hq
  have ul : ∀ q : Rat, (qbx_ T.length j q).length = T.length := fun q => by simp [qbx_]
  have z0 : ∀ x ∈ List.replicate S.length (0 : Rat), Wh D 400 x := fun x hx => by rw [List.eq_of_mem_replicate hx]; exact w0
  simp only [qjq_, List.mem_cons, List.not_mem_nil, or_false] at hr
  rcases hr with rfl | rfl
  · exact ⟨List.length_replicate, ul 1, z0, u 1 w1, qkk_ b1⟩
  · exact ⟨List.length_replicate, ul (-1), z0, u (-1) (qkk_ w1), b2⟩
theorem qfl_ {S T : List (Rat × Rat)} {Z : List ZR} {D : Nat} (d0 : D ≠ 0) (sD : Sm 400 (D : Int)) (a : ∀ z ∈ Z, RowW S.length T.length D 400 z) (b : ∀ x ∈ T, Wh D 400 x.1 ∧ Wh D 400 x.2) (i : Nat) (hi : i ≤ T.length) : ∀ z ∈ qbf_ S T Z i, RowW S.length T.length (botR D i) (bitR i) z := by
  induction i with
  | zero =>
    intro z hz
    rcases List.mem_append.mp (qok_ hz) with h | h
    · exact a z h
    · exact qtw_ d0 sD b z h
  | succ i ih =>
    intro z hz
    obtain ⟨h1, h2⟩ := qdv_ d0 sD i
    exact qrw_ h1 h2 (ih (by omega)) (by omega) z (qok_ hz)
theorem qld_ {i : Nat} (h : i ≤ 3) : bitR i ≤ 3207 := by
  rcases i with _ | _ | _ | _ | i
  · decide
  · decide
  · decide
  · decide
  · omega
theorem qls_ {i : Nat} (h : i ≤ 2) : bitR i ≤ 1603 := by
  rcases i with _ | _ | _ | i
  · decide
  · decide
  · decide
  · omega
theorem qn8_ {t i : Nat} (h : i < t) (ht : t ≤ 3) : cntR t i ≤ 330 := by
  have : t = 1 ∨ t = 2 ∨ t = 3 := by omega
  rcases this with rfl | rfl | rfl
  · rcases i with _ | i
    · decide
    · omega
  · rcases i with _ | _ | i
    · decide
    · decide
    · omega
  · rcases i with _ | _ | _ | i
    · decide
    · decide
    · decide
    · omega
def qr7_ : List D → (D → Prop) → Prop := fun ds P => ∃ (S T : List (Rat × Rat)) (Z : List ZR), ds = [qeu_ S T Z] ∧ RuOk S T Z ∧ P (qd6_ S T Z)
abbrev qd2_ : Stmt := top 33
theorem sc_rule_of : FnScope ["plan", "rows", "steps", "k", "parts"] ["plan"] (qd_ qd2_) := ⟨rfl, rfl, rfl, by decide +kernel, rfl, by decide +kernel, by decide +kernel⟩
theorem h_rule_of (B : Bl2 mg) (F : Def K mg "rule_of" qd2_ ["plan"]) (F_first_rows : Has P w K mg base CX0 4 "first_rows" ["plan"] (spW K (pur qow_))) (F_taken_out : Has P w K mg base CX0 6 "taken_out" ["rows", "k"] (spW K (pur gTO))) : Has P w K mg base CX0 7 "rule_of" ["plan"] (spW K (pur qr7_)) := by
  refine F.hasP sc_rule_of (fun ds P h => by obtain ⟨_, _, _, rfl, _⟩ := h; rfl) fun f cdv A outer s H E hr => ?_
  have nd := sc_rule_of.nd
  refine ⟨_, (qc_ (qo_ (i := 1) nd rfl (Or.inl rfl) (j_h F_first_rows (hr.mono (by decide)) rfl (qa_ (jv 0) qb_)))
    (qc_ (qib_ (i := 2) nd rfl (Or.inl rfl) (qbn_ qb_))
    (qc_ (qbv_ PassesOwn.never rfl (qpe_ rfl B.range (qa_ (qhq_ (qnx_ rfl B.len (qa_ (qm_ 0 qe_) qb_)) qe_) (qa_ (qfe_ qe_) (qa_ (qfe_ qe_) qb_)))) (qj_ (i := 3) nd rfl (Or.inl rfl))
    (qc_ (qo_ (i := 4) nd rfl (Or.inl rfl) (j_h F_taken_out (hr.mono (by decide)) rfl (qa_ (jv 1) (qa_ (jv 3) qb_))))
    (qc_ (qh2_ 2 (qbl_ (qa_ (qm_ 4 qe_) (qa_ (qm_ 4 qe_) qb_))))
    (qg_ (qo_ (i := 1) nd rfl (Or.inl rfl) (qm_ 4 qe_))))))
    (qg_ (qr_ (qbl_ (qa_ (j_fz (qjp_ rfl B.list rfl B.reversed rfl (qa_ (jv 2) qb_))) (qa_ (jv 1) qb_)))))))), ?_⟩
  rintro ds M Q ⟨S, T, Z, rfl, ok, k⟩
  have t3 := ok.t3
  have lS := ok.s
  have z10 := ok.z10
  obtain ⟨D, d0, sD, wZ, wT⟩ := ok.w
  have pl : PlR 400 S T Z := ⟨lS, by omega, z10, fun z hz => (wZ z hz).ok d0 sD, fun x hx => ⟨(wT x hx).1.smr d0 sD, (wT x hx).2.smr d0 sD⟩, by decide, by decide⟩
  refine ⟨400, S, T, Z, rfl, pl, by show 0 ≤ sizeLine; decide, _, _, rfl, ⟨by rw [List.length_map]; omega, by rw [List.length_map]; omega, by decide, by decide⟩, ?_⟩
  refine ⟨fun i ρ M' => M' = M ∧ i ≤ T.length ∧ ∃ (o3 o4 : Ent), ρ = [.sh (qeu_ S T Z), .sh (.lst ((qbf_ S T Z i).map zQ)), .ow (q2_ S T Z i), o3, o4], ⟨rfl, by omega, _, _, rfl⟩, ?_, ?_⟩
  · rintro i d ρ M' hd ⟨rfl, i2, o3, o4, rfl⟩
    obtain ⟨rfl, hi⟩ := qjl_ hd
    have hi : i < T.length := by
      rw [List.length_map] at hi
      omega
    have ek : (((T.map bQ).length : Nat) : Int) - 1 - i = ((T.length - 1 - i : Nat) : Int) := by rw [List.length_map]; omega
    obtain ⟨b1, b2⟩ := qdv_ d0 sD i
    obtain ⟨b3, b4⟩ := qdv_ d0 sD (i + 1)
    have rw' := qfl_ d0 sD wZ wT i (by omega)
    have ls : (q2_ S T Z i).length = i := by rw [q2_, List.length_map, List.length_range]
    refine ⟨qbf_ S T Z i, T.length - 1 - i, S.length, T.length, bitR i, by rw [ek], Nat.le_trans (qgk_ ok i) (qn8_ hi t3), fun z hz => (rw' z hz).ok b1 b2, fun z hz => ((qrw_ b1 b2 rw' (by omega) z hz).ok b3 b4).mono (Nat.le_trans (qld_ (i := i + 1) (by omega)) (by decide)), by omega, by omega, by omega, Nat.le_trans (qls_ (by omega)) (by decide), trivial, by show 2 ≤ sizeLine; decide, by rw [ls]; exact qn_ (by omega), rfl, by omega, .sh (.int ((((T.map bQ).length : Nat) : Int) - 1 - i)), .sh (.tup [.lst ((qw_ (T.length - 1 - i) (qbf_ S T Z i)).map zQ), .lst ((q1_ (T.length - 1 - i) (qbf_ S T Z i)).map zQ), .lst ((outQ (T.length - 1 - i) (qbf_ S T Z i)).map zQ)]), ?_⟩
    have e : q2_ S T Z (i + 1) = q2_ S T Z i ++ [qhu_ (T.length - 1 - i) (qbf_ S T Z i)] := by
      unfold q2_
      rw [List.range_succ, List.map_append]; rfl
    rw [e]
    rfl
  · rintro ρ M' ⟨rfl, i2, o3, o4, rfl⟩
    have el : (qhp_ ((((T.map bQ).length : Nat) : Int) - 1) ((((T.map bQ).length : Nat) : Int) - 1 - -1).toNat).length = T.length := by rw [qf8_, List.length_map]; omega
    rw [el] at *
    have ls : (q2_ S T Z T.length).length = T.length := by rw [q2_, List.length_map, List.length_range]
    exact ⟨by rw [ls]; omega, by show 2 ≤ sizeLine; decide, _, Sub.refl _, k⟩

/-! ### sums of products over common bottoms -/
theorem qph_ (D n : Nat) : Wh D n 0 := ⟨0, by rw [Rat.zero_divInt], by unfold Sm; exact Nat.pow_pos (by decide)⟩
theorem qk0_ {D E n m : Nat} : ∀ (qs rs : List Rat), (∀ q ∈ qs, Wh D n q) → (∀ r ∈ rs, Wh E m r) → Wh (D * E) (n + m + qs.length) (dot qs rs) := by
  intro qs
  induction qs with
  | nil => intro rs _ _; exact qph_ _ _
  | cons q qs ih =>
    intro rs h k
    cases rs with
    | nil => exact qph_ _ _
    | cons r rs =>
      rw [dot]
      have a : Wh (D * E) (n + m) (q * r) := (h q (.head _)).mul (k r (.head _))
      exact (a.mono (b := n + m + qs.length) (by omega)).add (ih rs (fun x hx => h x (.tail _ hx)) fun x hx => k x (.tail _ hx))
structure WsOk (D E n m : Nat) (qs rs : List Rat) : Prop where
  d0 : D ≠ 0
  e0 : E ≠ 0
  sD : Sm n (D : Int)
  sE : Sm m (E : Int)
  q : ∀ x ∈ qs, Wh D n x
  r : ∀ x ∈ rs, Wh E m x
  l : qs.length ≤ 20
  b : n + m ≤ 4300
theorem WsOk.de {D E n m : Nat} {qs rs : List Rat} (o : WsOk D E n m qs rs) : D * E ≠ 0 ∧ Sm (n + m) ((D * E : Nat) : Int) := ⟨Nat.mul_ne_zero o.d0 o.e0, by rw [Int.natCast_mul]; exact o.sD.mul o.sE⟩
theorem WsOk.wh {D E n m : Nat} {qs rs : List Rat} (o : WsOk D E n m qs rs) : Wh (D * E) (n + m + 20) (dot qs rs) := (qk0_ qs rs o.q o.r).mono (by have := o.l; omega)
theorem WsOk.wi {D E n m : Nat} {qs rs : List Rat} (o : WsOk D E n m qs rs) (i : Nat) : SmR (n + m + 20) (dot (qs.take i) (rs.take i)) := by
  obtain ⟨h1, h2⟩ := o.de
  exact ((qk0_ (qs.take i) (rs.take i) (fun x hx => o.q x (List.mem_of_mem_take hx)) fun x hx => o.r x (List.mem_of_mem_take hx)).mono (by have := o.l; rw [List.length_take]; omega)).smr h1 (h2.mono (by omega))
def gWS : List D → (D → Prop) → Prop := fun ds P => ∃ (qs rs : List Rat) (D E n m : Nat), ds = [frL qs, frL rs] ∧ WsOk D E n m qs rs ∧ P (frD (dot qs rs))
abbrev qbp_ : Stmt := top 20
theorem sc_weighed_sum : FnScope ["factors", "told", "total", "factor", "q"] ["factors", "told"] (qd_ qbp_) := ⟨rfl, rfl, rfl, by decide +kernel, rfl, by decide +kernel, by decide +kernel⟩
theorem h_weighed_sum (B : Bl mg) (F : Def K mg "weighed_sum" qbp_ ["factors", "told"]) (F_plus : Has P w K mg base CX0 3 "plus" ["q", "r"] (spW K (pur (gOp fun q r => q + r)))) (F_times : Has P w K mg base CX0 3 "times" ["q", "r"] (spW K (pur (gOp fun q r => q * r)))) (C_ZERO : Zero4 K mg) : Has P w K mg base CX0 4 "weighed_sum" ["factors", "told"] (spW K (pur gWS)) := by
  refine F.hasP sc_weighed_sum (fun ds P h => by obtain ⟨a, b, _, _, _, _, rfl, _⟩ := h; rfl) fun f cdv A outer s H E hr => ?_
  have nd := sc_weighed_sum.nd
  refine ⟨_, (qc_ (qo_ (i := 2) nd rfl (Or.inl rfl) (qc1_ C_ZERO rfl))
    (qc_ (qbv_ PassesOwn.never rfl (qoj_ rfl B.zip (qa_ (jv 0) (qa_ (jv 1) qb_))) (qd7_ (n := 2) rfl (qs_ (qj_ (i := 3) nd rfl (Or.inl rfl)) (qs_ (qj_ (i := 4) nd rfl (Or.inl rfl)) qcs_)))
    (qg_ (qo_ (i := 2) nd rfl (Or.inl rfl) (j_h F_plus (hr.mono (by decide)) rfl (qa_ (jv 2) (qa_ (j_h F_times (hr.mono (by decide)) rfl (qa_ (jv 3) (qa_ (jv 4) qb_))) qb_))))))
    (qg_ (qr_ (jv 2))))), ?_⟩
  rintro ds M Q ⟨qs, rs, D, E, n, m, rfl, o, q⟩
  have ob := o.b
  obtain ⟨h1, h2⟩ := o.de
  refine ⟨fun i ρ M' => M' = M ∧ ∃ o3 o4, ρ = [.sh (frL qs), .sh (frL rs), .sh (frD (dot (qs.take i) (rs.take i))), o3, o4], ⟨rfl, _, _, rfl⟩, ?_, ?_⟩
  · rintro i d ρ M' hd ⟨rfl, o3, o4, rfl⟩
    obtain ⟨a, b, ha, hb, rfl⟩ := qot_ hd
    have wa := o.q _ (List.mem_of_getElem? ha)
    have wb := o.r _ (List.mem_of_getElem? hb)
    refine ⟨rfl, a, b, rfl, Mx.of (wa.smr o.d0 o.sD) (wb.smr o.e0 o.sE) (by omega), _, _, rfl, Mx.of (o.wi i) ((wa.mul wb).smr h1 h2) (by omega), rfl, .sh (frD a), .sh (frD b), ?_⟩
    rw [qik_ ha hb]; rfl
  · rintro ρ M' ⟨rfl, o3, o4, rfl⟩
    refine ⟨_, Sub.refl _, ?_⟩
    have e : (zipD (qs.map frD) (rs.map frD)).length = min qs.length rs.length := by rw [qc8_, List.length_map, List.length_map]
    rw [e, qg8_]
    exact q
def q3_ (z : ZR) (M C : List Rat) : Rat := dot z.1 M + dot z.2.1 C + z.2.2
structure DwOk (D E n m : Nat) (z : ZR) (M C : List Rat) : Prop where
  a : WsOk D E n m z.1 M
  b : WsOk D E n m z.2.1 C
  c : Wh D n z.2.2
theorem DwOk.wh {D E n m : Nat} {z : ZR} {M C : List Rat} (o : DwOk D E n m z M C) : Wh (D * E) (n + m + 22) (q3_ z M C) := by
  have h := (o.a.wh.add o.b.wh)
  have c := (o.c.up E o.a.e0 o.a.sE).mono (b := n + m + 21) (by omega)
  exact (h.add c)
theorem DwOk.s {D E n m : Nat} {z : ZR} {M C : List Rat} (o : DwOk D E n m z M C) : SmR (n + m + 22) (q3_ z M C) := o.wh.smr o.a.de.1 (o.a.de.2.mono (by omega))
def gDW : List D → (D → Prop) → Prop := fun ds P => ∃ (z : ZR) (M C : List Rat) (D E n m : Nat), ds = [zQ z, frL M, frL C] ∧ DwOk D E n m z M C ∧ P (frD (q3_ z M C))
abbrev qbi_ : Stmt := top 21
theorem sc_demand_worth : FnScope ["demand", "made", "choice", "both"] ["demand", "made", "choice"] (qd_ qbi_) := ⟨rfl, rfl, rfl, by decide +kernel, rfl, by decide +kernel, by decide +kernel⟩
theorem h_demand_worth (B : Bl mg) (F : Def K mg "demand_worth" qbi_ ["demand", "made", "choice"]) (F_plus : qqj_ P w K mg base) (F_weighed_sum : Has P w K mg base CX0 4 "weighed_sum" ["factors", "told"] (spW K (pur gWS))) : Has P w K mg base CX0 5 "demand_worth" ["demand", "made", "choice"] (spW K (pur gDW)) := by
  refine F.hasP sc_demand_worth (fun ds P h => by obtain ⟨_, _, _, _, _, _, _, rfl, _⟩ := h; rfl) fun f cdv A outer s H E hr => ?_
  have nd := sc_demand_worth.nd
  refine ⟨_, (qc_ (qo_ (i := 3) nd rfl (Or.inl rfl) (j_h F_plus (hr.mono (by decide)) rfl (qa_ (j_h F_weighed_sum (hr.mono (by decide)) rfl (qa_ (qm_ 0 qe_) (qa_ (jv 1) qb_))) (qa_ (j_h F_weighed_sum (hr.mono (by decide)) rfl (qa_ (qm_ 0 qe_) (qa_ (jv 2) qb_))) qb_))))
    (qg_ (qr_ (j_h F_plus (hr.mono (by decide)) rfl (qa_ (jv 3) (qa_ (qm_ 0 qe_) qb_)))))), ?_⟩
  rintro ds M0 Q ⟨z, M, C, D, E, n, m, rfl, o, q⟩
  have ob := o.a.b
  obtain ⟨h1, h2⟩ := o.a.de
  have sa := o.a.wh.smr h1 (h2.mono (by omega))
  have sb := o.b.wh.smr h1 (h2.mono (by omega))
  have sab := (o.a.wh.add o.b.wh).smr h1 (h2.mono (by omega))
  refine ⟨z.1, M, D, E, n, m, rfl, o.a, z.2.1, C, D, E, n, m, rfl, o.b, _, _, rfl, Mx.of sa sb (by omega), ?_⟩
  exact ⟨_, _, rfl, Mx.of sab (o.c.smr o.a.d0 o.a.sD) (by omega), _, Sub.refl _, q⟩
def qum_ : List D → (D → Prop) → Prop := fun ds P => ∃ q r : Rat, ds = [frD q, frD r] ∧ r ≠ 0 ∧ Mx q r ∧ P (frD (q / r))
abbrev qjm_ : Stmt := top 16
theorem sc_over : FnScope ["q", "r"] ["q", "r"] (qd_ qjm_) := ⟨rfl, rfl, rfl, by decide +kernel, rfl, by decide +kernel, by decide +kernel⟩
theorem h_over (B : Bl mg) (F : Def K mg "over" qjm_ ["q", "r"]) (F_fraction : qq2_ P w K mg base) : Has P w K mg base CX0 3 "over" ["q", "r"] (spW K (pur qum_)) := by
  refine F.hasP sc_over (fun ds P h => by obtain ⟨a, b, rfl, _⟩ := h; rfl) fun f cdv A outer s H E hr => ?_
  have nd := sc_over.nd
  refine ⟨_, (qg_ (qr_ (j_h F_fraction (hr.mono (by decide)) rfl (qa_ (qby_ (qm_ 0 qe_) (qm_ 1 qe_)) (qa_ (qby_ (qm_ 0 qe_) (qm_ 1 qe_)) qb_))))), ?_⟩
  rintro ds M Q ⟨q, r, rfl, r0, m, k⟩
  have hb : (q.den : Int) * r.num ≠ 0 := Int.mul_ne_zero (qe6_ q) (fun e => r0 (Rat.num_eq_zero.mp e))
  obtain ⟨n1, n2, l, a, b⟩ := m
  exact ⟨.inr ⟨n1, n2, by omega, a.1, b.2⟩, .inr ⟨n1, n2, by omega, a.2, b.1⟩, _, _, rfl, hb, (a.2.mul b.1).mono (by omega), _, Sub.refl _, by rw [qr9_ q r (fun e => r0 (Rat.num_eq_zero.mp e))]; exact k⟩
structure LLOk (D E n m k : Nat) (z : ZR) (M C : List Rat) : Prop where
  w : DwOk D E n m z M C
  kl : k < z.2.1.length
  b : bAt k z ≠ 0
def llQ (k : Nat) (M C : List Rat) (z : ZR) : Rat := -(q3_ z M C) / bAt k z
def gLL : List D → (D → Prop) → Prop := fun ds P => ∃ (z : ZR) (k : Nat) (M C : List Rat) (D E n m : Nat), ds = [zQ z, .int k, frL M, frL C] ∧ LLOk D E n m k z M C ∧ P (frD (llQ k M C z))
abbrev qck_ : Stmt := top 34
theorem sc_least_let : FnScope ["low", "k", "made", "others"] ["low", "k", "made", "others"] (qd_ qck_) := ⟨rfl, rfl, rfl, by decide +kernel, rfl, by decide +kernel, by decide +kernel⟩
theorem h_least_let (B : Bl mg) (F : Def K mg "least_let" qck_ ["low", "k", "made", "others"]) (F_over : Has P w K mg base CX0 3 "over" ["q", "r"] (spW K (pur qum_))) (F_opposite : Has P w K mg base CX0 1 "opposite" ["q"] (spW K (pur gOpp))) (F_demand_worth : Has P w K mg base CX0 5 "demand_worth" ["demand", "made", "choice"] (spW K (pur gDW))) : Has P w K mg base CX0 6 "least_let" ["low", "k", "made", "others"] (spW K (pur gLL)) := by
  refine F.hasP sc_least_let (fun ds P h => by obtain ⟨_, _, _, _, _, _, _, _, rfl, _⟩ := h; rfl) fun f cdv A outer s H E hr => ?_
  have nd := sc_least_let.nd
  refine ⟨_, (qg_ (qr_ (j_h F_over (hr.mono (by decide)) rfl (qa_ (j_h F_opposite (hr.mono (by decide)) rfl (qa_ (j_h F_demand_worth (hr.mono (by decide)) rfl (qa_ (jv 0) (qa_ (jv 2) (qa_ (jv 3) qb_)))) qb_)) (qa_ (j_at (qm_ 0 qe_) (jv 1)) qb_))))), ?_⟩
  rintro ds M0 Q ⟨z, k, M, C, D, E, n, m, rfl, o, q⟩
  have ob := o.w.a.b
  have sb : SmR n (bAt k z) := (o.w.b.q _ (qbq_ o.kl)).smr o.w.a.d0 o.w.a.sD
  refine ⟨z, M, C, D, E, n, m, rfl, o.w, _, rfl, RIx.frl o.kl ?_⟩
  exact ⟨_, _, rfl, o.b, Mx.of (qe0_ o.w.s) sb (by omega), _, Sub.refl _, q⟩
def grQ (q : Rat) (qs : List Rat) : Rat := qs.foldl (fun g q => if g < q then q else g) q
def gGr : List D → (D → Prop) → Prop := fun ds P => ∃ (q : Rat) (qs : List Rat) (n : Nat), ds = [frL (q :: qs)] ∧ (∀ x ∈ q :: qs, SmR n x) ∧ n ≤ 4400 ∧ P (frD (grQ q (q :: qs)))
theorem qoe_ (n : Nat) : ∀ (qs : List Rat) (q : Rat), SmR n q → (∀ x ∈ qs, SmR n x) → SmR n (grQ q qs)
  | [], q, h, _ => h
  | x :: qs, q, h, k => by
    unfold grQ
    rw [List.foldl_cons]
    refine qoe_ n qs _ ?_ fun y hy => k y (.tail _ hy)
    split
    · exact k x (.head _)
    · exact h
abbrev qbo_ : Stmt := top 35
theorem sc_greatest_of : FnScope ["fractions", "greatest", "q"] ["fractions"] (qd_ qbo_) := ⟨rfl, rfl, rfl, by decide +kernel, rfl, by decide +kernel, by decide +kernel⟩
theorem h_greatest_of (B : Bl mg) (F : Def K mg "greatest_of" qbo_ ["fractions"]) (F_below : qix_ P w K mg base) : Has P w K mg base CX0 2 "greatest_of" ["fractions"] (spW K (pur gGr)) := by
  refine F.hasP sc_greatest_of (fun ds P h => by obtain ⟨_, _, _, rfl, _⟩ := h; rfl) fun f cdv A outer s H E hr => ?_
  have nd := sc_greatest_of.nd
  refine ⟨_, (qc_ (qo_ (i := 1) nd rfl (Or.inl rfl) (qm_ 0 qe_))
    (qc_ (qbv_ PassesOwn.never rfl (qu_ (jv 0)) (qj_ (i := 2) nd rfl (Or.inl rfl))
    (qg_ (qb9_ (jt (j_h F_below (hr.mono (by decide)) rfl (qa_ (jv 1) (qa_ (jv 2) qb_)))) (qg_ (qo_ (i := 1) nd rfl (Or.inl rfl) (jv 2))) qv_)))
    (qg_ (qr_ (jv 1))))), ?_⟩
  rintro ds M Q ⟨q, qs, n, rfl, sq, hn, k⟩
  refine RIx.get (k := 0) (d := frD q) rfl ?_
  refine ⟨fun i ρ M' => M' = M ∧ ∃ o2, ρ = [.sh (frL (q :: qs)), .sh (frD (grQ q ((q :: qs).take i))), o2], ⟨rfl, _, rfl⟩, ?_, ?_⟩
  · rintro i d ρ M' hd ⟨rfl, o2, rfl⟩
    obtain ⟨x, hx, rfl⟩ := q0_ hd
    have sx := sq x (List.mem_of_getElem? hx)
    have sg := qoe_ n ((q :: qs).take i) q (sq q (.head _)) fun y hy => sq y (List.mem_of_mem_take hy)
    have e : grQ q ((q :: qs).take (i + 1)) = if grQ q ((q :: qs).take i) < x then x else grQ q ((q :: qs).take i) := qfr_ hx
    refine ⟨_, x, rfl, Mx.of sg sx (by omega), ?_⟩
    refine iteB (fun c => ?_) (fun c => ?_)
    · refine ⟨rfl, .sh (frD x), ?_⟩
      rw [e, if_pos (by simpa using c)]; rfl
    · refine ⟨rfl, .sh (frD x), ?_⟩
      rw [e, if_neg (by simpa using c)]; rfl
  · rintro ρ M' ⟨rfl, o2, rfl⟩
    rw [List.length_map, List.take_length]
    exact ⟨_, Sub.refl _, k⟩

/-! ### chosen_by, exact -/
theorem qt8_ : ∀ (qs : List Rat) (q : Rat), grQ q qs = q ∨ grQ q qs ∈ qs
  | [], q => .inl rfl
  | x :: qs, q => by
    unfold grQ
    rw [List.foldl_cons]
    rcases qt8_ qs (if q < x then x else q) with h | h
    · unfold grQ at h
      rw [h]
      split
      · exact .inr (.head _)
      · exact .inl rfl
    · exact .inr (.tail _ h)
def qdy_ : List Rat → Rat
  | [] => 0
  | q :: qs => grQ q (q :: qs)
theorem qke_ {l : List Rat} (h : l ≠ []) : qdy_ l ∈ l := by
  cases l with
  | nil => exact (h rfl).elim
  | cons q qs =>
    rcases qt8_ (q :: qs) q with e | e
    · show grQ q (q :: qs) ∈ _
      rw [e]; exact .head _
    · exact e
def qbm_ (S T : List (Rat × Rat)) (Z : List ZR) (k : Nat) : List ZR := qbf_ S T Z (T.length - 1 - k)
def chQ (S T : List (Rat × Rat)) (Z : List ZR) (M : List Rat) : Nat → List Rat
  | 0 => []
  | k + 1 => chQ S T Z M k ++ [qdy_ ((qw_ k (qbm_ S T Z k)).map (llQ k M (chQ S T Z M k)))]
def qjw_ (S T : List (Rat × Rat)) (Z : List ZR) (M : List Rat) : Bool := (qbf_ S T Z T.length).any fun z => decide (q3_ z M [] < 0)
theorem qim_ {R : List ZR} {y : ZR} (h : y ∈ R) (i : idle y = false) : y ∈ onQ R := by
  unfold onQ
  have keep : ∀ (R acc : List ZR), y ∈ acc → y ∈ R.foldl onR acc := by
    intro R
    induction R with
    | nil => intro acc h; exact h
    | cons z R ih =>
      intro acc h
      rw [List.foldl_cons]
      refine ih _ ?_
      unfold onR
      split
      · exact h
      · split
        · exact h
        · exact List.mem_append_left _ h
  have go : ∀ (R acc : List ZR), y ∈ R → y ∈ R.foldl onR acc := by
    intro R
    induction R with
    | nil => intro acc h; cases h
    | cons z R ih =>
      intro acc h
      rw [List.foldl_cons]
      rcases List.mem_cons.mp h with rfl | h
      · refine keep R _ ?_
        unfold onR
        rw [i, if_neg Bool.false_ne_true]
        split
        · assumption
        · exact List.mem_append_right _ (.head _)
      · exact ih _ h
  exact go R [] h
def lowR (S T : List (Rat × Rat)) (k : Nat) (x : Rat × Rat) : ZR := (List.replicate S.length 0, qbx_ T.length k 1, -x.1)
theorem qia_ {n k j : Nat} {q : Rat} (h : k < n) : (qbx_ n k q).getD j 0 = if j = k then q else 0 := by
  unfold qbx_
  rw [List.getD_eq_getElem?_getD, List.getElem?_set]
  by_cases e : k = j
  · subst e
    rw [if_pos rfl, if_pos rfl, List.length_replicate, if_pos h]; rfl
  · rw [if_neg e, if_neg (fun z => e z.symm), List.getElem?_replicate]
    split <;> rfl
theorem qis_ {S T : List (Rat × Rat)} {k : Nat} {x : Rat × Rat} (h : k < T.length) : idle (lowR S T k x) = false := by
  unfold idle
  have : ((lowR S T k x).1 ++ (lowR S T k x).2.1).all (fun q => decide (q = 0)) = false := by
    rw [List.all_eq_false]
    refine ⟨1, List.mem_append_right _ ?_, by decide +kernel⟩
    have e := qia_ (q := 1) (j := k) h
    rw [if_pos rfl] at e
    show (1 : Rat) ∈ qbx_ T.length k 1
    have m := qbq_ (l := qbx_ T.length k 1) (k := k) (by unfold qbx_; simpa using h)
    rw [e] at m
    exact m
  rw [this]; rfl
theorem qle_ {S T : List (Rat × Rat)} {Z : List ZR} {k : Nat} {x : Rat × Rat} (h : T[k]? = some x) : lowR S T k x ∈ qk5_ S T Z := by
  have hk := (List.getElem?_eq_some_iff.mp h).1
  refine qim_ (List.mem_append_right _ ?_) (qis_ hk)
  refine List.mem_map.mpr ⟨(qbx_ T.length k 1, -x.1), ?_, rfl⟩
  unfold qco_
  refine List.mem_flatten.mpr ⟨qjq_ T.length k x, List.mem_mapIdx.mpr ⟨k, hk, ?_⟩, .head _⟩
  rw [(List.getElem?_eq_some_iff.mp h).2]
theorem qjd_ {S T : List (Rat × Rat)} {Z : List ZR} {k : Nat} {x : Rat × Rat} (h : T[k]? = some x) : ∀ i, i ≤ T.length - 1 - k → lowR S T k x ∈ qbf_ S T Z i
  | 0, _ => qle_ h
  | i + 1, hi => by
    have hk := (List.getElem?_eq_some_iff.mp h).1
    refine qim_ (List.mem_append_left _ (List.mem_filter.mpr ⟨qjd_ h i (by omega), ?_⟩)) (qis_ hk)
    have : bAt (T.length - 1 - i) (lowR S T k x) = 0 := by
      unfold bAt lowR
      rw [qia_ hk, if_neg (by omega)]
    rw [this]; decide +kernel
theorem qie_ {S T : List (Rat × Rat)} {Z : List ZR} {k : Nat} (h : k < T.length) : qw_ k (qbm_ S T Z k) ≠ [] := by
  have hx : T[k]? = some T[k] := List.getElem?_eq_getElem h
  intro e
  have m : lowR S T k T[k] ∈ qw_ k (qbm_ S T Z k) := List.mem_filter.mpr ⟨qjd_ hx _ (Nat.le_refl _), by
    have : bAt k (lowR S T k T[k]) = 1 := by
      unfold bAt lowR
      rw [qia_ h, if_pos rfl]
    rw [this]; decide +kernel⟩
  rw [e] at m
  cases m
theorem qq5_ {D E n m k : Nat} {z : ZR} {M C : List Rat} (o : LLOk D E n m k z M C) : ∃ B : Nat, B ≠ 0 ∧ Sm n (B : Int) ∧ Wh (E * B) (n + m + 22) (llQ k M C z) := by
  obtain ⟨K, hK, sK⟩ := o.w.wh
  obtain ⟨b, hb, sb⟩ := o.w.b.q _ (qbq_ o.kl)
  have hb : bAt k z = Rat.divInt b D := hb
  have d0 : (D : Int) ≠ 0 := by have := o.w.a.d0; omega
  have e0 : (E : Int) ≠ 0 := by have := o.w.a.e0; omega
  have b0 : b ≠ 0 := fun e => o.b (by rw [hb, e, Rat.zero_divInt])
  refine ⟨b.natAbs, by omega, by unfold Sm at sb ⊢; omega, ?_⟩
  refine ⟨-(K * b.sign), ?_, ?_⟩
  · have c1 : (D : Rat) ≠ 0 := by have := o.w.a.d0; exact_mod_cast this
    have c2 : (E : Rat) ≠ 0 := by have := o.w.a.e0; exact_mod_cast this
    have c3 : (b : Rat) ≠ 0 := by exact_mod_cast b0
    show -(q3_ z M C) / bAt k z = _
    rw [hK, hb, Rat.divInt_eq_div, Rat.divInt_eq_div, Rat.divInt_eq_div]
    rcases Int.lt_or_lt_of_ne b0 with h | h
    · have e1 : b.sign = -1 := Int.sign_eq_neg_one_of_neg h
      have e2 : ((E * b.natAbs : Nat) : Int) = (E : Int) * (-b) := by rw [Int.natCast_mul]; congr 1; omega
      rw [e1, e2]
      simp only [Int.natCast_mul, Rat.intCast_mul, Rat.intCast_neg, Rat.intCast_natCast] at *
      grind
    · have e1 : b.sign = 1 := Int.sign_eq_one_of_pos h
      have e2 : ((E * b.natAbs : Nat) : Int) = (E : Int) * b := by rw [Int.natCast_mul]; congr 1; omega
      rw [e1, e2]
      simp only [Int.natCast_mul, Rat.intCast_mul, Rat.intCast_neg, Rat.intCast_natCast] at *
      grind
  · unfold Sm at sK ⊢
    rw [Int.natAbs_neg, Int.natAbs_mul, Int.natAbs_sign_of_ne_zero b0, Nat.mul_one]
    exact sK

theorem qlj_ (xs : List Rat) : noLs (xs.map frD) = true := qb2_ fun _ => rfl

/-! ### an own tree in a name, held for good from here on -/
def qfc_ (M : Mm) (A : List Addr) : Mm := fun q => if q ∈ A then none else M q
def wFzU (i : Nat) (f : WS) : WS := fun E ρ M => match uOf ρ[i]? with
  | some u => ∃ d A, Own M d u A ∧ f E (ρ.set i (.sh d)) (qfc_ M A)
  | none => False
theorem qut_ {Z F H : Hp} {M : Mm} {ρ : Rho} {σ : L2.St} {i : Nat} {u : U} {d : D} {A : List Addr} (ag : Ag K Z F M H ρ σ) (hu : uOf ρ[i]? = some u) (ow : Own M d u A) : Ag K Z (frz A H F) (qfc_ M A) H (ρ.set i (.sh d)) σ := by
  have th := ow.there
  have sF := qde_ ag.m th
  have hv : ∃ v, σ[i]? = some (some v) ∧ RU K F u v := by
    cases q : ρ[i]? with
    | none => rw [q] at hu; cases hu
    | some en =>
      rw [q] at hu
      have hen := ag.en i en q
      cases en with
      | ut w => cases hu; obtain ⟨v, h1, h2⟩ := hen; exact ⟨v, qcy_ h1, h2⟩
      | rf p => cases hu; exact ⟨.ref p, qcy_ hen, by rw [RU]⟩
      | un => cases hu
      | sh d => cases hu
      | ow ds => cases hu
  obtain ⟨v, hv1, hv2⟩ := hv
  have m1 : AgM K Z (frz A H F) (qfc_ M A) H := by
    refine ⟨qfw_ ag.m, fun q o e => ?_, fun q o e => ?_⟩
    · obtain ⟨z1, z2, z3⟩ := ag.m.zz q o e
      have nq : q ∉ A := fun hq => by obtain ⟨_, y⟩ := th q hq; rw [z3] at y; cases y
      exact ⟨z1, by rw [qcg_ nq]; exact z2, by unfold qfc_; rw [if_neg nq]; exact z3⟩
    · have nq : q ∉ A := fun hq => by unfold qfc_ at e; rw [if_pos hq] at e; cases e
      have e : M q = some o := by unfold qfc_ at e; rw [if_neg nq] at e; exact e
      obtain ⟨z1, z2⟩ := ag.m.mo q o e
      exact ⟨by rw [qcg_ nq]; exact z1, z2.same sF rfl⟩
  have a1 : Ag K Z (frz A H F) (qfc_ M A) H ρ σ := by
    refine ⟨m1, ag.len, fun j en h => ?_, ag.di⟩
    have := ag.en j en h
    cases en with
    | un => trivial
    | sh d => obtain ⟨v, h1, h2⟩ := this; exact ⟨v, h1, Rp.same sF h2⟩
    | rf p => exact this
    | ut u => obtain ⟨v, h1, h2⟩ := this; exact ⟨v, h1, RU.same sF h2⟩
    | ow ds' =>
      obtain ⟨p, vs, h1, h2, h3, h4, h6, h5⟩ := this
      have nq : p ∉ A := fun hq => by obtain ⟨_, y⟩ := th p hq; rw [h4] at y; cases y
      exact ⟨p, vs, h1, h2, by rw [qcg_ nq]; exact h3, by unfold qfc_; rw [if_neg nq]; exact h4, h6, Rps.same sF h5⟩
  have a3 := a1.set (i := i) (ow.rp ag.m sF (fun q hq => qhk_ hq) hv2)
  rw [qgy_ hv1] at a3
  exact a3
theorem qug_ {X : Cx} {st : Stmt} {fs : WS} (i : Nat) (h : JS X st fs) : JS X st (wFzU i fs) := ⟨imS h.h fun D' σ H hh => ex5 hh fun Z F ρ M E ag hf k => by
  unfold wFzU at hf
  split at hf
  · rename_i u hu
    obtain ⟨d, A, ow, hf⟩ := hf
    exact ⟨Z, _, _, _, E, qut_ ag hu ow, hf, k.mono (qde_ ag.m ow.there)⟩
  · exact hf.elim⟩
theorem qkt_ {M : Mm} {p : Addr} {o : MO} (h : M p = none) : qfc_ (mset M p o) [p] = M := by
  funext q
  unfold qfc_
  by_cases z : q = p
  · subst z; rw [if_pos (by simp)]; exact h.symm
  · rw [if_neg (by simpa using z), qq_ z]
theorem qp_ {M : Mm} {p : Addr} {o o' : MO} : mset (mset M p o) p o' = mset M p o' := by
  funext q
  by_cases z : q = p
  · subst z; rw [qf_, qf_]
  · rw [qq_ z, qq_ z, qq_ z]
/-! ### what is told new -/
def ownL (ys : List Rat) : MO := .own ((ys.map frD).map U.d)
theorem qgd_ {M : Mm} {p : Addr} {ys : List Rat} (h : M p = some (ownL ys)) : Own M (frL ys) (.adr p) [p] := .mkflat (qlj_ ys) h
/-! ### a def that tells a new thing, or is refused with the class at C -/
def spEN (K : PySem.W.Frag) (C : Addr) (g : List D → (Option D → Prop) → Prop) : Sp := fun vs H Q E => ∃ Z F M ds P, AgM K Z F M H ∧ Rps K F ds vs ∧ g ds P ∧ (∀ v H' F' u d M', Same F F' → AgM K Z F' M' H' → RU K F' u v → Fresh M M' d u → P (some d) → Q v H') ∧ (∀ x H' F', Same F F' → AgM K Z F' M H' → H' x = none → P none → E (.ref C) (some x) H')
theorem qvg_ {P : Program} {w : World} {K : PySem.W.Frag} {mg : Str → Option Value} {base : Heap} {k : Nat} {x c : Str} {st : Stmt} {N ps : List Str} {g : List D → (Option D → Prop) → Prop} {test : Expr} {rest : List Stmt} {msg : Str} {j : Nat} {np mp cpos rpos ipos : Pos} (F : Def K mg x st ps) (sc : FnScope N ps (qd_ st)) (XC : ExC K mg c) (len : ∀ ds P, g ds P → ds.length = ps.length)
    (hb : qz_ st = .If test [.Raise (some (.Call (.Name c np) [.Constant (.str msg) j mp] [] cpos)) none rpos] [] ipos :: rest)
    (hgl : ∀ (f : Addr) (cdv : Value) (A : Around) (outer : List Env) (s : Shared) (H : Hp) (E : XK), Gl (cxOf (CX1 P w) P w K mg base N x (qd_ st) f cdv A outer s H E) c)
    (hdb : (c == ("__debug__" : Str)) = false)
    (hbody : ∀ (f : Addr) (cdv : Value) (A : Around) (outer : List Env) (s : Shared) (H : Hp) (E : XK), Room k (A.deeper (envOfC x (qd_ st) s.heap.objs.size f cdv)) →
      ∃ fT G, JT (cxOf (CX1 P w) P w K mg base N x (qd_ st) f cdv A outer s H E) test fT ∧ JSs (cxOf (CX1 P w) P w K mg base N x (qd_ st) f cdv A outer s H E) rest G ∧ ∀ ds M Q, g ds Q → fT (qc3_ N ds) M fun b ρ1 M1 => if b = true then L4.Sub M M1 ∧ Q none else G ⟨fun _ _ => False, fun u M' => ∃ d M'', L4.Sub M'' M' ∧ Fresh M M'' d u ∧ Q (some d), fun _ _ => False, fun _ _ => False⟩ ρ1 M1) : Has P w K mg base (CX1 P w) (k + 1) x ps (spEN K (cOf mg c) g) := by
  refine F.hasX sc (fun vs H Q E h => ?_) fun f cdv A outer s H vs Q E hr h => ?_
  · obtain ⟨Z, F', M, ds, P, m, r, hg, _⟩ := h
    rw [← r.length]
    exact len ds P hg
  · obtain ⟨Z, F', M, ds, P', m, r, hg, kq, ke⟩ := h
    obtain ⟨fT, G, hT, hG, hh⟩ := hbody f cdv A outer s H E hr
    rw [hb]
    refine ⟨_, qbs_ (qqs_ hT.h (qe5_ (qmj_ (hgl f cdv A outer s H E) XC.m XC.q qrh_ (q4_ qbu_ qd9_) (hdb := hdb))) qhw_) hG.h, ?_⟩
    refine ⟨Z, F', qc3_ N ds, M, _, qgc_ N m r, hh ds M P' hg, fun b H1 F1 ρ1 M1 s1 ag1 h1 => ?_⟩
    cases b with
    | true =>
      rw [if_pos rfl] at h1 ⊢
      exact ⟨by show 1 ≤ sizeLine; decide, fun a ha => ke a H1 F1 s1 (ag1.m.sub h1.1) ha h1.2⟩
    | false =>
      rw [if_neg Bool.false_ne_true] at h1 ⊢
      exact ⟨Z, F1, ρ1, M1, _, ag1, h1, ⟨fun _ _ _ _ _ _ _ q => q.elim, fun _ _ _ _ _ _ _ q => q.elim, fun _ _ _ _ _ _ _ q => q.elim, fun v H' F2 u M' s' m' r' ⟨d, M2, hs, fr, q⟩ => kq v H' F2 u d M2 (s1.trans s') (m'.sub hs) r' fr q⟩⟩
/-! ### try: x = f(..) except S as e: suite, a new thing is told -/
def qv7_ (i j : Nat) (C : Addr) (g : List D → (Option D → Prop) → Prop) (fl : WA) (fs : WS) : WS := fun E ρ M => fl ρ M fun ds ρ1 M1 => g ds fun o => match o with
  | some d => ∀ u M2, Fresh M1 M2 d u → E.nx (ρ1.set i (.ut u)) M2
  | none => ∀ p, M1 p = none → fs ⟨fun ρ2 M2 => E.nx (ρ2.set j .un) M2, E.rt, fun ρ2 M2 => E.bk (ρ2.set j .un) M2, fun ρ2 M2 => E.ct (ρ2.set j .un) M2⟩ (ρ1.set j (.rf p)) (mset M1 p (.xc C))
section
variable {X : Cx} {e : Expr} {es : List Expr} {fl : WA} {fs : WS} {x n f S : Str} {i j : Nat} {g : List D → (Option D → Prop) → Prop} {k : Nat} {ps : List Str} {b0 : Stmt} {suite : List Stmt} {pos pos' p cpos np hpos tpos : Pos} {C Sa : Addr}
theorem qq7_ (F : Has X.prog X.w X.K X.mg X.base (CX1 X.prog X.w) k f ps (spEN X.K C g)) (hr : Room k X.A) (hg : Gl X f) (hN : X.N.Nodup) (hi : X.N[i]? = some x) (hx : Loc X.env.scope x) (hj : X.N[j]? = some n) (hk : X.env.scope.names.lookup n = some .local) (hgS : Gl X S) (hmS : X.mg S = some (.ref Sa)) (hex : PySem.W.exmOne X.K (.ref C) (.ref Sa) = some true)
    (ha : ∀ pn xe, JA (Cx.tr X pn xe) (e :: es) fl) (hs : ∀ a, JSs (Cx.mk' X a) (b0 :: suite) fs)
    (hdb : (f == ("__debug__" : Str)) = false := by decide) (he : starEach (e :: es) X.env = (false, eval e X.env) :: starEach es X.env := by rfl) (hpl : (backTo cpos (starEach es X.env)).any (·.1) = false := by rfl)
    (hsw : swapsWith (.Call (.Name f p) (e :: es) [] cpos) (some (.Name x pos')) pos.line X.env = pure false := by rfl) (hf : X.fn x = true ∨ X.env.scope.names.lookup x = some .local := by first | exact .inl rfl | exact .inr rfl | assumption)
    (hst : X.stack = X.env :: X.outer := by rfl) (hfr : X.env.frame = some X.env.locals := by rfl) (hdS : (S == ("__debug__" : Str)) = false := by decide) :
    JS X (.Try [.Assign [.Name x pos'] (.Call (.Name f p) (e :: es) [] cpos) pos] [.ExceptHandler (some (.Name S np)) (some n) (b0 :: suite) hpos] [] [] tpos) (qv7_ i j C g fl fs) :=
  ⟨imS (qr3_ (tb := fun R => tAsg (qog_ (spEN X.K C g) R (lfA X.K fl)) (qms_ i)) (ts := lfS X.K fs) hN hj hk hgS hmS (fun pn xe R ar => qe5_ (qd3_ (X := Cx.tr X pn xe) hN hi hx (qvu_ (X := Cx.tr X pn xe) F hr hg ar (ha pn xe).h hdb he hpl) hsw hf)) (fun a => (hs a).h) hst hfr hdS) fun D' σ H hh => ex5 hh fun Z F ρ M E ag hf k => by
    refine ⟨Z, F, ρ, M, _, ag, hf, fun vs H1 F1 ds ρ1 M1 s1 ag1 r1 h1 => ?_⟩
    refine ⟨_, F1, M1, ds, _, ag1.m.inner, r1, h1, fun v H' F' u d M' s' m' r fr p => ?_, fun x H' F' s' m' hx p => ?_⟩
    · exact k.nx _ H' F' _ M' (s1.trans s') ((ag1.back s' m').setU r) (p u M' fr)
    · have a1 := ag1.back s' m'
      obtain ⟨y1, y2, y3⟩ := ql8_ a1.m hx
      have a2 := (a1.newO (o := .ext (IsX x C)) hx).adoptM (mo := .xc C) qi_ y1 y2 y3 (fun q es h z => by
        obtain ⟨q', ws, h1, h2, _⟩ := a1.en q _ h
        rw [z] at h1
        cases h1
        rw [hx] at h2; cases h2) qi_
      have a3 := a2.put (i := j) (e := .rf x) (o := some (.ref x)) rfl fun _ _ z => nomatch z
      have s2 := s1.trans s'
      exact ⟨x, C, rfl, rfl, hex, Z, F', _, _, _, a3, p x y2, ⟨fun σ' H2 F2 ρ2 M2 t a q => k.nx _ H2 F2 _ M2 (s2.trans t) a.unset q, fun σ' H2 F2 ρ2 M2 t a q => k.bk _ H2 F2 _ M2 (s2.trans t) a.unset q, fun σ' H2 F2 ρ2 M2 t a q => k.ct _ H2 F2 _ M2 (s2.trans t) a.unset q, fun v H2 F2 u M2 t a r q => k.rt v H2 F2 u M2 (s2.trans t) a r q⟩⟩⟩
end
/-! ### what is caught, or none, by a name -/
section
variable {X : Cx} {a b e : Expr} {pos np p np2 : Pos} {x y : Str}
def qsz_ (i : Nat) : WT := fun ρ M P => match ρ[i]? with
  | some (.ut (.adr _)) => P false ρ M
  | some (.ut (.d .non)) => P true ρ M
  | _ => False
theorem qqy_ {k : Nat} {cp : Pos} (i : Nat) (hN : X.N[i]? = some x := by rfl) (hv : Vis X.env.scope x := by first | exact Or.inl rfl | exact Or.inr (Or.inl rfl) | exact Or.inr (Or.inr rfl)) (hd : (x == ("__debug__" : Str)) = false := by decide) (hcd : (x == ("__classdict__" : Str)) = false := by decide) :
    JT X (.Compare (.Name x np) [.Is] [.Constant .none k cp] pos) (qsz_ i) := ⟨imT (qkw_ qn7_ (L2.pv (pos := np) i hN hv hd hcd) qoc_ (qdm_ _)) fun σ H Q hh => ex5 hh fun Z F ρ M P ag hf k => by
  unfold qsz_ at hf
  split at hf
  · rename_i q hq
    obtain ⟨v, h1, h2⟩ := ag.en i _ hq
    rw [RU] at h2
    subst h2
    exact ⟨.ref q, qcy_ h1, rfl, _, rfl, k false H F ρ M (Same.refl _) ag hf⟩
  · rename_i hq
    obtain ⟨v, h1, h2⟩ := ag.en i _ hq
    rw [RU, Rp] at h2
    subst h2
    exact ⟨.non, qcy_ h1, rfl, _, rfl, k true H F ρ M (Same.refl _) ag hf⟩
  · exact hf.elim⟩
def qnq_ (K : PySem.W.Frag) (i : Nat) (cv : Value) : WE := fun ρ M P => match ρ[i]? with
  | some (.ut (.adr q)) => ∃ C b, M q = some (.xc C) ∧ XCls K C ∧ PySem.W.kitOne K (.ref C) cv = some b ∧ P (.bl b) ρ M
  | _ => False
theorem qk3_ {K : PySem.W.Frag} {i : Nat} {cv : Value} {c : V} (hc : (∃ n, c = .ty n ∧ cv = Value.type n) ∨ ∃ d, c = .ref d ∧ cv = Value.ref d) : ∀ σ H Q, lf K (qnq_ K i cv) σ H Q → ∃ v, σ[i]? = some (some v) ∧ rIsX K [v, c] H Q := fun σ H Q hh => ex5 hh fun Z F ρ M P ag hf k => by
  unfold qnq_ at hf
  split at hf
  · rename_i q hq
    obtain ⟨C, b, hM, xc, hk, hp⟩ := hf
    obtain ⟨_, h1⟩ := ag.m.mo q _ hM
    obtain ⟨v, h3, h4⟩ := ag.en i _ hq
    rw [RU] at h4
    subst h4
    exact ⟨.ref q, qcy_ h3, q, C, c, b, rfl, h1, xc, .inl ⟨cv, hc, hk⟩, k _ H F (.bl b) ρ M (Same.refl _) ag (by rw [Rp]) hp⟩
  · exact hf.elim
theorem qfk_ {Cy : Addr} (i : Nat) (hg : Gl X "isinstance") (hm : X.mg "isinstance" = none) (hgy : Gl X y) (hmy : X.mg y = some (.ref Cy)) (hN : X.N[i]? = some x := by rfl) (hv : Vis X.env.scope x := by first | exact Or.inl rfl | exact Or.inr (Or.inl rfl) | exact Or.inr (Or.inr rfl)) (hd : (x == ("__debug__" : Str)) = false := by decide) (hcd : (x == ("__classdict__" : Str)) = false := by decide) (hdy : (y == ("__debug__" : Str)) = false := by decide)
    (he : starEach [.Name x np, .Name y np2] X.env = [(false, eval (.Name x np) X.env), (false, eval (.Name y np2) X.env)] := by rfl) (he2 : starEach [.Name y np2] X.env = [(false, eval (.Name y np2) X.env)] := by rfl) : JE X (.Call (.Name "isinstance" p) [.Name x np, .Name y np2] [] pos) (qnq_ X.K i (.ref Cy)) :=
  ⟨imE (qdi_ (pos := pos) (p := p) qi3_ hg hm boot_isinstance (q4_ (L2.pv (pos := np) i hN hv hd hcd) (q4_ (qkn_ (v := .ref Cy) hgy hmy rfl hdy) qd9_ he2) (by rw [he, he2])) (by decide) (by decide) (by rw [he, he2]) (by rw [he2]; rfl)) fun σ H Q h => by
    obtain ⟨v, h1, h2⟩ := qk3_ (c := .ref Cy) (.inr ⟨Cy, rfl, rfl⟩) σ H Q h
    exact ⟨v, h1, h2⟩⟩
theorem qpx_ {T : String} (i : Nat) (hg : Gl X "isinstance") (hm : X.mg "isinstance" = none) (hgy : Gl X y) (hmy : X.mg y = none) (hby : bootBuiltins y = some (.type T)) (hN : X.N[i]? = some x := by rfl) (hv : Vis X.env.scope x := by first | exact Or.inl rfl | exact Or.inr (Or.inl rfl) | exact Or.inr (Or.inr rfl)) (hd : (x == ("__debug__" : Str)) = false := by decide) (hcd : (x == ("__classdict__" : Str)) = false := by decide) (hn : y ≠ "__name__" := by decide) (hdy : (y == ("__debug__" : Str)) = false := by decide)
    (he : starEach [.Name x np, .Name y np2] X.env = [(false, eval (.Name x np) X.env), (false, eval (.Name y np2) X.env)] := by rfl) (he2 : starEach [.Name y np2] X.env = [(false, eval (.Name y np2) X.env)] := by rfl) : JE X (.Call (.Name "isinstance" p) [.Name x np, .Name y np2] [] pos) (qnq_ X.K i (.type T)) :=
  ⟨imE (qdi_ (pos := pos) (p := p) qi3_ hg hm boot_isinstance (q4_ (L2.pv (pos := np) i hN hv hd hcd) (q4_ (qlk_ (v := .ty T) hgy hmy hby rfl hn hdy) qd9_ he2) (by rw [he, he2])) (by decide) (by decide) (by rw [he, he2]) (by rw [he2]; rfl)) fun σ H Q h => by
    obtain ⟨v, h1, h2⟩ := qk3_ (c := .ty T) (.inl ⟨T, rfl, rfl⟩) σ H Q h
    exact ⟨v, h1, h2⟩⟩
end

structure ChOk (S T : List (Rat × Rat)) (Z : List ZR) (M : List Rat) : Prop where
  ru : RuOk S T Z
  m : ∃ E : Nat, E ≠ 0 ∧ Sm 300 (E : Int) ∧ ∀ x ∈ M, Wh E 300 x
def accR (t : Nat) : Nat → Nat
  | 0 => 300
  | k + 1 => accR t k + bitR (t - 1 - k) + 22
theorem qp7_ {S T : List (Rat × Rat)} {Z : List ZR} {M : List Rat} {D : Nat} (d0 : D ≠ 0) (sD : Sm 400 (D : Int)) (a : ∀ z ∈ Z, RowW S.length T.length D 400 z) (b : ∀ x ∈ T, Wh D 400 x.1 ∧ Wh D 400 x.2) (hS : S.length ≤ 10) (hT : T.length ≤ 3)
    (hm : ∃ E : Nat, E ≠ 0 ∧ Sm 300 (E : Int) ∧ ∀ x ∈ M, Wh E 300 x) (hacc : ∀ k, k ≤ T.length → accR T.length k + bitR (T.length - 1 - k) ≤ 4300) : ∀ k, k ≤ T.length → ∃ E : Nat, E ≠ 0 ∧ Sm (accR T.length k) (E : Int) ∧ (∀ x ∈ M, Wh E (accR T.length k) x) ∧ ∀ x ∈ chQ S T Z M k, Wh E (accR T.length k) x
  | 0, _ => by
    obtain ⟨E, e0, sE, h⟩ := hm
    exact ⟨E, e0, sE, h, fun x hx => by cases hx⟩
  | k + 1, hk => by
    obtain ⟨E, e0, sE, h1, h2⟩ := qp7_ d0 sD a b hS hT hm hacc k (by omega)
    have in1 := qke_ (l := (qw_ k (qbm_ S T Z k)).map (llQ k M (chQ S T Z M k))) (fun e => qie_ (S := S) (Z := Z) (show k < T.length by omega) (List.map_eq_nil_iff.mp e))
    obtain ⟨z, hz, ez⟩ := List.mem_map.mp in1
    obtain ⟨zr, zb⟩ := List.mem_filter.mp hz
    have rw' := qfl_ d0 sD a b (T.length - 1 - k) (by omega) z zr
    obtain ⟨b1, b2⟩ := qdv_ d0 sD (T.length - 1 - k)
    have acc := hacc k (by omega)
    have lo : LLOk (botR D (T.length - 1 - k)) E (bitR (T.length - 1 - k)) (accR T.length k) k z M (chQ S T Z M k) := by
      refine ⟨⟨⟨b1, e0, b2, sE, rw'.a, h1, by rw [rw'.s]; omega, by omega⟩, ⟨b1, e0, b2, sE, rw'.b, h2, by rw [rw'.t]; omega, by omega⟩, rw'.c⟩, by rw [rw'.t]; omega, fun e => ?_⟩
      rw [e] at zb
      exact absurd zb (by decide +kernel)
    obtain ⟨B, B0, sB, wB⟩ := qq5_ lo
    have up : ∀ x, Wh E (accR T.length k) x → Wh (E * B) (accR T.length (k + 1)) x := fun x hx => (hx.up B B0 sB).mono (by rw [accR]; omega)
    refine ⟨E * B, Nat.mul_ne_zero e0 B0, ?_, fun x hx => up x (h1 x hx), fun x hx => ?_⟩
    · rw [Int.natCast_mul]
      exact (sE.mul sB).mono (by rw [accR]; omega)
    · rcases List.mem_append.mp hx with hx | hx
      · exact up x (h2 x hx)
      · rw [List.mem_singleton.mp hx, ← ez]
        exact wB.mono (by rw [accR]; omega)
theorem qii_ {t k : Nat} (ht : t ≤ 3) (hk : k ≤ t) : accR t k + bitR (t - 1 - k) ≤ 4300 := by
  have : t = 0 ∨ t = 1 ∨ t = 2 ∨ t = 3 := by omega
  rcases this with rfl | rfl | rfl | rfl <;> (rcases k with _ | _ | _ | _ | k <;> first | decide | omega)
theorem qpl_ {X : Cx} {ss : List Stmt} {G : WS} (h : JSs X.nox ss G) : JSs X ss G := ⟨h.h.nox⟩
theorem qus_ {X : Cx} {e : Expr} {G : WT} (h : JT X.nox e G) : JT X e G := ⟨h.h.nox⟩
theorem qkg_ {S T : List (Rat × Rat)} {Z : List ZR} {i : Nat} {d : D} (h : (q2_ S T Z T.length).reverse[i]? = some d) : i < T.length ∧ d = qhu_ i (qbm_ S T Z i) := by
  have hi := (List.getElem?_eq_some_iff.mp h).1
  rw [List.length_reverse, q2_, List.length_map, List.length_range] at hi
  refine ⟨hi, ?_⟩
  have l : (q2_ S T Z T.length).length = T.length := by rw [q2_, List.length_map, List.length_range]
  rw [List.getElem?_reverse (by rw [l]; exact hi), l, q2_, List.getElem?_map, List.getElem?_range (by omega)] at h
  have e : T.length - 1 - (T.length - 1 - i) = i := by omega
  have := Option.some.inj h
  rw [← this]
  show qhu_ (T.length - 1 - (T.length - 1 - i)) (qbf_ S T Z (T.length - 1 - i)) = _
  rw [e]
  rfl
theorem qi0_ (S T : List (Rat × Rat)) (Z : List ZR) (M : List Rat) : ∀ k, (chQ S T Z M k).length = k
  | 0 => rfl
  | k + 1 => by rw [chQ, List.length_append, qi0_ S T Z M k]; rfl
def gCh : List D → (Option D → Prop) → Prop := fun ds P => ∃ (S T : List (Rat × Rat)) (Z : List ZR) (M : List Rat), ds = [qd6_ S T Z, frL M] ∧ ChOk S T Z M ∧ if qjw_ S T Z M = true then P none else P (some (frL (chQ S T Z M T.length)))
abbrev qcv_ : Stmt := top 36
theorem sc_chosen_by : FnScope ["rule", "made", "choice", "lows", "highs"] ["rule", "made"] (qd_ qcv_) := ⟨rfl, rfl, rfl, by decide +kernel, rfl, by decide +kernel, by decide +kernel⟩
theorem h_chosen_by (B : Bl mg) (XC : ExC K mg "NoChoice") (F : Def K mg "chosen_by" qcv_ ["rule", "made"]) (F_below : qix_ P w K mg base) (F_demand_worth : Has P w K mg base CX0 5 "demand_worth" ["demand", "made", "choice"] (spW K (pur gDW))) (F_greatest_of : Has P w K mg base CX0 2 "greatest_of" ["fractions"] (spW K (pur gGr))) (F_least_let : Has P w K mg base CX0 6 "least_let" ["low", "k", "made", "others"] (spW K (pur gLL))) (C_ZERO : Zero4 K mg) : Has P w K mg base (CX1 P w) 7 "chosen_by" ["rule", "made"] (spEN K (cOf mg "NoChoice") gCh) := by
  refine qvg_ F sc_chosen_by XC (fun ds P h => by obtain ⟨_, _, _, _, rfl, _⟩ := h; rfl) rfl (fun _ _ _ _ _ _ _ => rfl) (by decide) fun f cdv A outer s H E hr => ?_
  have nd := sc_chosen_by.nd
  refine ⟨_, _, (qus_ (jt (qwd_ rfl B.any rfl (qa_ (j_fz (qhs_ ["row", "made"] [none, some 1] ⟨rfl, by decide +kernel, by decide +kernel, rfl, rfl, qbb_ rfl⟩ rfl (qu_ (qm_ 0 qe_)) (fun _ _ _ _ _ => (qj_ (i := 0) (show List.Nodup [("row" : Str), ("made" : Str)] by decide +kernel) rfl (Or.inl rfl))) (fun _ _ _ _ _ => qb0_) (fun _ _ _ _ _ => (j_h F_below (hr.mono (by decide)) rfl (qa_ (j_h F_demand_worth (hr.mono (by decide)) rfl (qa_ (jv 0) (qa_ (jv 1) (qa_ (j_fz (qbn_ qb_)) qb_)))) (qa_ (qc1_ C_ZERO rfl) qb_)))))) qb_)))), (qpl_ (qc_ (qdr_ (i := 2) nd rfl (Or.inr rfl) (qfj_ (qla_ (qbn_ qb_))))
    (qc_ (qbv_ PassesOwn.never rfl (qu_ (qm_ 0 qe_)) (qd7_ (n := 2) rfl (qs_ (qj_ (i := 3) nd rfl (Or.inl rfl)) (qs_ (qj_ (i := 4) nd rfl (Or.inl rfl)) qcs_)))
    (qg_ (qep_ (ju_v 2) (ju_d (qss_ 2 (j_h F_greatest_of (hr.mono (by decide)) rfl (qa_ (j_fz (qhs_ ["low", "made", "choice"] [none, some 1, some 2] ⟨rfl, by decide +kernel, by decide +kernel, rfl, rfl, qbb_ rfl⟩ rfl (qu_ (jv 3)) (fun _ _ _ _ _ => (qj_ (i := 0) (show List.Nodup [("low" : Str), ("made" : Str), ("choice" : Str)] by decide +kernel) rfl (Or.inl rfl))) (fun _ _ _ _ _ => qb0_) (fun _ _ _ _ _ => (j_h F_least_let (hr.mono (by decide)) rfl (qa_ (jv 0) (qa_ (qhe_ 2 rfl B.len) (qa_ (jv 1) (qa_ (jv 2) qb_)))))))) qb_)))))))
    (qg_ (qdu_ (ju_v 2)))))), ?_⟩
  rintro ds M0 Q ⟨S, T, Z, M, rfl, ok, q⟩
  have hS := ok.ru.s
  have hT := ok.ru.t3
  obtain ⟨D0, d0, sD, wZ, wT⟩ := ok.ru.w
  have cw := qp7_ (Z := Z) d0 sD wZ wT hS hT ok.m (fun k hk => qii_ hT hk)
  obtain ⟨E0, e0, sE, wM⟩ := ok.m
  obtain ⟨b1, b2⟩ := qdv_ d0 sD T.length
  have rl := qfl_ d0 sD wZ wT T.length (Nat.le_refl _)
  have bl := qld_ hT
  have rn : (qbf_ S T Z T.length).length ≤ 100000 := by
    refine Nat.le_trans (qgk_ ok.ru T.length) ?_
    have : T.length = 0 ∨ T.length = 1 ∨ T.length = 2 ∨ T.length = 3 := by omega
    rcases this with e | e | e | e <;> rw [e] <;> decide
  -- the last rows
  refine ⟨fun i out ρ M' => M' = M0 ∧ out = ((qbf_ S T Z T.length).take i).map (fun z => L3.D.bl (decide (q3_ z M [] < 0))) ∧ ∃ o, ρ = [o, .sh (frL M)], ⟨rfl, rfl, _, rfl⟩, ?_, ?_⟩
  · rintro i d out ρ M' hd ⟨rfl, rfl, o, rfl⟩
    obtain ⟨z, hz, rfl⟩ := q0_ hd
    have wz := rl z (List.mem_of_getElem? hz)
    have hi := (List.getElem?_eq_some_iff.mp hz).1
    have dw : DwOk (botR D0 T.length) E0 (bitR T.length) 300 z M [] := ⟨⟨b1, e0, b2, sE, wz.a, wM, by rw [wz.s]; omega, by omega⟩, ⟨b1, e0, b2, sE, wz.b, fun x hx => (by cases hx), by rw [wz.t]; omega, by omega⟩, wz.c⟩
    exact ⟨by show 0 ≤ sizeLine; decide, z, M, [], _, _, _, _, rfl, dw, q3_ z M [], 0, rfl, Mx.of dw.s sm0 (by omega), by rw [List.length_map, List.length_take]; exact qiz_ (by omega), rfl, qbt_ (f := fun z => L3.D.bl (decide (q3_ z M [] < 0))) hz, .sh (zQ z), rfl⟩
  rintro out ρ M' ⟨rfl, rfl, o, rfl⟩
  rw [List.length_map, List.take_length]
  show match bls ((qbf_ S T Z T.length).map fun z => L3.D.bl (decide (q3_ z M [] < 0))) with | some bs => _ | none => False
  have eb : ((qbf_ S T Z T.length).map fun z => L3.D.bl (decide (q3_ z M [] < 0))) = ((qbf_ S T Z T.length).map fun z => decide (q3_ z M [] < 0)).map L3.D.bl := by rw [List.map_map]; rfl
  rw [eb, qk1_]
  have ea : ((qbf_ S T Z T.length).map fun z => decide (q3_ z M [] < 0)).any id = qjw_ S T Z M := by rw [List.any_map]; rfl
  show if ((qbf_ S T Z T.length).map fun z => decide (q3_ z M [] < 0)).any id = true then _ else _
  rw [ea]
  refine iteB (fun c => ?_) (fun c => ?_)
  · rw [if_pos c] at q
    exact ⟨Sub.refl _, q⟩
  rw [if_neg (by rw [c]; exact Bool.false_ne_true)] at q
  have ls : (q2_ S T Z T.length).reverse.length = T.length := by rw [List.length_reverse, q2_, List.length_map, List.length_range]
  refine ⟨by show 0 ≤ sizeLine; decide, fun p hp => ⟨fun i ρ M1 => M1 = mset M' p (ownL (chQ S T Z M i)) ∧ i ≤ T.length ∧ ∃ o3 o4 : Ent, ρ = [.sh (qd6_ S T Z), .sh (frL M), .ut (.adr p), o3, o4], ⟨rfl, by omega, _, _, rfl⟩, ?_, ?_⟩⟩
  · rintro i d ρ M1 hd ⟨rfl, hi, o3, o4, rfl⟩
    obtain ⟨hi, rfl⟩ := qkg_ hd
    obtain ⟨Ek, ek0, sEk, wMk, wCk⟩ := cw i (by omega)
    obtain ⟨c1, c2⟩ := qdv_ d0 sD (T.length - 1 - i)
    have rk := qfl_ d0 sD wZ wT (T.length - 1 - i) (by omega)
    have acc := qii_ hT (show i ≤ T.length by omega)
    have lo : ∀ z ∈ qw_ i (qbm_ S T Z i), LLOk (botR D0 (T.length - 1 - i)) Ek (bitR (T.length - 1 - i)) (accR T.length i) i z M (chQ S T Z M i) := fun z hz => by
      obtain ⟨zr, zb⟩ := List.mem_filter.mp hz
      have rz := rk z zr
      refine ⟨⟨⟨c1, ek0, c2, sEk, rz.a, wMk, by rw [rz.s]; omega, by omega⟩, ⟨c1, ek0, c2, sEk, rz.b, wCk, by rw [rz.t]; omega, by omega⟩, rz.c⟩, by rw [rz.t]; omega, fun e => ?_⟩
      rw [e] at zb
      exact absurd zb (by decide +kernel)
    have ln : (qw_ i (qbm_ S T Z i)).length ≤ 330 := Nat.le_trans (List.length_filter_le _ _) (Nat.le_trans (qgk_ ok.ru _) (qn8_ (by omega) hT))
    have cl := qi0_ S T Z M i
    refine ⟨rfl, ⟨_, qf_⟩, frL (chQ S T Z M i), [p], qgd_ qf_, fun j out ρ M2 => M2 = (fun _ => none) ∧ out = ((qw_ i (qbm_ S T Z i)).take j).map (fun z => frD (llQ i M (chQ S T Z M i) z)) ∧ ∃ o, ρ = [o, .sh (frL M), .sh (frL (chQ S T Z M i))], ⟨rfl, rfl, _, rfl⟩, ?_, ?_⟩
    · rintro j d out ρ M2 hd ⟨rfl, rfl, o, rfl⟩
      obtain ⟨z, hz, rfl⟩ := q0_ hd
      have hj := (List.getElem?_eq_some_iff.mp hz).1
      exact ⟨z, i, M, chQ S T Z M i, _, _, _, _, by rw [List.length_map, cl], lo z (List.mem_of_getElem? hz), by rw [List.length_map, List.length_take]; exact qn_ (by omega), rfl, qbt_ (f := fun z => frD (llQ i M (chQ S T Z M i) z)) hz, .sh (zQ z), rfl⟩
    rintro out ρ M2 ⟨rfl, h1, o, rfl⟩
    have h1 : out = ((qw_ i (qbm_ S T Z i)).take ((qw_ i (qbm_ S T Z i)).map zQ).length).map (fun z => frD (llQ i M (chQ S T Z M i) z)) := h1
    rw [List.length_map, List.take_length] at h1
    have e1 : ((qw_ i (qbm_ S T Z i)).map (fun z => frD (llQ i M (chQ S T Z M i) z))) = ((qw_ i (qbm_ S T Z i)).map (llQ i M (chQ S T Z M i))).map frD := by rw [List.map_map]; rfl
    rw [e1] at h1
    subst h1
    have ss : ∀ x ∈ (qw_ i (qbm_ S T Z i)).map (llQ i M (chQ S T Z M i)), SmR (bitR (T.length - 1 - i) + accR T.length i + 22) x := fun x hx => by
      obtain ⟨z, hz, rfl⟩ := List.mem_map.mp hx
      obtain ⟨B, B0, sB, wB⟩ := qq5_ (lo z hz)
      refine wB.smr (Nat.mul_ne_zero ek0 B0) ?_
      rw [Int.natCast_mul]
      exact (sEk.mul sB).mono (by omega)
    have nx : chQ S T Z M (i + 1) = chQ S T Z M i ++ [qdy_ ((qw_ i (qbm_ S T Z i)).map (llQ i M (chQ S T Z M i)))] := rfl
    have ne : (qw_ i (qbm_ S T Z i)).map (llQ i M (chQ S T Z M i)) ≠ [] := fun e => qie_ (S := S) (Z := Z) hi (List.map_eq_nil_iff.mp e)
    obtain ⟨q1, qs, el⟩ := List.exists_cons_of_ne_nil ne
    refine ⟨q1, qs, _, by rw [el], by rw [← el]; exact ss, by omega, rfl, _, qf_, by rw [List.length_map, List.length_map, cl]; exact qn_ (by omega), ?_, by omega, .sh _, .sh _, rfl⟩
    rw [qp_, nx, el, ownL, List.map_append, List.map_append]
    rfl
  · rintro ρ M1 ⟨rfl, hi, o3, o4, rfl⟩
    rw [ls]
    exact ⟨frL (chQ S T Z M T.length), _, Sub.refl _, Fresh.newD (qlj_ _) hp, q⟩

/-! ### what rules mean: the first of the choices, shim by shim -/
structure Cut (s t m : Nat) (z : ZR) : Prop where
  s : z.1.length = s
  t : z.2.1.length = t
  z : ∀ j, m ≤ j → z.2.1.getD j 0 = 0
/-! ### pools: dicts that are drawn from, with a budget -/
theorem U1 {k : Nat} {A : Around} (hr : Room k A) : A.units + 1 < cLine := Nat.lt_of_le_of_lt (Nat.add_le_add_left (by decide) _) (Room.u60 hr)
theorem qce_ {x : Str} {j : Nat} {pos : Pos} : NoSl (.Constant (.str x) j pos) := by
  first | exact fun _ _ => rfl | (intro _ _ _ _ _ h; cases h) | trivial | decide
def qlp_ (b : Int) (o : HO) : Prop := ∃ (kvs : List (Key × V)) (rest turn : Int) (mixed : Bool), o = .dK kvs ∧ kvs.length ≤ 10 ∧ valV kvs (.inr "rest") = some (.int rest) ∧ valV kvs (.inr "mixed") = some (.bl mixed) ∧ valV kvs (.inr "turn") = some (.int turn) ∧ 0 ≤ turn ∧ turn + b ≤ 1000000000000000
theorem qf1_ {kvs : List (Key × V)} {k : Key} {v y : V} (h : valV kvs k = some v) : (putK kvs k y).length = kvs.length := by
  unfold putK
  have : (kvs.any fun kv => decide (kv.1 = k)) = true := by
    unfold valV at h
    rw [Option.map_eq_some_iff] at h
    obtain ⟨p, hp, _⟩ := h
    rw [List.any_eq_true]
    exact ⟨p, List.mem_of_find?_eq_some hp, by have := List.find?_some hp; simpa using this⟩
  rw [if_pos this, List.length_map]
def qth_ : Sp := fun vs H Q _ => ∃ (p : Addr) (many b : Int) (o : HO), vs = [.ref p, .int many] ∧ H p = some o ∧ qlp_ b o ∧ 1 ≤ b ∧ 0 < many ∧ Sm 9000 many ∧ ∀ r o', 0 ≤ r → r < many → qlp_ (b - 1) o' → Q (.int r) (upd H p o')
theorem qpy_ {H : Hp} {p : Addr} {o o' : HO} : upd (upd H p o) p o' = upd H p o' := by
  funext b
  by_cases h : b = p
  · subst h; rw [qi_, qi_]
  · rw [qh_ h, qh_ h, qh_ h]
abbrev qcb_ : Stmt := top 40
theorem sc_law_take : FnScope ["state", "many", "found", "stir"] ["state", "many"] (qd_ qcb_) := ⟨rfl, rfl, rfl, by decide +kernel, rfl, by decide +kernel, by decide +kernel⟩
theorem qha_ (B : Bl mg) (F : Def K mg "_law_take" qcb_ ["state", "many"]) : Has P w K mg base CX0 1 "_law_take" ["state", "many"] qth_ := by
  refine F.has sc_law_take (fun vs H Q E h => by obtain ⟨_, _, _, _, rfl, _⟩ := h; rfl) (fun f cdv A outer s H vs Q E hr h => ?_)
  obtain ⟨p, many, b, o, rfl, hp, ⟨kvs, rest, turn, mixed, rfl, l10, k1, k2, k3, c0, cb⟩, b1, m0, m1, q⟩ := h
  have nd := sc_law_take.nd
  refine ⟨_, (qbs_ (qqs_ (qol_ (qos_ (qdq_ (U1 hr) (pv 0) qbu_ qce_))) (qbs_ (qd3_ (i := 2) nd rfl (Or.inl rfl) (qdk_ qdo_ (qdq_ (U1 hr) (pv 0) qbu_ qce_) (pv 1)))
    (qbs_ (qh3_ (U1 hr) (pv 0) qbu_ (qdk_ qgp_ (qdq_ (U1 hr) (pv 0) qbu_ qce_) (pv 1)) rfl)
    (qe5_ (qg7_ (pv 2))))) qhw_)
    (qbs_ (qh3_ (U1 hr) (pv 0) qbu_ (qdk_ qjc_ (qdq_ (U1 hr) (pv 0) qbu_ qce_) qdl_) rfl)
    (qbs_ (qd3_ (i := 3) nd rfl (Or.inl rfl) (qdk_ qdo_ (qdk_ qjc_ (qdk_ qdo_ (qdq_ (U1 hr) (pv 0) qbu_ qce_) qdl_) (qdk_ qgh_ qdl_ (qdq_ (U1 hr) (pv 0) qbu_ qce_))) qdl_))
    (qbs_ (qd3_ (i := 3) nd rfl (Or.inl rfl) (qdk_ qdo_ (qdk_ qgh_ (pv 3) (pv 3)) qdl_))
    (qbs_ (qh3_ (U1 hr) (pv 0) qbu_ (qdk_ qdo_ (qdk_ qjc_ (qdk_ qgh_ (pv 3) qdl_) qdl_) qdl_) rfl)
    (qe5_ (qg7_ (qdk_ qdo_ (qdk_ qgp_ (qdq_ (U1 hr) (pv 0) qbu_ qce_) qdl_) (pv 1))))))))), ?_⟩
  have lk : kvs.length < sizeLine := Nat.lt_of_le_of_lt l10 (by decide)
  have g1 : DGet H p (.str "rest") (some (.int rest)) := by have := DGet.k (k := .inr "rest") hp; rw [k1] at this; exact this
  have g2 : DGet H p (.str "mixed") (some (.bl mixed)) := by have := DGet.k (k := .inr "mixed") hp; rw [k2] at this; exact this
  refine ⟨_, rfl, p, _, rfl, g2, _, rfl, ?_⟩
  have ne12 : ¬ ((.inr "mixed" : Key) = .inr "rest") := by decide
  have ne13 : ¬ ((.inr "turn" : Key) = .inr "rest") := by decide
  have ne31 : ¬ ((.inr "rest" : Key) = .inr "turn") := by decide
  have ne32 : ¬ ((.inr "mixed" : Key) = .inr "turn") := by decide
  have ml : ∀ x : Int, 0 ≤ x.fmod many ∧ x.fmod many < many := fun x => by
    rw [Int.fmod_eq_emod_of_nonneg _ (by omega)]; exact ⟨Int.emod_nonneg _ (by omega), Int.emod_lt_of_pos _ m0⟩
  refine iteB (fun c => ?_) (fun c => ?_)
  · refine ⟨_, rfl, p, _, rfl, g1, _, rfl, _, _, rfl, rfl, (by omega : many ≠ 0), ?_⟩
    refine ⟨_, rfl, p, _, rfl, g1, _, rfl, _, _, rfl, rfl, ⟨by omega, m1⟩, _, rfl, p, _, rfl, DPut.k (k := .inr "rest") hp lk, ?_⟩
    refine ⟨_, rfl, ?_⟩
    refine q _ _ (ml _).1 (ml _).2 ⟨_, _, turn, mixed, rfl, by rw [qf1_ k1]; exact l10, by rw [qbh_, if_pos rfl], by rw [qbh_, if_neg ne12]; exact k2, by rw [qbh_, if_neg ne13]; exact k3, c0, by omega⟩
  · have g3 : DGet H p (.str "turn") (some (.int turn)) := by have := DGet.k (k := .inr "turn") hp; rw [k3] at this; exact this
    refine ⟨_, rfl, p, _, rfl, g3, _, _, rfl, rfl, _, rfl, p, _, rfl, DPut.k (k := .inr "turn") hp lk, ?_⟩
    generalize e1 : putK kvs (.inr "turn") (.int (turn + 1)) = kv1
    have h1 : valV kv1 (.inr "turn") = some (.int (turn + 1)) := by rw [← e1, qbh_, if_pos rfl]
    have h2 : valV kv1 (.inr "rest") = some (.int rest) := by rw [← e1, qbh_, if_neg ne31]; exact k1
    have h3 : valV kv1 (.inr "mixed") = some (.bl mixed) := by rw [← e1, qbh_, if_neg ne32]; exact k2
    have l1 : kv1.length ≤ 10 := by rw [← e1, qf1_ k3]; exact l10
    have hp1 : upd H p (.dK kv1) p = some (.dK kv1) := qi_
    have g4 : DGet (upd H p (.dK kv1)) p (.str "turn") (some (.int (turn + 1))) := by have := DGet.k (k := .inr "turn") hp1; rw [h1] at this; exact this
    have g5 : DGet (upd H p (.dK kv1)) p (.str "rest") (some (.int rest)) := by have := DGet.k (k := .inr "rest") hp1; rw [h2] at this; exact this
    have sm : ∀ x : Int, -(2 ^ 100 : Int) < x → x < (2 ^ 100 : Int) → Sm 100 x := fun x a b => qux_ a b
    have pw : (2 : Int) ^ 100 = 1267650600228229401496703205376 := by decide
    have Pm : ∀ (y m : Int), 0 < m → 0 ≤ y.fmod m ∧ y.fmod m < m := fun y m h => by
      rw [Int.fmod_eq_emod_of_nonneg _ (by omega)]; exact ⟨Int.emod_nonneg _ (by omega), Int.emod_lt_of_pos _ h⟩
    have P1 := Pm (rest.fmod 2147483579 + 70001 * (turn + 1)) 2147483579 (by decide)
    refine ⟨_, rfl, p, _, rfl, g5, _, _, rfl, rfl, (by decide : (2147483579 : Int) ≠ 0), _, rfl, p, _, rfl, g4, _, _, rfl, rfl, ⟨100, 100, by decide, sm _ (by decide) (by decide), sm _ (by omega) (by omega)⟩, _, _, rfl, rfl, _, _, rfl, rfl, (by decide : (2147483579 : Int) ≠ 0), ?_⟩
    refine ⟨_, rfl, _, rfl, _, _, rfl, rfl, ⟨100, 100, by decide, sm _ (by omega) (by omega), sm _ (by omega) (by omega)⟩, _, _, rfl, rfl, (by decide : (2147483563 : Int) ≠ 0), ?_⟩
    have P2 := Pm ((rest.fmod 2147483579 + 70001 * (turn + 1)).fmod 2147483579 * (rest.fmod 2147483579 + 70001 * (turn + 1)).fmod 2147483579) 2147483563 (by decide)
    refine ⟨_, rfl, _, _, rfl, rfl, ⟨100, 100, by decide, sm _ (by omega) (by omega), sm _ (by decide) (by decide)⟩, _, _, rfl, rfl, _, _, rfl, rfl, (by decide : (2147483579 : Int) ≠ 0), _, rfl, p, _, rfl, DPut.k (k := .inr "rest") hp1 (Nat.lt_of_le_of_lt l1 (by decide)), ?_⟩
    rw [qpy_]
    generalize e2 : putK kv1 (.inr "rest") _ = kv2
    have hp2 : upd H p (.dK kv2) p = some (.dK kv2) := qi_
    have h6 : ∃ z : Int, valV kv2 (.inr "rest") = some (.int z) := ⟨_, by rw [← e2, qbh_, if_pos rfl]⟩
    obtain ⟨z, h6⟩ := h6
    have g6 : DGet (upd H p (.dK kv2)) p (.str "rest") (some (.int z)) := by have := DGet.k (k := .inr "rest") hp2; rw [h6] at this; exact this
    refine ⟨_, rfl, p, _, rfl, g6, _, _, rfl, rfl, ⟨by decide, by unfold Sm; exact Nat.lt_of_lt_of_le (show (5 : Int).natAbs < 2 ^ 4 by decide) (Nat.pow_le_pow_right (by decide) (by decide))⟩, _, rfl, _, _, rfl, rfl, (by omega : many ≠ 0), ?_⟩
    refine q _ _ (ml _).1 (ml _).2 ?_
    rw [← e2]
    exact ⟨_, _, turn + 1, mixed, rfl, by rw [qf1_ h2]; exact l1, by rw [qbh_, if_pos rfl], by rw [qbh_, if_neg ne12]; exact h3, by rw [qbh_, if_neg ne13]; exact h1, by omega, by omega⟩
def q9_ (b : Int) : HO → Prop := qlp_ b
def qsk_ : List D → (D → Prop) → Prop := fun ds P => ∃ many : Int, ds = [.int many] ∧ 0 < many ∧ Sm 9000 many ∧ ∀ r : Int, 0 ≤ r → r < many → P (.int r)
theorem qd1_ : Less q9_ := fun b b' o h ⟨kvs, rest, count, mixed, e, l, k1, k2, k3, c0, cb⟩ => ⟨kvs, rest, count, mixed, e, l, k1, k2, k3, c0, by omega⟩
theorem h__law_take (B : Bl mg) (F : Def K mg "_law_take" qcb_ ["state", "many"]) : Has P w K mg base CX0 1 "_law_take" ["state", "many"] (spP K q9_ 1 qsk_) := by
  obtain ⟨f, fd, F, b, kp, m⟩ := (qha_ (P := P) (w := w) (base := base) B F).ex
  refine ⟨f, fd, F.imp ?_, b, kp, m⟩
  rintro vs H Q E ⟨Z, F', M, p, vs', ds, P, b, rfl, ag, hp, hb, r, ⟨many, rfl, m0, m1, q⟩, kk⟩
  obtain ⟨v, rfl, rv⟩ := rps1 r
  rw [Rp] at rv
  subst rv
  obtain ⟨fp, o, ho, po⟩ := ag.mo p _ hp
  refine ⟨p, many, b, o, rfl, ho, po, hb, m0, m1, fun r o' r0 r1 po' => kk (.int r) _ F' (.int r) (Same.refl _) ⟨fun b o e => ?_, fun b o e => ?_, fun b o e => ?_⟩ (by rw [Rp]) (q r r0 r1)⟩
  · rw [qh_ (fun z => by rw [z, fp] at e; cases e)]; exact ag.sm b o e
  · obtain ⟨a1, a2, a3⟩ := ag.zz b o e
    have ne : b ≠ p := fun z => by rw [z, hp] at a3; cases a3
    exact ⟨by rw [qh_ ne]; exact a1, a2, by rw [qq_ ne]; exact a3⟩
  · by_cases e1 : b = p
    · subst e1
      rw [qf_] at e
      cases e
      exact ⟨fp, o', qi_, po'⟩
    · rw [qq_ e1] at e
      obtain ⟨a1, a2⟩ := ag.mo b o e
      exact ⟨a1, MOk.same (Same.refl _) (qh_ e1) a2⟩

/-! ### k19's family: cells, states and numbers -/
def qsf_ : List D → (D → Prop) → Prop := fun ds P => ∃ k : Int, ds = [.int k] ∧ 0 ≤ k ∧ k ≤ 1000 ∧ ∀ c : Int, P (.int c)
theorem qrv_ {α : Type} {ns : List α} {k : Int} (k0 : 0 ≤ k) (h : k < (ns.length : Int)) : ∃ c, atI ns k = some c := by
  refine ⟨ns[k.toNat]'(by omega), ?_⟩
  have := qoo_ (ds := ns) (k := k.toNat) (List.getElem?_eq_getElem (by omega))
  rw [Int.toNat_of_nonneg k0] at this
  exact this
theorem cmR {i j : Int} (h : -(2 ^ 64) < j ∧ j < 2 ^ 64) : CM i j := .inl (.inr h)
theorem cmL {i j : Int} (h : -(2 ^ 64) < i ∧ i < 2 ^ 64) : CM i j := .inl (.inl h)
abbrev qdd_ : Stmt := top 38
theorem sc_law_cell : FnScope ["script", "k"] ["script", "k"] (qd_ qdd_) := ⟨rfl, rfl, rfl, by decide +kernel, rfl, by decide +kernel, by decide +kernel⟩
theorem h__law_cell (B : Bl mg) (F : Def K mg "_law_cell" qdd_ ["script", "k"]) : Has P w K mg base CX0 1 "_law_cell" ["script", "k"] (spD K (Scr K) qsf_) := by
  refine F.hasD sc_law_cell (fun ds P h => by obtain ⟨_, rfl, _⟩ := h; rfl) fun f cdv A outer s H E hr => ?_
  have nd := sc_law_cell.nd
  refine ⟨_, (qc_ (qb9_ (qj9_ (jv 1) (qn6_ 0 rfl B.len)) (qg_ (qr_ (qvp_ 0 (jv 1)))) qv_)
    (qg_ (qr_ (qds_ (qds_ (qby_ (qby_ qe_ (jv 1)) (jv 1)) (qby_ qe_ (jv 1))) qe_)))), ?_⟩
  rintro p ds M Q ⟨ns, hN⟩ ⟨k, rfl, k0, k1, q⟩
  refine ⟨ns, hN, ?_⟩
  show if decide (k < (ns.length : Int)) = true then _ else _
  refine iteB (fun c => ?_) (fun c => ?_)
  · obtain ⟨x, hx⟩ := qrv_ k0 (show k < (ns.length : Int) by simpa using c)
    exact ⟨ns, x, hN, hx, Sub.refl _, q x⟩
  · exact ⟨cmL ⟨by decide, by decide⟩, cmR ⟨by omega, by omega⟩, cmL ⟨by decide, by decide⟩, Sub.refl _, q _⟩
abbrev qui_ (P : Program) (w : World) (K : PySem.W.Frag) (mg : Str → Option Value) (base : Heap) : Prop := Has P w K mg base CX0 1 "_law_cell" ["script", "k"] (spD K (Scr K) qsf_)
def qn4_ : List D → Prop := fun ds => ∃ k : Int, ds = [.int k] ∧ 0 ≤ k ∧ k ≤ 1000
abbrev qcr_ : Stmt := top 39
theorem sc_law_state : FnScope ["script", "k"] ["script", "k"] (qd_ qcr_) := ⟨rfl, rfl, rfl, by decide +kernel, rfl, by decide +kernel, by decide +kernel⟩
theorem h__law_state (B : Bl mg) (F : Def K mg "_law_state" qcr_ ["script", "k"]) (F__law_cell : qui_ P w K mg base) : Has P w K mg base CX0 2 "_law_state" ["script", "k"] (spMk K (Scr K) qn4_ (q9_ 100000000)) := by
  refine F.hasMkO sc_law_state (fun ds h => by obtain ⟨_, rfl, _⟩ := h; rfl) fun f cdv A outer s H E hr => ?_
  have nd := sc_law_state.nd
  refine ⟨_, (qg_ (qmk_ (q9_ 100000000) (j_hD 0 F__law_cell (hr.mono (by decide)) rfl (qa_ (jv 1) qb_)) (j_eq hr (qfb_ (j_hD 0 F__law_cell (hr.mono (by decide)) rfl (qa_ qe_ qb_)) qe_) qe_) (jv 1))), ?_⟩
  rintro p ds M hS ⟨k, rfl, k0, k1⟩
  refine ⟨hS, k, rfl, k0, k1, fun c => ⟨hS, 0, rfl, by decide, by decide, fun c2 => ⟨(by decide : (2 : Int) ≠ 0), (by show 0 ≤ 60; decide), _, _, _, rfl, rfl, rfl, ⟨_, c, k, _, rfl, by show 3 ≤ 10; decide, rfl, rfl, rfl, by omega, by omega⟩, fun q hq => ⟨q, rfl, hq, Sub.refl _⟩⟩⟩⟩
def gFrP : List D → (D → Prop) → Prop := fun ds P => ∃ a b : Int, ds = [.int a, .int b] ∧ 0 < b ∧ Sm 9000 b ∧ P (frD (Rat.divInt a b))
theorem qm6_ (a b : Int) : Int.gcd (if a < 0 then -a else a) b = Int.gcd a b := by
  split <;> simp [Int.neg_gcd]
abbrev qdf_ : Stmt := top 41
theorem sc_law_frac : FnScope ["top", "bottom", "one", "other"] ["top", "bottom"] (qd_ qdf_) := ⟨rfl, rfl, rfl, by decide +kernel, rfl, by decide +kernel, by decide +kernel⟩
theorem h__law_frac (B : Bl mg) (F : Def K mg "_law_frac" qdf_ ["top", "bottom"]) : Has P w K mg base CX0 1 "_law_frac" ["top", "bottom"] (spW K (pur gFrP)) := by
  refine F.hasP sc_law_frac (fun ds P h => by obtain ⟨a, b, rfl, _⟩ := h; rfl) fun f cdv A outer s H E hr => ?_
  have nd := sc_law_frac.nd
  refine ⟨_, (qc_ (qo_ (i := 2) nd rfl (Or.inl rfl) (qpt_ rfl B.abs (qa_ (jv 0) qb_)))
    (qc_ (qo_ (i := 3) nd rfl (Or.inl rfl) (jv 1))
    (qc_ (qjn_ PassesOwn.never (qts_ (jv 3) qe_) (qg_ (qtd_ (qsi_ (i := 2) (j := 3) rfl nd rfl rfl (by decide) rfl rfl (JA.h (qa_ (jv 3) (qa_ (qfb_ (jv 2) (jv 3)) qb_))) rfl))))
    (qg_ (qr_ (qbl_ (qa_ (qc0_ (jv 0) (jv 2)) (qa_ (qc0_ (jv 1) (jv 2)) qb_)))))))), ?_⟩
  rintro ds M Q ⟨a, b, rfl, hb0, hs, q⟩
  have hb : b ≠ 0 := by omega
  refine ⟨fun m ρ M' => M' = M ∧ ∃ (l k : Int), ρ = [.sh (.int a), .sh (.int b), .sh (.int l), .sh (.int k)] ∧ m = k.natAbs ∧ 0 ≤ l ∧ 0 ≤ k ∧ Int.gcd l k = Int.gcd a b, ⟨_, rfl, _, _, rfl, rfl, ?_, by omega, qm6_ a b⟩, ?_⟩
  · split <;> omega
  rintro m ρ M' ⟨rfl, l, k, rfl, rfl, l0, k0, e⟩
  show if decide (0 < k) = true then _ else _
  refine iteB (fun c => ?_) (fun c => ?_)
  · have c' : k ≠ 0 := by have : 0 < k := by simpa using c
                          omega
    exact ⟨c', _, qfs_ (a := l) c', rfl, _, _, rfl, rfl, k0, Int.fmod_nonneg l0 k0, by rw [qja_, e]⟩
  have c' : k = 0 := by have : ¬ 0 < k := by simpa using c
                        omega
  subst c'
  have e2 : l = (Int.gcd a b : Int) := by
    rw [← e, Int.gcd_zero_right]
    omega
  subst e2
  have gs : Sm 9000 (Int.gcd a b : Int) := qoa_ hb hs
  have gp := qmg_ (a := a) hb
  have e1 := qox_ (a := a) hb
  have e3 := qkd_ (a := a) hb
  rw [if_neg (by omega)] at e1 e3
  refine ⟨⟨by omega, gs⟩, ⟨by omega, gs⟩, by show 2 ≤ sizeLine; decide, _, Sub.refl _, ?_⟩
  unfold frD at q
  rw [e1, e3] at q
  exact q
abbrev hLF (P : Program) (w : World) (K : PySem.W.Frag) (mg : Str → Option Value) (base : Heap) : Prop := Has P w K mg base CX0 1 "_law_frac" ["top", "bottom"] (spW K (pur gFrP))
theorem qiy_ (q r : Rat) : 0 < (q.den : Int) * (r.den : Int) := Int.mul_pos (by have := qid_ q; omega) (by have := qid_ r; omega)
abbrev qc7_ : Stmt := top 42
theorem sc_law_plus : FnScope ["q", "r"] ["q", "r"] (qd_ qc7_) := ⟨rfl, rfl, rfl, by decide +kernel, rfl, by decide +kernel, by decide +kernel⟩
theorem h__law_plus (B : Bl mg) (F : Def K mg "_law_plus" qc7_ ["q", "r"]) (F__law_frac : hLF P w K mg base) : Has P w K mg base CX0 2 "_law_plus" ["q", "r"] (spW K (pur (gOp fun q r => q + r))) := by
  refine F.hasP sc_law_plus (fun ds P h => by obtain ⟨a, b, rfl, _⟩ := h; rfl) fun f cdv A outer s H E hr => ?_
  have nd := sc_law_plus.nd
  refine ⟨_, (qg_ (qr_ (j_h F__law_frac (hr.mono (by decide)) rfl (qa_ (qds_ (qby_ (qm_ 0 qe_) (qm_ 1 qe_)) (qby_ (qm_ 1 qe_) (qm_ 0 qe_))) (qa_ (qby_ (qm_ 0 qe_) (qm_ 1 qe_)) qb_))))), ?_⟩
  rintro ds M Q ⟨q, r, rfl, m, k⟩
  exact ⟨m.c1, m.c2, m.c3, _, _, rfl, qiy_ q r, m.s, _, Sub.refl _, by rw [qo8_]; exact k⟩
abbrev qcn_ : Stmt := top 43
theorem sc_law_times : FnScope ["q", "r"] ["q", "r"] (qd_ qcn_) := ⟨rfl, rfl, rfl, by decide +kernel, rfl, by decide +kernel, by decide +kernel⟩
theorem h__law_times (B : Bl mg) (F : Def K mg "_law_times" qcn_ ["q", "r"]) (F__law_frac : hLF P w K mg base) : Has P w K mg base CX0 2 "_law_times" ["q", "r"] (spW K (pur (gOp fun q r => q * r))) := by
  refine F.hasP sc_law_times (fun ds P h => by obtain ⟨a, b, rfl, _⟩ := h; rfl) fun f cdv A outer s H E hr => ?_
  have nd := sc_law_times.nd
  refine ⟨_, (qg_ (qr_ (j_h F__law_frac (hr.mono (by decide)) rfl (qa_ (qby_ (qm_ 0 qe_) (qm_ 1 qe_)) (qa_ (qby_ (qm_ 0 qe_) (qm_ 1 qe_)) qb_))))), ?_⟩
  rintro ds M Q ⟨q, r, rfl, m, k⟩
  exact ⟨m.c4, m.c3, _, _, rfl, qiy_ q r, m.s, _, Sub.refl _, by rw [qpb_]; exact k⟩
abbrev hLP (P : Program) (w : World) (K : PySem.W.Frag) (mg : Str → Option Value) (base : Heap) : Prop := Has P w K mg base CX0 2 "_law_plus" ["q", "r"] (spW K (pur (gOp fun q r => q + r)))
abbrev hLT (P : Program) (w : World) (K : PySem.W.Frag) (mg : Str → Option Value) (base : Heap) : Prop := Has P w K mg base CX0 2 "_law_times" ["q", "r"] (spW K (pur (gOp fun q r => q * r)))
abbrev qm1_ (P : Program) (w : World) (K : PySem.W.Frag) (mg : Str → Option Value) (base : Heap) : Prop := Has P w K mg base CX0 1 "_law_take" ["state", "many"] (spP K q9_ 1 qsk_)

def SmN (n d : Nat) (q : Rat) : Prop := Sm n q.num ∧ Sm d (q.den : Int)
theorem SmN.smr {n d : Nat} {q : Rat} (h : SmN n d q) (l : d ≤ n) : SmR n q := ⟨h.1, h.2.mono l⟩
theorem qlw_ {n d : Nat} {a b : Int} (hb : 0 < b) (ha : Sm n a) (sb : Sm d b) (l : d ≤ n) : SmN n d (Rat.divInt a b) := by
  have e : ((b.toNat : Nat) : Int) = b := Int.toNat_of_nonneg (by omega)
  have w : Wh b.toNat n (Rat.divInt a b) := ⟨a, by rw [e], ha⟩
  exact ⟨(qk6_ (by omega) ha (sb.mono l)).1, w.den (by omega) (by rw [e]; exact sb)⟩
theorem qqu_ {n d : Nat} {a : Int} (ha : Sm n a) (d1 : 1 ≤ d) : SmN n d (a : Rat) := ⟨by rw [Rat.num_intCast]; exact ha, by rw [Rat.den_intCast]; exact Sm.mono (a := 1) (by unfold Sm; decide) d1⟩
theorem smM {n : Int} (h : n.natAbs < 2 ^ 200 := by decide) : Sm 9000 n := Sm.mono (a := 200) h (by decide)
def qto_ : List D → (D → Prop) → Prop := fun ds P => ds = [] ∧ ∀ q : Rat, SmN 40 7 q → P (frD q)
abbrev qdb_ : Stmt := top 45
theorem sc_law_some : FnScope ["state", "kind"] ["state"] (qd_ qdb_) := ⟨rfl, rfl, rfl, by decide +kernel, rfl, by decide +kernel, by decide +kernel⟩
theorem h__law_some (B : Bl mg) (F : Def K mg "_law_some" qdb_ ["state"]) (F__law_take : qm1_ P w K mg base) (F__law_frac : hLF P w K mg base) : Has P w K mg base CX0 2 "_law_some" ["state"] (spP K q9_ 3 qto_) := by
  refine F.hasB qd1_ sc_law_some (fun ds P h => by obtain ⟨rfl, _⟩ := h; rfl) fun f cdv A outer s H E hr => ?_
  have nd := sc_law_some.nd
  refine ⟨_, (qc_ (qo_ (i := 1) nd rfl (Or.inl rfl) (j_hP 0 F__law_take (hr.mono (by decide)) rfl (qa_ qe_ qb_)))
    (qc_ (qb9_ (qmn_ hr (jv 1) qe_) (qg_ (qr_ (j_h F__law_frac (hr.mono (by decide)) rfl (qa_ (qhq_ (j_hP 0 F__law_take (hr.mono (by decide)) rfl (qa_ (qrs_ qe_ qe_) qb_)) (qby_ qe_ (qrs_ qe_ qe_))) (qa_ (qds_ qe_ (j_hP 0 F__law_take (hr.mono (by decide)) rfl (qa_ qe_ qb_))) qb_))))) qv_)
    (qc_ (qb9_ (qj9_ (jv 1) qe_) (qg_ (qr_ (qbl_ (qa_ (qhq_ (j_hP 0 F__law_take (hr.mono (by decide)) rfl (qa_ qe_ qb_)) qe_) (qa_ qe_ qb_))))) qv_)
    (qg_ (qr_ (j_h F__law_frac (hr.mono (by decide)) rfl (qa_ (qhq_ (j_hP 0 F__law_take (hr.mono (by decide)) rfl (qa_ qe_ qb_)) qe_) (qa_ (qds_ qe_ (j_hP 0 F__law_take (hr.mono (by decide)) rfl (qa_ qe_ qb_))) qb_)))))))), ?_⟩
  rintro p ds M b Q hp hb ⟨rfl, q⟩
  refine ⟨b, hp, by omega, 8, rfl, by decide, smM, fun r r0 r1 => ?_⟩
  refine ⟨by show 0 ≤ 60; decide, ?_⟩
  show if peq (.int r) (.int 7) = true then _ else _
  refine iteB (fun c => ?_) (fun c => ?_)
  · refine ⟨⟨by decide, by decide⟩, b - 1, qf_, by omega, 1000000000000, rfl, by decide, smM, fun r2 r20 r21 => ⟨⟨by decide, by decide⟩, cmL ⟨by decide, by decide⟩, b - 1 - 1, qf_, by omega, 97, rfl, by decide, smM, fun r3 r30 r31 => ?_⟩⟩
    have s1 : Sm 40 (r2 - 5 * 10 ^ 11) := by unfold Sm; omega
    have s2 : Sm 7 (1 + r3) := by unfold Sm; omega
    exact ⟨_, _, rfl, by omega, s2.mono (by decide), ⟨b - 1 - 1 - 1, by omega, by rw [qp_, qp_]; exact Sub.refl _⟩, q _ (qlw_ (by omega) s1 s2 (by decide))⟩
  show if decide (r < 3) = true then _ else _
  refine iteB (fun c => ?_) (fun c => ?_)
  · refine ⟨b - 1, qf_, by omega, 19, rfl, by decide, smM, fun r' r0' r1' => ⟨by show 2 ≤ sizeLine; decide, ⟨b - 1 - 1, by omega, by rw [qp_]; exact Sub.refl _⟩, ?_⟩⟩
    have e := frI (r' - 9)
    have := q _ (qqu_ (n := 40) (d := 7) (a := r' - 9) (by unfold Sm; omega) (by decide))
    rw [← e] at this
    exact this
  · refine ⟨b - 1, qf_, by omega, 41, rfl, by decide, smM, fun r2 r20 r21 => ⟨b - 1 - 1, qf_, by omega, 6, rfl, by decide, smM, fun r3 r30 r31 => ?_⟩⟩
    have s1 : Sm 40 (r2 - 20) := by unfold Sm; omega
    have s2 : Sm 7 (1 + r3) := by unfold Sm; omega
    exact ⟨_, _, rfl, by omega, s2.mono (by decide), ⟨b - 1 - 1 - 1, by omega, by rw [qp_, qp_]; exact Sub.refl _⟩, q _ (qlw_ (by omega) s1 s2 (by decide))⟩
abbrev qqw_ (P : Program) (w : World) (K : PySem.W.Frag) (mg : Str → Option Value) (base : Heap) : Prop := Has P w K mg base CX0 2 "_law_some" ["state"] (spP K q9_ 3 qto_)
def qmc_ : List D → (D → Prop) → Prop := fun ds P => ds = [] ∧ ∀ q r : Rat, SmN 40 7 q → SmN 4 2 r → 0 ≤ r → P (bQ (q, q + r))
abbrev qb6_ : Stmt := top 47
theorem sc_law_bounds : FnScope ["state", "low"] ["state"] (qd_ qb6_) := ⟨rfl, rfl, rfl, by decide +kernel, rfl, by decide +kernel, by decide +kernel⟩
theorem h__law_bounds (B : Bl mg) (F : Def K mg "_law_bounds" qb6_ ["state"]) (F__law_some : qqw_ P w K mg base) (F__law_plus : hLP P w K mg base) (F__law_frac : hLF P w K mg base) (F__law_take : qm1_ P w K mg base) : Has P w K mg base CX0 3 "_law_bounds" ["state"] (spP K q9_ 5 qmc_) := by
  refine F.hasB qd1_ sc_law_bounds (fun ds P h => by obtain ⟨rfl, _⟩ := h; rfl) fun f cdv A outer s H E hr => ?_
  have nd := sc_law_bounds.nd
  refine ⟨_, (qc_ (qo_ (i := 1) nd rfl (Or.inl rfl) (j_hP 0 F__law_some (hr.mono (by decide)) rfl qb_))
    (qg_ (qr_ (qbl_ (qa_ (jv 1) (qa_ (j_h F__law_plus (hr.mono (by decide)) rfl (qa_ (jv 1) (qa_ (j_h F__law_frac (hr.mono (by decide)) rfl (qa_ (j_hP 0 F__law_take (hr.mono (by decide)) rfl (qa_ qe_ qb_)) (qa_ (qds_ qe_ (j_hP 0 F__law_take (hr.mono (by decide)) rfl (qa_ qe_ qb_))) qb_))) qb_))) qb_)))))), ?_⟩
  rintro p ds M b Q hp hb ⟨rfl, q⟩
  refine ⟨b, hp, by omega, rfl, fun q1 s1 => ⟨b - 3, qf_, by omega, 9, rfl, by decide, smM, fun r r0 r1 => ⟨b - 3 - 1, qf_, by omega, 3, rfl, by decide, smM, fun r2 r20 r21 => ?_⟩⟩⟩
  have t1 : Sm 4 r := by unfold Sm; omega
  have t2 : Sm 2 (1 + r2) := by unfold Sm; omega
  have t3 := qlw_ (by omega) t1 t2 (by decide)
  refine ⟨_, _, rfl, by omega, t2.mono (by decide), q1, _, rfl, Mx.of (s1.smr (by decide)) (t3.smr (by decide)), by show 2 ≤ sizeLine; decide, ⟨b - 3 - 1 - 1, by omega, by rw [qp_, qp_]; exact Sub.refl _⟩, q q1 _ s1 t3 ?_⟩
  exact Rat.divInt_nonneg (by omega) (by omega)

theorem qp6_ {a b : Int} (h1 : (Rat.divInt a b).num = a) (h2 : ((Rat.divInt a b).den : Int) = b) : .tup [.int a, .int b] = frD (Rat.divInt a b) := by rw [frD, h1, h2]
theorem qht_ {a : Int} {d : Nat} (c : Nat) (e : d * c = 60) (h : Sm 12 (a * c)) : Wh 60 12 (Rat.divInt a d) := by
  have := Wh.of (n := 12) (a := a) (d := d) (c := c) (fun z => by subst z; omega) h
  rwa [e] at this
theorem qpn_ {P : D → Prop} (q : ∀ q : Rat, Wh 60 12 q → P (frD q)) : ∀ d ∈ ([.tup [.int 0, .int 1], .tup [.int 0, .int 1], .tup [.int 1, .int 1], .tup [.int (-1), .int 1], .tup [.int 1, .int 1], .tup [.int (-1), .int 1], .tup [.int 2, .int 1], .tup [.int (-3), .int 2], .tup [.int 1, .int 3], .tup [.int (-2), .int 1]] : List D), P d := by
  have g : ∀ (a : Int) (d c : Nat), d * c = 60 → Sm 12 (a * c) → (Rat.divInt a d).num = a → ((Rat.divInt a d).den : Int) = d → P (.tup [.int a, .int d]) := fun a d c e h h1 h2 => by
    rw [qp6_ h1 h2]; exact q _ (qht_ c e h)
  have i0 := g 0 1 60 rfl (by unfold Sm; decide) (by decide +kernel) (by decide +kernel)
  have i1 := g 1 1 60 rfl (by unfold Sm; decide) (by decide +kernel) (by decide +kernel)
  have i2 := g (-1) 1 60 rfl (by unfold Sm; decide) (by decide +kernel) (by decide +kernel)
  have i3 := g 2 1 60 rfl (by unfold Sm; decide) (by decide +kernel) (by decide +kernel)
  have i4 := g (-3) 2 30 rfl (by unfold Sm; decide) (by decide +kernel) (by decide +kernel)
  have i5 := g 1 3 20 rfl (by unfold Sm; decide) (by decide +kernel) (by decide +kernel)
  have i6 := g (-2) 1 60 rfl (by unfold Sm; decide) (by decide +kernel) (by decide +kernel)
  intro d hd
  simp only [List.mem_cons, List.not_mem_nil, or_false] at hd
  rcases hd with rfl | rfl | rfl | rfl | rfl | rfl | rfl | rfl | rfl | rfl
  · exact i0
  · exact i0
  · exact i1
  · exact i2
  · exact i1
  · exact i2
  · exact i3
  · exact i4
  · exact i5
  · exact i6
theorem qvl_ {r2 r3 : Int} (h1 : 0 ≤ r2) (h2 : r2 < 41) (h3 : 0 ≤ r3) (h4 : r3 < 6) : Wh 60 12 (Rat.divInt (r2 - 20) (1 + r3)) := by
  have : r3 = 0 ∨ r3 = 1 ∨ r3 = 2 ∨ r3 = 3 ∨ r3 = 4 ∨ r3 = 5 := by omega
  rcases this with rfl | rfl | rfl | rfl | rfl | rfl
  · exact qht_ (d := 1) 60 rfl (by unfold Sm; omega)
  · exact qht_ (d := 2) 30 rfl (by unfold Sm; omega)
  · exact qht_ (d := 3) 20 rfl (by unfold Sm; omega)
  · exact qht_ (d := 4) 15 rfl (by unfold Sm; omega)
  · exact qht_ (d := 5) 12 rfl (by unfold Sm; omega)
  · exact qht_ (d := 6) 10 rfl (by unfold Sm; omega)

def gWtW : List D → (D → Prop) → Prop := fun ds P => ∃ wd : Bool, ds = [.bl wd] ∧ ∀ q : Rat, Wh 60 12 q → P (frD q)
theorem qte_ {m : Int} (h1 : 1 ≤ m) (h2 : m ≤ 1000) : Sm 9000 m := Sm.mono (a := 10) (by unfold Sm; omega) (by decide)
theorem qvi_ {P : D → Prop} (b : Bool) (h : ∀ m : Int, 1 ≤ m → m ≤ 1000 → P (.int m)) : RInt [.bl b] fun y => RIx (.lst [.int 12, .int 6]) y P := by
  cases b
  · exact h 12 (by decide) (by decide)
  · exact h 6 (by decide) (by decide)
abbrev qbz_ : Stmt := top 46
theorem sc_law_weight : FnScope ["state", "wide", "some", "kind"] ["state", "wide"] (qd_ qbz_) := ⟨rfl, rfl, rfl, by decide +kernel, rfl, by decide +kernel, by decide +kernel⟩
theorem h__law_weight (B : Bl mg) (F : Def K mg "_law_weight" qbz_ ["state", "wide"]) (F__law_take : qm1_ P w K mg base) (F__law_frac : hLF P w K mg base) : Has P w K mg base CX0 2 "_law_weight" ["state", "wide"] (spP K q9_ 3 gWtW) := by
  refine F.hasB qd1_ sc_law_weight (fun ds P h => by obtain ⟨_, rfl, _⟩ := h; rfl) fun f cdv A outer s H E hr => ?_
  have nd := sc_law_weight.nd
  refine ⟨_, (qc_ (qo_ (i := 2) nd rfl (Or.inl rfl) (j_fz (qbn_ (qa_ (qbl_ (qa_ qe_ (qa_ qe_ qb_))) (qa_ (qbl_ (qa_ qe_ (qa_ qe_ qb_))) (qa_ (qbl_ (qa_ qe_ (qa_ qe_ qb_))) (qa_ (qbl_ (qa_ (qfe_ qe_) (qa_ qe_ qb_))) (qa_ (qbl_ (qa_ qe_ (qa_ qe_ qb_))) (qa_ (qbl_ (qa_ (qfe_ qe_) (qa_ qe_ qb_))) (qa_ (qbl_ (qa_ qe_ (qa_ qe_ qb_))) (qa_ (qbl_ (qa_ (qfe_ qe_) (qa_ qe_ qb_))) (qa_ (qbl_ (qa_ qe_ (qa_ qe_ qb_))) (qa_ (qbl_ (qa_ (qfe_ qe_) (qa_ qe_ qb_))) qb_)))))))))))))
    (qc_ (qo_ (i := 3) nd rfl (Or.inl rfl) (j_hP 0 F__law_take (hr.mono (by decide)) rfl (qa_ (j_at (j_fz (qbn_ (qa_ qe_ (qa_ qe_ qb_)))) (qoy_ rfl B.int (qa_ (jv 1) qb_))) qb_)))
    (qc_ (qb9_ (qj9_ (jv 3) qe_) (qg_ (qr_ (qm_ 2 (jv 3)))) qv_)
    (qg_ (qr_ (j_h F__law_frac (hr.mono (by decide)) rfl (qa_ (qhq_ (j_hP 0 F__law_take (hr.mono (by decide)) rfl (qa_ qe_ qb_)) qe_) (qa_ (qds_ qe_ (j_hP 0 F__law_take (hr.mono (by decide)) rfl (qa_ qe_ qb_))) qb_)))))))), ?_⟩
  rintro p ds M b Q hp hb ⟨wd, rfl, q⟩
  refine ⟨by show 2 ≤ sizeLine; decide, by show 2 ≤ sizeLine; decide, by show 2 ≤ sizeLine; decide, by show 2 ≤ sizeLine; decide, by show 2 ≤ sizeLine; decide, by show 2 ≤ sizeLine; decide, by show 2 ≤ sizeLine; decide, by show 2 ≤ sizeLine; decide, by show 2 ≤ sizeLine; decide, by show 2 ≤ sizeLine; decide, by show 10 ≤ sizeLine; decide, by show 2 ≤ sizeLine; decide, ?_⟩
  refine qvi_ wd fun m m1 m2 => ⟨b, hp, by omega, m, rfl, by omega, qte_ m1 m2, fun r r0 r1 => ?_⟩
  show if decide (r < 10) = true then _ else _
  refine iteB (fun c => ?_) (fun c => ?_)
  · have c : r < 10 := by simpa using c
    refine RIx.lst r0 (by show r < 10; exact c) ?_
    have := qpn_ (P := fun d => (∃ b', b - 3 ≤ b' ∧ L4.Sub (mset M p (MO.op (q9_ b'))) (mset M p (MO.op (q9_ (b - 1))))) ∧ Q d) fun x hx => ⟨⟨b - 1, by omega, Sub.refl _⟩, q x hx⟩
    exact this
  · refine ⟨b - 1, qf_, by omega, 41, rfl, by decide, smM, fun r2 r20 r21 => ⟨b - 1 - 1, qf_, by omega, 6, rfl, by decide, smM, fun r3 r30 r31 => ?_⟩⟩
    have s2 : Sm 7 (1 + r3) := by unfold Sm; omega
    exact ⟨_, _, rfl, by omega, s2.mono (by decide), ⟨b - 1 - 1 - 1, by omega, by rw [qp_, qp_]; exact Sub.refl _⟩, q _ (qvl_ r20 r21 r30 r31)⟩

/-! ### common bottoms of drawn plans and made sets -/
theorem Wh.self (q : Rat) {n : Nat} (h : Sm n q.num) : Wh q.den n q := ⟨q.num, (Rat.num_divInt_den q).symm, h⟩
theorem qgs_ {n d : Nat} : ∀ (l : List Rat), (∀ q ∈ l, SmN n d q) → ∃ D : Nat, D ≠ 0 ∧ Sm (d * l.length + 1) (D : Int) ∧ ∀ q ∈ l, Wh D (n + d * l.length + 1) q
  | [], _ => ⟨1, by decide, by show (1 : Nat) < 2 ^ (d * 0 + 1); rw [Nat.mul_zero]; decide, fun q hq => by cases hq⟩
  | q :: l, h => by
    obtain ⟨D, d0, sD, w⟩ := qgs_ l fun x hx => h x (.tail _ hx)
    obtain ⟨s1, s2⟩ := h q (.head _)
    have e : d * (q :: l).length = d * l.length + d := by rw [List.length_cons, Nat.mul_add, Nat.mul_one]
    refine ⟨D * q.den, Nat.mul_ne_zero d0 q.den_nz, ?_, fun x hx => ?_⟩
    · rw [Int.natCast_mul, e]
      exact (sD.mul s2).mono (by omega)
    · rcases List.mem_cons.mp hx with rfl | hx
      · have := ((Wh.self x s1).up D d0 sD).mono (b := n + d * (x :: l).length + 1) (by rw [e]; omega)
        rwa [Nat.mul_comm] at this
      · exact ((w x hx).up q.den q.den_nz s2).mono (by rw [e]; omega)
def DrB (x : Rat × Rat) : Prop := SmN 40 7 x.1 ∧ SmN 40 7 (x.2 - x.1) ∧ x.1 ≤ x.2
structure DrZ (s t : Nat) (z : ZR) : Prop where
  s : z.1.length = s
  t : z.2.1.length = t
  a : ∀ q ∈ z.1, Wh 60 12 q
  b : ∀ q ∈ z.2.1, Wh 60 12 q
  c : SmN 40 7 z.2.2
structure Dr (S T : List (Rat × Rat)) (Z : List ZR) : Prop where
  s0 : 1 ≤ S.length
  s6 : S.length ≤ 6
  t3 : T.length ≤ 3
  z : Z.length ≤ 8 ∧ (T.length = 2 → Z.length ≤ 6) ∧ (T.length = 3 → Z.length ≤ 3)
  bs : ∀ x ∈ S, DrB x
  bt : ∀ x ∈ T, DrB x
  bz : ∀ z ∈ Z, DrZ S.length T.length z
theorem qv3_ {D : Nat} (sD : Sm 200 (D : Int)) : Sm 400 ((60 * D : Nat) : Int) := by
  rw [Int.natCast_mul]
  exact ((show Sm 6 ((60 : Nat) : Int) by unfold Sm; decide).mul sD).mono (by decide)
theorem qll_ {D n : Nat} {q : Rat} (h : Wh D n q) : Wh (60 * D) (n + 6) q := by
  rw [Nat.mul_comm]
  exact h.up 60 (by decide) (by unfold Sm; decide)
theorem qom_ {D : Nat} {q : Rat} (d0 : D ≠ 0) (sD : Sm 200 (D : Int)) (h : Wh 60 12 q) : Wh (60 * D) 212 q := h.up D d0 sD
/-! ### wide plans -/
structure DrW (S T : List (Rat × Rat)) (Z : List ZR) : Prop where
  s0 : 1 ≤ S.length
  s6 : S.length ≤ 6
  t3 : T.length ≤ 3
  z : Z.length ≤ 10 ∧ (T.length ≤ 1 → Z.length ≤ 8) ∧ (T.length = 3 → Z.length ≤ 5)
  bs : ∀ x ∈ S, DrB x
  bt : ∀ x ∈ T, DrB x
  bz : ∀ z ∈ Z, DrZ S.length T.length z
theorem ql1_ {S T : List (Rat × Rat)} {Z : List ZR} (h : DrW S T Z) : RuOk S T Z := by
  obtain ⟨z8, z2, z3⟩ := h.z
  have t3 := h.t3
  obtain ⟨D, d0, sD, w⟩ := qgs_ (n := 40) (d := 7) (Z.map (fun z => z.2.2) ++ (T.map (fun x => x.1) ++ T.map (fun x => x.2 - x.1))) (fun q hq => by
    rcases List.mem_append.mp hq with hq | hq
    · obtain ⟨z, hz, rfl⟩ := List.mem_map.mp hq
      exact (h.bz z hz).c
    rcases List.mem_append.mp hq with hq | hq
    · obtain ⟨x, hx, rfl⟩ := List.mem_map.mp hq
      exact (h.bt x hx).1
    · obtain ⟨x, hx, rfl⟩ := List.mem_map.mp hq
      exact (h.bt x hx).2.1)
  have l : (Z.map (fun z => z.2.2) ++ (T.map (fun x => x.1) ++ T.map (fun x => x.2 - x.1))).length ≤ 16 := by
    simp only [List.length_append, List.length_map]; omega
  generalize (Z.map (fun z => z.2.2) ++ (T.map (fun x => x.1) ++ T.map (fun x => x.2 - x.1))).length = m at l sD w
  have w' : ∀ q ∈ Z.map (fun z => z.2.2) ++ (T.map (fun x => x.1) ++ T.map (fun x => x.2 - x.1)), Wh D 230 q := fun q hq => (w q hq).mono (by omega)
  have sD : Sm 200 (D : Int) := sD.mono (by omega)
  refine ⟨by have := h.s6; omega, t3, by omega, ?_, fun e => by have := z3 e; omega, 60 * D, Nat.mul_ne_zero (by decide) d0, qv3_ sD, fun z hz => ?_, fun x hx => ?_⟩
  · have : T.length = 0 ∨ T.length = 1 ∨ T.length = 2 ∨ T.length = 3 := by omega
    rcases this with e | e | e | e
    · have := z2 (by omega); omega
    · have := z2 (by omega); omega
    · omega
    · have := z3 e; omega
  · have b := h.bz z hz
    exact ⟨b.s, b.t, fun q hq => (qom_ d0 sD (b.a q hq)).mono (by decide), fun q hq => (qom_ d0 sD (b.b q hq)).mono (by decide), (qll_ (w' _ (List.mem_append_left _ (List.mem_map.mpr ⟨z, hz, rfl⟩)))).mono (by decide)⟩
  · have h1 := w' x.1 (List.mem_append_right _ (List.mem_append_left _ (List.mem_map.mpr ⟨x, hx, rfl⟩)))
    have h2 := h1.add (w' (x.2 - x.1) (List.mem_append_right _ (List.mem_append_right _ (List.mem_map.mpr ⟨x, hx, rfl⟩))))
    have e : x.1 + (x.2 - x.1) = x.2 := by grind
    rw [e] at h2
    exact ⟨(qll_ h1).mono (by decide), (qll_ h2).mono (by decide)⟩

/-! ### the drawn plan -/
theorem qhx_ {M M' : Mm} {p : Addr} (h : Scr K M p) (s : L4.Sub M M') : Scr K M' p := by
  obtain ⟨ns, l, e | e⟩ := h
  · exact ⟨ns, l, .inl (s _ _ e)⟩
  · exact ⟨ns, l, .inr e⟩
theorem qtq_ {P : D → Prop} {x y : D} (b : Bool) (h0 : P x) (h1 : P y) : RIx (.lst [x, y]) (.int (if b = true then 1 else 0)) P := by
  cases b
  · exact h0
  · exact h1
theorem qer_ {M M' : Mm} {q : Addr} {o : MO} (s : L4.Sub M M') (h : M' q = none) : L4.Sub M (mset M' q o) := s.mset (by
  cases e : M q with
  | none => rfl
  | some u => rw [s _ _ e] at h; cases h)
theorem qo4_ {P : D → Prop} {t : Nat} (ht : t ≤ 3) (h : ∀ m : Nat, m ≤ 8 → (t = 2 → m ≤ 6) → (t = 3 → m ≤ 3) → P (.int m)) : RIx (.lst [.int 8, .int 8, .int 6, .int 3]) (.int t) P := by
  have : t = 0 ∨ t = 1 ∨ t = 2 ∨ t = 3 := by omega
  rcases this with rfl | rfl | rfl | rfl
  · exact h 8 (by decide) (by decide) (by decide)
  · exact h 8 (by decide) (by decide) (by decide)
  · exact h 6 (by decide) (by decide) (by decide)
  · exact h 3 (by decide) (by decide) (by decide)
theorem drb {a r : Rat} (sa : SmN 40 7 a) (sr : SmN 4 2 r) (r0 : 0 ≤ r) : DrB (a, a + r) := by
  refine ⟨sa, ?_, by show a ≤ a + r; grind⟩
  have e : (a + r) - a = r := by grind
  show SmN 40 7 ((a + r) - a)
  rw [e]
  exact ⟨sr.1.mono (by decide), sr.2.mono (by decide)⟩
abbrev qon_ (P : Program) (w : World) (K : PySem.W.Frag) (mg : Str → Option Value) (base : Heap) : Prop := Has P w K mg base CX0 2 "_law_state" ["script", "k"] (spMk K (Scr K) qn4_ (q9_ 100000000))

def quq_ : List D → (D → Prop) → Prop := fun ds P => ds = [] ∧ ∀ (S T : List (Rat × Rat)) (Z : List ZR), DrW S T Z → P (qeu_ S T Z)
abbrev qc9_ : Stmt := top 48
theorem sc_law_plan : FnScope ["script", "first", "shims", "wide", "many", "most", "asked", "sizes", "bounds", "demands", "k", "state", "a", "b"] ["script"] (qd_ qc9_) := ⟨rfl, rfl, rfl, by decide +kernel, rfl, by decide +kernel, by decide +kernel⟩
theorem h__law_plan (B : Bl mg) (F : Def K mg "_law_plan" qc9_ ["script"]) (F__law_cell : qui_ P w K mg base) (F__law_bounds : Has P w K mg base CX0 3 "_law_bounds" ["state"] (spP K q9_ 5 qmc_)) (F__law_state : qon_ P w K mg base) (F__law_weight : Has P w K mg base CX0 2 "_law_weight" ["state", "wide"] (spP K q9_ 3 gWtW)) (F__law_some : qqw_ P w K mg base) : Has P w K mg base CX0 4 "_law_plan" ["script"] (spD K (Scr K) quq_) := by
  refine F.hasD sc_law_plan (fun ds P h => by obtain ⟨rfl, _⟩ := h; rfl) fun f cdv A outer s H E hr => ?_
  have nd := sc_law_plan.nd
  refine ⟨_, (qc_ (qo_ (i := 1) nd rfl (Or.inl rfl) (qc0_ (j_hD 0 F__law_cell (hr.mono (by decide)) rfl (qa_ qe_ qb_)) qe_))
    (qc_ (qo_ (i := 2) nd rfl (Or.inl rfl) (j_at (j_fz (qbn_ (qa_ qe_ (qa_ qe_ (qa_ qe_ (qa_ qe_ (qa_ qe_ (qa_ qe_ (qa_ qe_ (qa_ qe_ qb_)))))))))) (qfb_ (qc0_ (jv 1) qe_) qe_)))
    (qc_ (qi4_ (qo_ (i := 3) nd rfl (Or.inr rfl) (qn3_ (j_gt (jv 2) qe_) (qpa_ (j_eq hr (qfb_ (qc0_ (jv 1) qe_) qe_) qe_)))))
    (qc_ (qi4_ (qo_ (i := 4) nd rfl (Or.inl rfl) (j_at (j_fz (qbn_ (qa_ (qds_ qe_ (qfb_ (jv 1) qe_)) (qa_ qe_ qb_)))) (qoy_ rfl B.int (qa_ (qn3_ (j_eq hr (qfb_ (qc0_ (jv 1) qe_) qe_) qe_) (qn3_ (j_lt (jv 2) qe_) (qpa_ (qpf_ (jv 3))))) qb_)))))
    (qc_ (qo_ (i := 5) nd rfl (Or.inl rfl) (j_at (j_fz (qbn_ (qa_ qe_ (qa_ qe_ (qa_ qe_ (qa_ qe_ qb_)))))) (jv 2)))
    (qc_ (qo_ (i := 6) nd rfl (Or.inl rfl) (qhq_ (jv 5) (qfb_ (qc0_ (jv 1) qe_) (qds_ qe_ (jv 5)))))
    (qc_ (qi4_ (qb9_ (jt (jv 3)) (qg_ (qo_ (i := 6) nd rfl (Or.inl rfl) (j_at (j_fz (qbn_ (qa_ (qds_ qe_ (qfb_ (qc0_ (jv 1) qe_) qe_)) (qa_ (qds_ qe_ (qfb_ (qc0_ (jv 1) qe_) qe_)) qb_)))) (qhq_ (jv 2) qe_)))) qv_))
    (qc_ (qb8_ (k := 7) nd rfl (Or.inl rfl) ["k", "script"] [none, some 0] ⟨rfl, by decide +kernel, by decide +kernel, rfl, rfl, qbb_ rfl⟩ rfl (qex_ rfl B.range (qa_ (jv 4) qb_)) (fun _ _ _ _ _ => (qj_ (i := 0) (show List.Nodup [("k" : Str), ("script" : Str)] by decide +kernel) rfl (Or.inl rfl))) (fun _ _ _ _ _ => qb0_) (fun _ _ _ _ _ => (qps_ 1 F__law_state F__law_bounds (hr.mono (by decide)) (hr.mono (by decide)) rfl rfl (qa_ (qds_ qe_ (jv 0)) qb_) qb_)))
    (qc_ (qb8_ (k := 8) nd rfl (Or.inl rfl) ["k", "script"] [none, some 0] ⟨rfl, by decide +kernel, by decide +kernel, rfl, rfl, qbb_ rfl⟩ rfl (qex_ rfl B.range (qa_ (jv 2) qb_)) (fun _ _ _ _ _ => (qj_ (i := 0) (show List.Nodup [("k" : Str), ("script" : Str)] by decide +kernel) rfl (Or.inl rfl))) (fun _ _ _ _ _ => qb0_) (fun _ _ _ _ _ => (qps_ 1 F__law_state F__law_bounds (hr.mono (by decide)) (hr.mono (by decide)) rfl rfl (qa_ (qds_ qe_ (jv 0)) qb_) qb_)))
    (qc_ (qib_ (i := 9) nd rfl (Or.inl rfl) (qbn_ qb_))
    (qc_ (qbv_ PassesOwn.never rfl (qex_ rfl B.range (qa_ (jv 6) qb_)) (qj_ (i := 10) nd rfl (Or.inl rfl))
    (qc_ (qwf_ (i := 11) 0 F__law_state (hr.mono (by decide)) rfl nd rfl (Or.inr rfl) (qa_ (qds_ qe_ (jv 10)) qb_))
    (qc_ (qb8_ (k := 12) nd rfl (Or.inl rfl) ["size", "state", "wide"] [none, some 11, some 3] ⟨rfl, by decide +kernel, by decide +kernel, rfl, rfl, qbb_ rfl⟩ rfl (qu_ (jv 7)) (fun _ _ _ _ _ => (qj_ (i := 0) (show List.Nodup [("size" : Str), ("state" : Str), ("wide" : Str)] by decide +kernel) rfl (Or.inl rfl))) (fun _ _ _ _ _ => qb0_) (fun _ _ _ _ _ => (j_hP 1 F__law_weight (hr.mono (by decide)) rfl (qa_ (jv 2) qb_))))
    (qc_ (qb8_ (k := 13) nd rfl (Or.inl rfl) ["shim", "state", "wide"] [none, some 11, some 3] ⟨rfl, by decide +kernel, by decide +kernel, rfl, rfl, qbb_ rfl⟩ rfl (qu_ (jv 8)) (fun _ _ _ _ _ => (qj_ (i := 0) (show List.Nodup [("shim" : Str), ("state" : Str), ("wide" : Str)] by decide +kernel) rfl (Or.inl rfl))) (fun _ _ _ _ _ => qb0_) (fun _ _ _ _ _ => (j_hP 1 F__law_weight (hr.mono (by decide)) rfl (qa_ (jv 2) qb_))))
    (qg_ (qh2_ 9 (qbl_ (qa_ (jv 12) (qa_ (jv 13) (qa_ (j_hP 11 F__law_some (hr.mono (by decide)) rfl qb_) qb_))))))))))
    (qg_ (qr_ (qbl_ (qa_ (jv 7) (qa_ (jv 8) (qa_ (jv 9) qb_))))))))))))))))), ?_⟩
  rintro p ds M Q hN ⟨rfl, q⟩
  refine ⟨hN, 0, rfl, by decide, by decide, fun c0 => ⟨⟨by decide, smM⟩, ?_⟩⟩
  have fm : ∀ (x m : Int), 0 < m → 0 ≤ x.fmod m ∧ x.fmod m < m := fun x m h => by
    rw [Int.fmod_eq_emod_of_nonneg _ (by omega)]; exact ⟨Int.emod_nonneg _ (by omega), Int.emod_lt_of_pos _ h⟩
  refine ⟨by show 8 ≤ sizeLine; decide, ⟨by decide, smM⟩, (by decide : (8 : Int) ≠ 0), RIx.lst (fm _ 8 (by decide)).1 (fm _ 8 (by decide)).2 fun d hd => ?_⟩
  obtain ⟨t, rfl, t3⟩ : ∃ t : Nat, d = .int t ∧ t ≤ 3 := by
    simp only [List.mem_cons, List.not_mem_nil, or_false] at hd
    rcases hd with rfl | rfl | rfl | rfl | rfl | rfl | rfl | rfl
    · exact ⟨1, rfl, by decide⟩
    · exact ⟨0, rfl, by decide⟩
    · exact ⟨2, rfl, by decide⟩
    · exact ⟨2, rfl, by decide⟩
    · exact ⟨3, rfl, by decide⟩
    · exact ⟨3, rfl, by decide⟩
    · exact ⟨2, rfl, by decide⟩
    · exact ⟨1, rfl, by decide⟩
  refine ⟨fun ρ M' => M' = M ∧ ∃ wd : Bool, (wd = true → 2 ≤ t) ∧ ρ = [.rf p, .sh (.int (c0.fdiv 2)), .sh (.int t), .sh (.bl wd), .un, .un, .un, .un, .un, .un, .un, .un, .un, .un], ?_, ?_⟩
  · show if decide ((1 : Int) < (t : Int)) = true then _ else _
    refine iteB (fun c => ?_) (fun c => ⟨rfl, false, (fun e => by cases e), rfl⟩)
    have c : (1 : Int) < t := by simpa using c
    exact ⟨⟨by decide, smM⟩, (by decide : (8 : Int) ≠ 0), by show 0 ≤ 60; decide, rfl, _, fun _ => by omega, rfl⟩
  rintro ρ M' ⟨rfl, wd, hwd, rfl⟩
  refine ⟨fun ρ M1 => M1 = M' ∧ ∃ n : Nat, 1 ≤ n ∧ n ≤ 6 ∧ ρ = [.rf p, .sh (.int (c0.fdiv 2)), .sh (.int t), .sh (.bl wd), .sh (.int n), .un, .un, .un, .un, .un, .un, .un, .un, .un], ?_, ?_⟩
  · have x0 := fm (c0.fdiv 2) 3 (by decide)
    refine ⟨(by decide : (3 : Int) ≠ 0), by show 2 ≤ sizeLine; decide, ⟨by decide, smM⟩, (by decide : (8 : Int) ≠ 0), by show 0 ≤ 60; decide, ?_⟩
    show if peq _ _ = true then _ else _
    have e1 : ((1 + (c0.fdiv 2).fmod 3).toNat : Int) = 1 + (c0.fdiv 2).fmod 3 := Int.toNat_of_nonneg (by omega)
    refine iteB (fun c => ?_) (fun c => ?_)
    · show if decide _ = true then _ else _
      refine iteB (fun c => ?_) (fun c => ?_)
      · refine qtq_ (!wd) ?_ ?_
        · exact ⟨rfl, (1 + (c0.fdiv 2).fmod 3).toNat, by omega, by omega, by rw [e1]; rfl⟩
        · exact ⟨rfl, 6, by decide, by decide, rfl⟩
      · exact ⟨rfl, (1 + (c0.fdiv 2).fmod 3).toNat, by omega, by omega, by rw [e1]; rfl⟩
    · exact ⟨rfl, (1 + (c0.fdiv 2).fmod 3).toNat, by omega, by omega, by rw [e1]; rfl⟩
  rintro ρ M1 ⟨rfl, n, n1, n6, rfl⟩
  refine ⟨by show 4 ≤ sizeLine; decide, qo4_ t3 fun m m8 m2 m3 => ?_⟩
  have x1 := fm ((c0.fdiv 2).fdiv 192) (1 + m) (by omega)
  refine ⟨⟨by decide, smM⟩, (by omega : (1 + (m : Int)) ≠ 0), ?_⟩
  refine ⟨fun ρ M2 => M2 = M1 ∧ ∃ g : Int, 0 ≤ g ∧ g ≤ 10 ∧ (t ≤ 1 → g ≤ 8) ∧ (t = 3 → g ≤ 5) ∧ ρ = [.rf p, .sh (.int (c0.fdiv 2)), .sh (.int t), .sh (.bl wd), .sh (.int n), .sh (.int m), .sh (.int g), .un, .un, .un, .un, .un, .un, .un], ?_, ?_⟩
  · cases wd with
    | false => exact ⟨rfl, _, by omega, by omega, fun _ => by omega, fun e => by have := m3 e; omega, rfl⟩
    | true =>
      have t2 := hwd rfl
      have y1 := fm ((c0.fdiv 2).fdiv 13824) 4 (by decide)
      have y2 := fm ((c0.fdiv 2).fdiv 13824) 2 (by decide)
      refine ⟨⟨by decide, smM⟩, (by decide : (4 : Int) ≠ 0), ⟨by decide, smM⟩, (by decide : (2 : Int) ≠ 0), by show 2 ≤ sizeLine; decide, ?_⟩
      have : t = 2 ∨ t = 3 := by omega
      rcases this with rfl | rfl
      · exact ⟨rfl, _, by omega, by omega, fun e => by omega, fun e => by omega, rfl⟩
      · exact ⟨rfl, _, by omega, by omega, fun e => by omega, fun e => by omega, rfl⟩
  rintro ρ M' ⟨rfl, g, g0, g10, g1, g3, rfl⟩
  refine ⟨⟨by omega, by omega⟩, fun i out ρ M2 => L4.Sub M' M2 ∧ ∃ (L : List (Rat × Rat)) (o : Ent), ρ = [o, .rf p] ∧ out = L.map bQ ∧ L.length = i ∧ ∀ x ∈ L, DrB x, ⟨Sub.refl _, [], _, rfl, rfl, rfl, by simp⟩, ?_, ?_⟩
  · rintro i d out ρ M2 hd ⟨sb, L, o, rfl, rfl, lL, bL⟩
    obtain ⟨rfl, hi⟩ := qeq_ hd
    have hi : i < n := by omega
    refine ⟨qhx_ hN sb, ⟨_, rfl, by omega, by omega⟩, fun q1 hq1 => ⟨qf_, by decide, rfl, fun a r sa sr r0 => ⟨by rw [List.length_map]; exact qn_ (by omega), ?_, L ++ [(a, a + r)], _, rfl, by rw [List.map_append]; rfl, by rw [List.length_append, lL]; rfl, qcf_ bL (drb sa sr r0)⟩⟩⟩
    rw [qp_]
    exact qer_ sb hq1
  rintro out ρ M2 ⟨sb, S, o, rfl, rfl, lS, bS⟩
  have lS : S.length = n := by rw [lS, qgq_]; omega
  -- the shims' bounds
  refine ⟨⟨by omega, by omega⟩, fun i out ρ M3 => L4.Sub M' M3 ∧ ∃ (L : List (Rat × Rat)) (o : Ent), ρ = [o, .rf p] ∧ out = L.map bQ ∧ L.length = i ∧ ∀ x ∈ L, DrB x, ⟨sb, [], _, rfl, rfl, rfl, by simp⟩, ?_, ?_⟩
  · rintro i d out ρ M3 hd ⟨sb, L, o, rfl, rfl, lL, bL⟩
    obtain ⟨rfl, hi⟩ := qeq_ hd
    have hi : i < t := by omega
    refine ⟨qhx_ hN sb, ⟨_, rfl, by omega, by omega⟩, fun q1 hq1 => ⟨qf_, by decide, rfl, fun a r sa sr r0 => ⟨by rw [List.length_map]; exact qn_ (by omega), ?_, L ++ [(a, a + r)], _, rfl, by rw [List.map_append]; rfl, by rw [List.length_append, lL]; rfl, qcf_ bL (drb sa sr r0)⟩⟩⟩
    rw [qp_]
    exact qer_ sb hq1
  rintro out ρ M3 ⟨sb3, T, o, rfl, rfl, lT, bT⟩
  have lT : T.length = t := by rw [lT, qgq_]; omega
  clear o sb
  refine ⟨by show 0 ≤ sizeLine; decide, ⟨by omega, by omega⟩, ?_⟩
  refine ⟨fun i ρ M4 => L4.Sub M' M4 ∧ ∃ (Z : List ZR) (o8 o9 o10 o11 : Ent), ρ = [.rf p, .sh (.int (c0.fdiv 2)), .sh (.int t), .sh (.bl wd), .sh (.int n), .sh (.int m), .sh (.int g), .sh (.lst (S.map bQ)), .sh (.lst (T.map bQ)), .ow (Z.map zQ), o8, o9, o10, o11] ∧ Z.length = i ∧ ∀ z ∈ Z, DrZ S.length T.length z, ⟨sb3, [], _, _, _, _, rfl, rfl, by simp⟩, ?_, ?_⟩
  · rintro i d ρ M4 hd ⟨sb4, Z, o8, o9, o10, o11, rfl, lZ, bZ⟩
    obtain ⟨rfl, hi⟩ := qeq_ hd
    have hi : i < 10 := by omega
    refine ⟨qhx_ hN sb4, ⟨_, rfl, by omega, by omega⟩, fun q1 hq1 => ?_⟩
    have nq : M' q1 = none := by
      cases e : M' q1 with
      | none => rfl
      | some u => rw [sb4 _ _ e] at hq1; cases hq1
    -- the weights of the sizes
    refine ⟨fun j out ρ M5 => (∃ b, 99999000 - 3 * (j : Int) ≤ b ∧ M5 = mset M4 q1 (.op (q9_ b))) ∧ ∃ (A : List Rat) (o : Ent), ρ = [o, .rf q1, .sh (.bl wd)] ∧ out = A.map frD ∧ A.length = j ∧ ∀ x ∈ A, Wh 60 12 x, ⟨⟨_, by omega, rfl⟩, [], _, rfl, rfl, rfl, by simp⟩, ?_, ?_⟩
    · rintro j d out ρ M5 hd ⟨⟨b, hb, rfl⟩, A, o, rfl, rfl, lA, wA⟩
      have hj := (List.getElem?_eq_some_iff.mp hd).1
      rw [List.length_map] at hj
      exact ⟨b, qf_, by omega, wd, rfl, fun x wx => ⟨by rw [List.length_map]; exact qn_ (by omega), ⟨b - 3, by omega, by rw [qp_]⟩, A ++ [x], _, rfl, by rw [List.map_append]; rfl, by rw [List.length_append, lA]; rfl, qcf_ wA wx⟩⟩
    rintro out ρ M5 ⟨⟨b, hb, rfl⟩, A, o, rfl, rfl, lA, wA⟩
    rw [List.length_map] at lA hb
    -- the weights of the shims
    refine ⟨fun j out ρ M5 => (∃ b, 99998000 - 3 * (j : Int) ≤ b ∧ M5 = mset M4 q1 (.op (q9_ b))) ∧ ∃ (A : List Rat) (o : Ent), ρ = [o, .rf q1, .sh (.bl wd)] ∧ out = A.map frD ∧ A.length = j ∧ ∀ x ∈ A, Wh 60 12 x, ⟨⟨_, by omega, rfl⟩, [], _, rfl, rfl, rfl, by simp⟩, ?_, ?_⟩
    · rintro j d out ρ M5 hd ⟨⟨b, hb, rfl⟩, A, o, rfl, rfl, lA, wA⟩
      have hj := (List.getElem?_eq_some_iff.mp hd).1
      rw [List.length_map] at hj
      exact ⟨b, qf_, by omega, wd, rfl, fun x wx => ⟨by rw [List.length_map]; exact qn_ (by omega), ⟨b - 3, by omega, by rw [qp_]⟩, A ++ [x], _, rfl, by rw [List.map_append]; rfl, by rw [List.length_append, lA]; rfl, qcf_ wA wx⟩⟩
    rintro out ρ M5 ⟨⟨b2, hb2, rfl⟩, C, o2, rfl, rfl, lC, wC⟩
    rw [List.length_map] at lC hb2
    refine ⟨trivial, b2, qf_, by omega, rfl, fun c sc => ⟨by show 3 ≤ sizeLine; decide, by rw [List.length_map]; exact qn_ (by omega), ?_, Z ++ [(A, C, c)], _, _, _, _, by rw [List.map_append]; rfl, by rw [List.length_append, lZ]; rfl, qcf_ bZ ⟨lA, lC, wA, wC, sc⟩⟩⟩
    rw [qp_]
    exact qer_ sb4 hq1
  · rintro ρ M4 ⟨sb4, Z, o8, o9, o10, o11, rfl, lZ, bZ⟩
    rw [qgq_] at lZ
    exact ⟨by show 3 ≤ sizeLine; decide, sb4, q S T Z ⟨by omega, by omega, by omega, ⟨by omega, fun e => by have := g1 (by omega); omega, fun e => by have := g3 (by omega); omega⟩, bS, bT, bZ⟩⟩

/-! ### what is told, by its meaning: for plans changed -/
def qig_ (S T : List (Rat × Rat)) (Z : List ZR) (M : List Rat) : Option (List Rat) := if qjw_ S T Z M = true then none else some (chQ S T Z M T.length)
/-! ### a made set drawn; what a rule tells of it -/
structure MdOk (S : List (Rat × Rat)) (M X : List Rat) : Prop where
  m : M.length = S.length
  x : X.length ≤ S.length
  s : ∀ q ∈ X, SmN 40 7 q
  w : ∀ (E n : Nat), (∀ x ∈ S, Wh E n x.1 ∧ Wh E n (x.2 - x.1)) → (∀ q ∈ X, Wh E n q) → ∀ q ∈ M, Wh (8 * E) (n + 6) q
def qub_ : List D → (D → Prop) → Prop := fun ds P => ∃ (S T : List (Rat × Rat)) (Z : List ZR), ds = [qeu_ S T Z] ∧ S.length ≤ 6 ∧ (∀ x ∈ S, DrB x) ∧ ∀ M X, MdOk S M X → P (frL M)
theorem qsq_ {x : Rat × Rat} (h : DrB x) : SmR 81 x.2 := by
  have := qh6_ (h.1.smr (by decide)) (h.2.1.smr (by decide))
  have e : x.1 + (x.2 - x.1) = x.2 := by grind
  rwa [e] at this
theorem qc5_ {α : Type} {S : List α} {i : Nat} {x : α} (h : S[i]? = some x) : S.take (i + 1) = S.take i ++ [x] := by rw [List.take_add_one, h]; rfl
theorem qkl_ {E n : Nat} {lo di : Rat} {k : Int} (h0 : 0 ≤ k) (h9 : k < 9) (h1 : Wh E n lo) (h2 : Wh E n di) : Wh (8 * E) (n + 5) (lo + Rat.divInt k 8 * di) := by
  have a := (h1.up 8 (by decide) (show Sm 4 ((8 : Nat) : Int) by unfold Sm; decide)).mono (b := n + 4) (by omega)
  rw [Nat.mul_comm] at a
  have b := (Wh.mul (D := 8) (n := 4) (q := Rat.divInt k 8) ⟨k, rfl, by unfold Sm; omega⟩ h2).mono (b := n + 4) (by omega)
  exact a.add b
theorem qqo_ {S : List (Rat × Rat)} {V X : List Rat} {i : Nat} {x : Rat × Rat} {k : Int} (ok : MdOk (S.take i) V X) (hx : S[i]? = some x) (h0 : 0 ≤ k) (h9 : k < 9) : MdOk (S.take (i + 1)) (V ++ [x.1 + Rat.divInt k 8 * (x.2 + -x.1)]) X := by
  rw [qc5_ hx]
  refine ⟨by rw [List.length_append, List.length_append, ok.m]; rfl, by rw [List.length_append]; have := ok.x; omega, ok.s, fun E n hS hX q hq => ?_⟩
  rcases List.mem_append.mp hq with hq | hq
  · exact ok.w E n (fun y hy => hS y (List.mem_append_left _ hy)) hX q hq
  · rw [List.mem_singleton.mp hq, ← Rat.sub_eq_add_neg]
    obtain ⟨a, b⟩ := hS x (List.mem_append_right _ (.head _))
    exact (qkl_ h0 h9 a b).mono (by omega)
theorem qn0_ {S : List (Rat × Rat)} {V X : List Rat} {i : Nat} {x : Rat × Rat} {k : Int} {u : Rat} (ok : MdOk (S.take i) V X) (hx : S[i]? = some x) (h0 : 0 ≤ k) (h9 : k < 9) (su : SmN 40 7 u) : MdOk (S.take (i + 1)) (V ++ [x.1 + Rat.divInt k 8 * (x.2 + -x.1) + u]) (X ++ [u]) := by
  rw [qc5_ hx]
  refine ⟨by rw [List.length_append, List.length_append, ok.m]; rfl, by rw [List.length_append, List.length_append]; have := ok.x; exact Nat.add_le_add this (Nat.le_refl _), qcf_ ok.s su, fun E n hS hX q hq => ?_⟩
  rcases List.mem_append.mp hq with hq | hq
  · exact ok.w E n (fun y hy => hS y (List.mem_append_left _ hy)) (fun y hy => hX y (List.mem_append_left _ hy)) q hq
  · rw [List.mem_singleton.mp hq, ← Rat.sub_eq_add_neg]
    obtain ⟨a, b⟩ := hS x (List.mem_append_right _ (.head _))
    have c := ((hX u (List.mem_append_right _ (.head _))).up 8 (by decide) (show Sm 4 ((8 : Nat) : Int) by unfold Sm; decide)).mono (b := n + 5) (by omega)
    rw [Nat.mul_comm] at c
    exact (qkl_ h0 h9 a b).add c
abbrev qdj_ : Stmt := top 49
theorem sc_law_made : FnScope ["state", "plan", "found", "low", "high", "part", "size"] ["state", "plan"] (qd_ qdj_) := ⟨rfl, rfl, rfl, by decide +kernel, rfl, by decide +kernel, by decide +kernel⟩
theorem h__law_made (B : Bl mg) (F : Def K mg "_law_made" qdj_ ["state", "plan"]) (F__law_take : qm1_ P w K mg base) (F__law_frac : hLF P w K mg base) (F__law_plus : hLP P w K mg base) (F__law_times : hLT P w K mg base) (F__law_some : qqw_ P w K mg base) : Has P w K mg base CX0 3 "_law_made" ["state", "plan"] (spP K q9_ 40 qub_) := by
  refine F.hasB qd1_ sc_law_made (fun ds P h => by obtain ⟨_, _, _, rfl, _⟩ := h; rfl) fun f cdv A outer s H E hr => ?_
  have nd := sc_law_made.nd
  refine ⟨_, (qc_ (qib_ (i := 2) nd rfl (Or.inl rfl) (qbn_ qb_))
    (qc_ (qbv_ PassesOwn.never rfl (qu_ (qm_ 1 qe_)) (qd7_ (n := 2) rfl (qs_ (qj_ (i := 3) nd rfl (Or.inl rfl)) (qs_ (qj_ (i := 4) nd rfl (Or.inl rfl)) qcs_)))
    (qc_ (qo_ (i := 5) nd rfl (Or.inl rfl) (j_h F__law_frac (hr.mono (by decide)) rfl (qa_ (j_hP 0 F__law_take (hr.mono (by decide)) rfl (qa_ qe_ qb_)) (qa_ qe_ qb_))))
    (qc_ (qo_ (i := 6) nd rfl (Or.inl rfl) (j_h F__law_plus (hr.mono (by decide)) rfl (qa_ (jv 3) (qa_ (j_h F__law_times (hr.mono (by decide)) rfl (qa_ (jv 5) (qa_ (j_h F__law_plus (hr.mono (by decide)) rfl (qa_ (jv 4) (qa_ (qbl_ (qa_ (qfe_ (qm_ 3 qe_)) (qa_ (qm_ 3 qe_) qb_))) qb_))) qb_))) qb_))))
    (qc_ (qb9_ (qmn_ hr (j_hP 0 F__law_take (hr.mono (by decide)) rfl (qa_ qe_ qb_)) qe_) (qg_ (qo_ (i := 6) nd rfl (Or.inl rfl) (j_h F__law_plus (hr.mono (by decide)) rfl (qa_ (jv 6) (qa_ (j_hP 0 F__law_some (hr.mono (by decide)) rfl qb_) qb_))))) qv_)
    (qg_ (qh2_ 2 (jv 6)))))))
    (qg_ (qr_ (jv 2))))), ?_⟩
  rintro p ds M b Q hp hb ⟨S, T, Z, rfl, lS, bS, q⟩
  refine ⟨by show 0 ≤ sizeLine; decide, fun i ρ M' => (∃ b', b - 5 * i ≤ b' ∧ M' = mset M p (.op (q9_ b'))) ∧ ∃ (V X : List Rat) (o3 o4 o5 o6 : Ent), ρ = [.rf p, .sh (qeu_ S T Z), .ow (V.map frD), o3, o4, o5, o6] ∧ MdOk (S.take i) V X, ⟨⟨b, by omega, by rw [qmf_ hp]⟩, [], [], _, _, _, _, rfl, ⟨rfl, Nat.zero_le _, by simp, fun _ _ _ _ => by simp⟩⟩, ?_, ?_⟩
  · rintro i d ρ M' hd ⟨⟨b', hb', rfl⟩, V, X, o3, o4, o5, o6, rfl, ok⟩
    obtain ⟨x, hx, rfl⟩ := q0_ hd
    have hi := (List.getElem?_eq_some_iff.mp hx).1
    have bx := bS x (List.mem_of_getElem? hx)
    have slo := bx.1.smr (by decide)
    have shi := qsq_ bx
    have lV : V.length = i := by rw [ok.m, List.length_take]; omega
    refine ⟨rfl, b', qf_, by omega, 9, rfl, by decide, smM, fun k k0 k9 => ⟨_, _, rfl, by decide, smM, by show 2 ≤ sizeLine; decide, x.2, -x.1, rfl, Mx.of shi (qe0_ slo), ?_⟩⟩
    have k9 : k < 9 := k9
    have sp : SmR 4 (Rat.divInt k 8) := qk6_ (by decide) (by unfold Sm; omega) (by unfold Sm; decide)
    have sd := qh6_ shi (qe0_ slo)
    have st := qez_ sp sd
    have sv := qh6_ slo st
    refine ⟨_, _, rfl, Mx.of sp sd, x.1, _, rfl, Mx.of slo st, ?_⟩
    refine ⟨b' - 1, qf_, by omega, 12, rfl, by decide, smM, fun r r0 r12 => ⟨by show 0 ≤ 60; decide, ?_⟩⟩
    show if peq _ _ = true then _ else _
    refine iteB (fun c => ?_) (fun c => ?_)
    · exact ⟨b' - 1 - 1, qf_, by omega, rfl, fun u su => ⟨_, _, rfl, Mx.of sv (su.smr (by decide)), trivial, by rw [List.length_map, lV]; exact qn_ (by omega), ⟨b' - 1 - 1 - 3, by omega, by simp only [qp_]⟩, V ++ [_], X ++ [u], _, _, _, _, by rw [List.map_append]; rfl, qn0_ ok hx k0 k9 su⟩⟩
    · exact ⟨trivial, by rw [List.length_map, lV]; exact qn_ (by omega), ⟨b' - 1 - 1, by omega, by simp only [qp_]⟩, V ++ [_], X, _, _, _, _, by rw [List.map_append]; rfl, qqo_ ok hx k0 k9⟩
  · rintro ρ M' ⟨⟨b', hb', rfl⟩, V, X, o3, o4, o5, o6, rfl, ok⟩
    rw [List.length_map] at hb' ok
    rw [List.take_length] at ok
    exact ⟨⟨b', by omega, Sub.refl _⟩, q V X ok⟩
theorem qtr_ {S : List (Rat × Rat)} {M X Y : List Rat} (hS : ∀ x ∈ S, DrB x) (lS : S.length ≤ 6) (ok : MdOk S M X) (hY : ∀ q ∈ Y, SmN 40 7 q) (lY : Y.length ≤ 6) : ∃ E : Nat, E ≠ 0 ∧ Sm 300 (E : Int) ∧ (∀ x ∈ M, Wh E 220 x) ∧ ∀ q ∈ Y, Wh E 220 q := by
  obtain ⟨D, d0, sD, w⟩ := qgs_ (n := 40) (d := 7) (S.map (fun x => x.1) ++ (S.map (fun x => x.2 - x.1) ++ (X ++ Y))) (fun q hq => by
    rcases List.mem_append.mp hq with hq | hq
    · obtain ⟨x, hx, rfl⟩ := List.mem_map.mp hq
      exact (hS x hx).1
    rcases List.mem_append.mp hq with hq | hq
    · obtain ⟨x, hx, rfl⟩ := List.mem_map.mp hq
      exact (hS x hx).2.1
    rcases List.mem_append.mp hq with hq | hq
    · exact ok.s q hq
    · exact hY q hq)
  have l : (S.map (fun x => x.1) ++ (S.map (fun x => x.2 - x.1) ++ (X ++ Y))).length ≤ 24 := by
    have := ok.x
    simp only [List.length_append, List.length_map]; omega
  generalize (S.map (fun x => x.1) ++ (S.map (fun x => x.2 - x.1) ++ (X ++ Y))).length = m at l sD w
  have w' : ∀ q ∈ S.map (fun x => x.1) ++ (S.map (fun x => x.2 - x.1) ++ (X ++ Y)), Wh D 210 q := fun q hq => (w q hq).mono (by omega)
  have s8 : Sm 4 ((8 : Nat) : Int) := by unfold Sm; decide
  refine ⟨8 * D, Nat.mul_ne_zero (by decide) d0, ?_, fun x hx => ?_, fun q hq => ?_⟩
  · rw [Int.natCast_mul]
    exact (s8.mul sD).mono (by omega)
  · exact (ok.w D 210 (fun x hx => ⟨w' _ (List.mem_append_left _ (List.mem_map.mpr ⟨x, hx, rfl⟩)), w' _ (List.mem_append_right _ (List.mem_append_left _ (List.mem_map.mpr ⟨x, hx, rfl⟩)))⟩) (fun q hq => w' _ (List.mem_append_right _ (List.mem_append_right _ (List.mem_append_left _ hq)))) x hx).mono (by decide)
  · rw [Nat.mul_comm]
    exact ((w' _ (List.mem_append_right _ (List.mem_append_right _ (List.mem_append_right _ hq)))).up 8 (by decide) s8).mono (by decide)
structure Exs (K : PySem.W.Frag) (mg : Str → Option Value) : Prop where
  ShimError : ExC K mg "ShimError"
  NoNumber : ExC K mg "NoNumber"
  NoChoice : ExC K mg "NoChoice"
  NoName : ExC K mg "NoName"
  NoRow : ExC K mg "NoRow"
  NoText : ExC K mg "NoText"
  TooMany : ExC K mg "TooMany"
  s_NoChoice_ShimError : PySem.W.subIn K (.ref (cOf mg "NoChoice")) (.ref (cOf mg "ShimError")) = some true
  s_NoChoice_NoNumber : PySem.W.subIn K (.ref (cOf mg "NoChoice")) (.ref (cOf mg "NoNumber")) = some false
  s_NoChoice_NoChoice : PySem.W.subIn K (.ref (cOf mg "NoChoice")) (.ref (cOf mg "NoChoice")) = some true
  s_NoChoice_NoName : PySem.W.subIn K (.ref (cOf mg "NoChoice")) (.ref (cOf mg "NoName")) = some false
  s_NoChoice_NoRow : PySem.W.subIn K (.ref (cOf mg "NoChoice")) (.ref (cOf mg "NoRow")) = some false
  s_NoChoice_NoText : PySem.W.subIn K (.ref (cOf mg "NoChoice")) (.ref (cOf mg "NoText")) = some false
  s_NoChoice_TooMany : PySem.W.subIn K (.ref (cOf mg "NoChoice")) (.ref (cOf mg "TooMany")) = some false
  s_NoChoice_ValueError : PySem.W.subIn K (.ref (cOf mg "NoChoice")) (.type "ValueError") = some true
theorem Exs.m_NoChoice {K : PySem.W.Frag} {mg : Str → Option Value} (Z : Exs K mg) : PySem.W.exmOne K (.ref (cOf mg "NoChoice")) (.ref (cOf mg "ShimError")) = some true := qp2_ Z.ShimError.c Z.s_NoChoice_ShimError
theorem Exs.v_NoChoice {K : PySem.W.Frag} {mg : Str → Option Value} (Z : Exs K mg) : PySem.W.kitOne K (.ref (cOf mg "NoChoice")) (.type "ValueError") = some true := qs0_ (by decide +kernel) Z.s_NoChoice_ValueError
theorem Exs.k_NoChoice_NoNumber {K : PySem.W.Frag} {mg : Str → Option Value} (Z : Exs K mg) : PySem.W.kitOne K (.ref (cOf mg "NoChoice")) (.ref (cOf mg "NoNumber")) = some false := qec_ Z.NoNumber.c Z.s_NoChoice_NoChoice Z.s_NoChoice_NoNumber
theorem Exs.k_NoChoice_NoChoice {K : PySem.W.Frag} {mg : Str → Option Value} (Z : Exs K mg) : PySem.W.kitOne K (.ref (cOf mg "NoChoice")) (.ref (cOf mg "NoChoice")) = some true := qec_ Z.NoChoice.c Z.s_NoChoice_NoChoice Z.s_NoChoice_NoChoice
theorem Exs.k_NoChoice_NoName {K : PySem.W.Frag} {mg : Str → Option Value} (Z : Exs K mg) : PySem.W.kitOne K (.ref (cOf mg "NoChoice")) (.ref (cOf mg "NoName")) = some false := qec_ Z.NoName.c Z.s_NoChoice_NoChoice Z.s_NoChoice_NoName
theorem Exs.k_NoChoice_NoRow {K : PySem.W.Frag} {mg : Str → Option Value} (Z : Exs K mg) : PySem.W.kitOne K (.ref (cOf mg "NoChoice")) (.ref (cOf mg "NoRow")) = some false := qec_ Z.NoRow.c Z.s_NoChoice_NoChoice Z.s_NoChoice_NoRow
theorem Exs.k_NoChoice_NoText {K : PySem.W.Frag} {mg : Str → Option Value} (Z : Exs K mg) : PySem.W.kitOne K (.ref (cOf mg "NoChoice")) (.ref (cOf mg "NoText")) = some false := qec_ Z.NoText.c Z.s_NoChoice_NoChoice Z.s_NoChoice_NoText
theorem Exs.k_NoChoice_TooMany {K : PySem.W.Frag} {mg : Str → Option Value} (Z : Exs K mg) : PySem.W.kitOne K (.ref (cOf mg "NoChoice")) (.ref (cOf mg "TooMany")) = some false := qec_ Z.TooMany.c Z.s_NoChoice_NoChoice Z.s_NoChoice_TooMany

/-! ### k20: what is told, as a new list, or refused -/
def oD : Option (List Rat) → D
  | none => .non
  | some c => frL c
def qsc_ : List D → (D → Prop) → Prop := fun ds P => ∃ (S T : List (Rat × Rat)) (Z : List ZR) (M : List Rat), ds = [qd6_ S T Z, frL M] ∧ ChOk S T Z M ∧ P (oD (qig_ S T Z M))
abbrev qc6_ : Stmt := top 52
theorem sc_law_told : FnScope ["rule", "made", "caught", "found", "e", "others"] ["rule", "made"] (qd_ qc6_) := ⟨rfl, rfl, rfl, by decide +kernel, rfl, by decide +kernel, by decide +kernel⟩
theorem h__law_told (B : Bl mg) (Z : Exs K mg) (F : Def K mg "_law_told" qc6_ ["rule", "made"]) (F_chosen_by : Has P w K mg base (CX1 P w) 7 "chosen_by" ["rule", "made"] (spEN K (cOf mg "NoChoice") gCh)) : Has P w K mg base CX0 8 "_law_told" ["rule", "made"] (spN K qsc_) := by
  have XC_ShimError := Z.ShimError
  have XC_NoNumber := Z.NoNumber
  have XC_NoChoice := Z.NoChoice
  have XC_NoName := Z.NoName
  have XC_NoRow := Z.NoRow
  have XC_NoText := Z.NoText
  have XC_TooMany := Z.TooMany
  have HX := Z.m_NoChoice
  refine F.hasN sc_law_told (fun ds P h => by obtain ⟨_, _, _, _, rfl, _⟩ := h; rfl) fun f cdv A outer s H E hr => ?_
  have nd := sc_law_told.nd
  refine ⟨_, (qc_ (qdr_ (i := 2) nd rfl (Or.inl rfl) (ju_d qic_))
    (qc_ (qdr_ (i := 3) nd rfl (Or.inl rfl) (ju_d qic_))
    (qc_ (qq7_ (i := 3) (j := 4) F_chosen_by (hr.mono (by decide)) rfl nd rfl (Or.inl rfl) rfl rfl rfl XC_ShimError.m HX (fun _ _ => (qa_ (jv 0) (qa_ (jv 1) qb_))) (fun _ => (qg_ (qdr_ (i := 2) nd rfl (Or.inl rfl) (ju_v 4)))))
    (qc_ (qb9_ (qqy_ 2) (qg_ (qdu_ (ju_v 3))) qv_)
    (qc_ (qo_ (i := 5) nd rfl (Or.inl rfl) (j_fz (qbn_ (qa_ (qfk_ 2 rfl B.isinstance rfl XC_NoName.m) (qa_ (qfk_ 2 rfl B.isinstance rfl XC_NoNumber.m) (qa_ (qfk_ 2 rfl B.isinstance rfl XC_NoRow.m) qb_))))))
    (qc_ (qo_ (i := 5) nd rfl (Or.inl rfl) (j_fz (qin_ (jv 5) (j_fz (qbn_ (qa_ (qfk_ 2 rfl B.isinstance rfl XC_NoText.m) (qa_ (qfk_ 2 rfl B.isinstance rfl XC_TooMany.m) (qa_ (qpf_ (qpx_ (T := "ValueError") 2 rfl B.isinstance rfl B.ValueError qe7_)) qb_))))))))
    (qc_ (qb9_ (JW.jt (ql6_ (qu4_ hr j_bl (jv 5)) (qji_ (qfm_ (jt (qfk_ 2 rfl B.isinstance rfl XC_NoChoice.m)))))) (qg_ (qdu_ (ju_d quy_))) qv_)
    (qg_ (qdu_ (ju_d qic_)))))))))), ?_⟩
  rintro ds M0 Q ⟨S, T, Zz, M, rfl, ok, q⟩
  refine ⟨S, T, Zz, M, rfl, ok, ?_⟩
  unfold qig_ at q
  refine iteB (fun c => ?_) (fun c => ?_)
  · rw [if_pos c] at q
    intro p hp
    refine ⟨_, false, qf_, XC_NoChoice.c, Z.k_NoChoice_NoName, _, false, qf_, XC_NoChoice.c, Z.k_NoChoice_NoNumber, _, false, qf_, XC_NoChoice.c, Z.k_NoChoice_NoRow, by show 3 ≤ sizeLine; decide, ?_⟩
    refine ⟨_, false, qf_, XC_NoChoice.c, Z.k_NoChoice_NoText, _, false, qf_, XC_NoChoice.c, Z.k_NoChoice_TooMany, _, true, qf_, XC_NoChoice.c, Z.v_NoChoice, by show 3 ≤ sizeLine; decide, by show 3 + 3 ≤ sizeLine; decide, ?_⟩
    refine ⟨fun e he => ?_, _, true, qf_, XC_NoChoice.c, Z.k_NoChoice_NoChoice, .non, M0, qer_ (Sub.refl _) hp, Fresh.leaf rfl, q⟩
    have he : e ∈ [L3.D.bl false, .bl false, .bl false, .bl false, .bl false, .bl false] := he
    simp only [List.mem_cons, List.not_mem_nil, or_false, or_self] at he
    subst he
    show dep (.bl false) ≤ 50
    decide
  · rw [if_neg (by rw [c]; exact Bool.false_ne_true)] at q
    intro u M2 fr
    exact ⟨_, M2, Sub.refl _, fr, q⟩

/-! ### k20: the law's own reckoning -/
theorem qsn_ {S T : List (Rat × Rat)} {Z : List ZR} {M X : List Rat} (d : DrW S T Z) (ok : MdOk S M X) : ChOk S T Z M := by
  obtain ⟨E, e0, sE, w, _⟩ := qtr_ (Y := []) d.bs d.s6 ok (fun q hq => by cases hq) (by decide)
  exact ⟨ql1_ d, E, e0, sE, fun x hx => (w x hx).mono (by decide)⟩
def qvm_ (x : Rat × Rat) : D := .tup [frD x.1, frD x.2]
theorem qge_ {α β : Type} (f : α → D) (g : β → D) : ∀ (xs : List α) (ys : List β), zipD (xs.map f) (ys.map g) = (xs.zip ys).map fun p => .tup [f p.1, g p.2]
  | [], ys => by simp [zipD]
  | x :: xs, [] => by simp [zipD]
  | x :: xs, y :: ys => by rw [List.map_cons, List.map_cons, zipD, qge_ f g xs ys, List.zip_cons_cons, List.map_cons]
def dotP : List (Rat × Rat) → Rat
  | [] => 0
  | x :: l => x.1 * x.2 + dotP l
theorem qga_ : ∀ (l m : List (Rat × Rat)), dotP (l ++ m) = dotP l + dotP m
  | [], m => by rw [List.nil_append, dotP]; grind
  | x :: l, m => by rw [List.cons_append, dotP, dotP, qga_ l m]; grind
theorem qf5_ : ∀ (a b : List Rat), dotP (a.zip b) = dot a b
  | [], b => by simp [dotP, dot]
  | x :: a, [] => by simp [dotP, dot]
  | x :: a, y :: b => by rw [List.zip_cons_cons, dotP, dot, qf5_ a b]
theorem qlm_ {D n : Nat} : ∀ (l : List (Rat × Rat)), (∀ x ∈ l, Wh D n (x.1 * x.2)) → Wh D (n + l.length) (dotP l)
  | [], _ => qph_ _ _
  | x :: l, h => by
    have a := (h x (.head _)).mono (b := n + l.length) (by omega)
    have b := qlm_ l fun y hy => h y (.tail _ hy)
    exact a.add b
def gLW : List D → (D → Prop) → Prop := fun ds P => ∃ (z : ZR) (M C : List Rat) (D E n m : Nat), ds = [zQ z, frL M, frL C] ∧ DwOk D E n m z M C ∧ z.1.length ≤ 10 ∧ z.2.1.length ≤ 3 ∧ P (frD (q3_ z M C))
abbrev qci_ : Stmt := top 50
theorem sc_law_worth : FnScope ["row", "made", "choice", "found", "one", "other"] ["row", "made", "choice"] (qd_ qci_) := ⟨rfl, rfl, rfl, by decide +kernel, rfl, by decide +kernel, by decide +kernel⟩
theorem h__law_worth (B : Bl mg) (F : Def K mg "_law_worth" qci_ ["row", "made", "choice"]) (F__law_plus : hLP P w K mg base) (F__law_times : hLT P w K mg base) : Has P w K mg base CX0 3 "_law_worth" ["row", "made", "choice"] (spW K (pur gLW)) := by
  refine F.hasP sc_law_worth (fun ds P h => by obtain ⟨_, _, _, _, _, _, _, rfl, _⟩ := h; rfl) fun f cdv A outer s H E hr => ?_
  have nd := sc_law_worth.nd
  refine ⟨_, (qc_ (qo_ (i := 3) nd rfl (Or.inl rfl) (qm_ 0 qe_))
    (qc_ (qbv_ PassesOwn.never rfl (qu_ (j_fz (qin_ (j_fz (qft_ rfl B.list rfl B.zip rfl (qa_ (qm_ 0 qe_) (qa_ (jv 1) qb_)))) (j_fz (qft_ rfl B.list rfl B.zip rfl (qa_ (qm_ 0 qe_) (qa_ (jv 2) qb_))))))) (qd7_ (n := 2) rfl (qs_ (qj_ (i := 4) nd rfl (Or.inl rfl)) (qs_ (qj_ (i := 5) nd rfl (Or.inl rfl)) qcs_)))
    (qg_ (qo_ (i := 3) nd rfl (Or.inl rfl) (j_h F__law_plus (hr.mono (by decide)) rfl (qa_ (jv 3) (qa_ (j_h F__law_times (hr.mono (by decide)) rfl (qa_ (jv 4) (qa_ (jv 5) qb_))) qb_))))))
    (qg_ (qr_ (jv 3))))), ?_⟩
  rintro ds M0 Q ⟨z, M, C, D, E, n, m, rfl, ok, s10, t3, q⟩
  have ob := ok.a.b
  obtain ⟨h1, h2⟩ := ok.a.de
  have eL : zipD (z.1.map frD) (M.map frD) ++ zipD (z.2.1.map frD) (C.map frD) = (z.1.zip M ++ z.2.1.zip C).map qvm_ := by
    rw [qge_, qge_, List.map_append]; rfl
  have lL : (z.1.zip M ++ z.2.1.zip C).length ≤ 13 := by rw [List.length_append, List.length_zip, List.length_zip]; omega
  have mL : ∀ x ∈ z.1.zip M ++ z.2.1.zip C, Wh D n x.1 ∧ Wh E m x.2 := fun x hx => by
    rcases List.mem_append.mp hx with hx | hx
    · exact ⟨ok.a.q _ (List.of_mem_zip hx).1, ok.a.r _ (List.of_mem_zip hx).2⟩
    · exact ⟨ok.b.q _ (List.of_mem_zip hx).1, ok.b.r _ (List.of_mem_zip hx).2⟩
  have ed : dotP (z.1.zip M ++ z.2.1.zip C) = dot z.1 M + dot z.2.1 C := by rw [qga_, qf5_, qf5_]
  refine ⟨by simp only [List.length_map]; omega, by simp only [List.length_map]; omega, by simp only [qc8_, List.length_map]; exact Nat.le_of_lt (qn_ (by omega)), ?_⟩
  rw [eL]
  generalize z.1.zip M ++ z.2.1.zip C = L at lL mL ed
  have wi : ∀ j, Wh (D * E) (n + m + 15) (z.2.2 + dotP (L.take j)) := fun j => by
    have a := (ok.c.up E ok.a.e0 ok.a.sE).mono (b := n + m + 14) (by omega)
    have b := (qlm_ (D := D * E) (n := n + m) (L.take j) fun x hx => (mL x (List.mem_of_mem_take hx)).1.mul (mL x (List.mem_of_mem_take hx)).2).mono (b := n + m + 14) (by rw [List.length_take]; omega)
    exact a.add b
  have si : ∀ j, SmR (n + m + 15) (z.2.2 + dotP (L.take j)) := fun j => (wi j).smr h1 (h2.mono (by omega))
  refine ⟨fun j ρ M1 => M1 = M0 ∧ ∃ o4 o5 : Ent, ρ = [.sh (zQ z), .sh (frL M), .sh (frL C), .sh (frD (z.2.2 + dotP (L.take j))), o4, o5], ?_, ?_, ?_⟩
  · have e0 : z.2.2 + dotP (L.take 0) = z.2.2 := by rw [List.take_zero, dotP]; grind
    show M0 = M0 ∧ ∃ o4 o5 : Ent, _ = [.sh (zQ z), .sh (frL M), .sh (frL C), .sh (frD (z.2.2 + dotP (L.take 0))), o4, o5]
    rw [e0]
    exact ⟨rfl, _, _, rfl⟩
  · rintro j d ρ M1 hd ⟨rfl, o4, o5, rfl⟩
    obtain ⟨x, hx, rfl⟩ := q0_ hd
    obtain ⟨x1, x2⟩ := mL x (List.mem_of_getElem? hx)
    have en : z.2.2 + dotP (L.take j) + x.1 * x.2 = z.2.2 + dotP (L.take (j + 1)) := by
      rw [qc5_ hx, qga_, dotP, dotP]; grind
    exact ⟨rfl, x.1, x.2, rfl, Mx.of (x1.smr ok.a.d0 ok.a.sD) (x2.smr ok.a.e0 ok.a.sE) (by omega), _, _, rfl, Mx.of (si j) ((x1.mul x2).smr h1 h2) (by omega), rfl, .sh (frD x.1), .sh (frD x.2), by rw [← en]; rfl⟩
  · rintro ρ M1 ⟨rfl, o4, o5, rfl⟩
    rw [List.length_map, List.take_length]
    have ee : z.2.2 + dotP L = q3_ z M C := by unfold q3_; rw [ed]; grind
    rw [ee]
    exact ⟨_, Sub.refl _, q⟩
abbrev qdc_ : Stmt := top 44
theorem sc_law_less : FnScope ["q", "r"] ["q", "r"] (qd_ qdc_) := ⟨rfl, rfl, rfl, by decide +kernel, rfl, by decide +kernel, by decide +kernel⟩
theorem h__law_less (B : Bl mg) (F : Def K mg "_law_less" qdc_ ["q", "r"]) : Has P w K mg base CX0 1 "_law_less" ["q", "r"] (spW K (pur qjj_)) := by
  refine F.hasP sc_law_less (fun ds P h => by obtain ⟨a, b, rfl, _⟩ := h; rfl) fun f cdv A outer s H E hr => ?_
  have nd := sc_law_less.nd
  refine ⟨_, (qg_ (qr_ (j_lt (qby_ (qm_ 0 qe_) (qm_ 1 qe_)) (qby_ (qm_ 1 qe_) (qm_ 0 qe_))))), ?_⟩
  rintro ds M Q ⟨q, r, rfl, m, k⟩
  exact ⟨m.c1, m.c2, _, Sub.refl _, by have := r_lt q r; dsimp only at this ⊢; rw [this]; exact k⟩
def pbD : List Rat → D
  | [] => .non
  | q :: qs => frD (qdy_ (q :: qs))
theorem qj4_ (q : Rat) (qs : List Rat) (x : Rat) : qdy_ (q :: qs ++ [x]) = if qdy_ (q :: qs) < x then x else qdy_ (q :: qs) := by
  show grQ q (q :: (qs ++ [x])) = if grQ q (q :: qs) < x then x else grQ q (q :: qs)
  unfold grQ
  rw [← List.cons_append, List.foldl_append]; rfl
theorem qmp_ (x : Rat) : qdy_ [x] = x := by
  show (if x < x then x else x) = x
  split <;> rfl
theorem qtf_ (x : Rat) : pbD [x] = frD x := by show frD (qdy_ [x]) = _; rw [qmp_]
def gDue : List D → (D → Prop) → Prop := fun ds P => ∃ (S T : List (Rat × Rat)) (Z : List ZR) (M : List Rat), ds = [qd6_ S T Z, frL M] ∧ ChOk S T Z M ∧ P (oD (qig_ S T Z M))
abbrev qd5_ : Stmt := top 51
theorem sc_law_due : FnScope ["rule", "made", "row", "choice", "k", "best", "top", "bottom", "many", "worth"] ["rule", "made"] (qd_ qd5_) := ⟨rfl, rfl, rfl, by decide +kernel, rfl, by decide +kernel, by decide +kernel⟩
theorem h__law_due (B : Bl mg) (F : Def K mg "_law_due" qd5_ ["rule", "made"]) (F__law_less : Has P w K mg base CX0 1 "_law_less" ["q", "r"] (spW K (pur qjj_))) (F__law_worth : Has P w K mg base CX0 3 "_law_worth" ["row", "made", "choice"] (spW K (pur gLW))) (F__law_frac : hLF P w K mg base) : Has P w K mg base CX0 4 "_law_due" ["rule", "made"] (spW K (pur gDue)) := by
  refine F.hasP sc_law_due (fun ds P h => by obtain ⟨_, _, _, _, rfl, _⟩ := h; rfl) fun f cdv A outer s H E hr => ?_
  have nd := sc_law_due.nd
  refine ⟨_, (qc_ (qbv_ PassesOwn.never rfl (qu_ (qm_ 0 qe_)) (qj_ (i := 2) nd rfl (Or.inl rfl))
    (qg_ (qb9_ (jt (j_h F__law_less (hr.mono (by decide)) rfl (qa_ (j_h F__law_worth (hr.mono (by decide)) rfl (qa_ (jv 2) (qa_ (jv 1) (qa_ (j_fz (qbn_ qb_)) qb_)))) (qa_ (qbl_ (qa_ qe_ (qa_ qe_ qb_))) qb_)))) (qg_ (qr_ qic_)) qv_)))
    (qc_ (qdr_ (i := 3) nd rfl (Or.inl rfl) (qfj_ (qla_ (qbn_ qb_))))
    (qc_ (qbv_ PassesOwn.never rfl (qex_ rfl B.range (qa_ (qnx_ rfl B.len (qa_ (qm_ 0 qe_) qb_)) qb_)) (qj_ (i := 4) nd rfl (Or.inl rfl))
    (qc_ (qo_ (i := 5) nd rfl (Or.inl rfl) qic_)
    (qc_ (qbv_ PassesOwn.never rfl (qu_ (j_at (j_at (qm_ 0 qe_) (jv 4)) qe_)) (qj_ (i := 2) nd rfl (Or.inl rfl))
    (qc_ (qsu_ (qss_ 3 (j_h F__law_worth (hr.mono (by decide)) rfl (qa_ (jv 2) (qa_ (jv 1) (qa_ (jv 3) qb_))))) (qd7_ (n := 2) rfl (qs_ (qj_ (i := 6) nd rfl (Or.inl rfl)) (qs_ (qj_ (i := 7) nd rfl (Or.inl rfl)) qcs_))))
    (qc_ (qo_ (i := 8) nd rfl (Or.inl rfl) (j_at (qm_ 2 qe_) (jv 4)))
    (qc_ (qo_ (i := 9) nd rfl (Or.inl rfl) (j_h F__law_frac (hr.mono (by decide)) rfl (qa_ (qby_ (qfe_ (jv 6)) (qm_ 8 qe_)) (qa_ (qby_ (jv 7) (qm_ 8 qe_)) qb_))))
    (qg_ (qb9_ (JW.jt (ql6_ (qsd_ (jv 5) qic_) (qji_ (jt (j_h F__law_less (hr.mono (by decide)) rfl (qa_ (jv 5) (qa_ (jv 9) qb_))))))) (qg_ (qo_ (i := 5) nd rfl (Or.inl rfl) (jv 9))) qv_))))))
    (qg_ (qep_ (ju_v 3) (ju_d (jv 5)))))))
    (qg_ (qug_ 3 (qr_ (jv 3))))))), ?_⟩
  rintro ds M0 Q ⟨S, T, Z, M, rfl, ok, q⟩
  have hS := ok.ru.s
  have hT := ok.ru.t3
  obtain ⟨D0, d0, sD, wZ, wT⟩ := ok.ru.w
  have cw := qp7_ (Z := Z) d0 sD wZ wT hS hT ok.m (fun k hk => qii_ hT hk)
  obtain ⟨E0, e0, sE, wM⟩ := ok.m
  obtain ⟨b1, b2⟩ := qdv_ d0 sD T.length
  have rl := qfl_ d0 sD wZ wT T.length (Nat.le_refl _)
  have bl := qld_ hT
  unfold qig_ at q
  -- the last rows
  refine ⟨fun i ρ M1 => M1 = M0 ∧ ((qbf_ S T Z T.length).take i).any (fun z => decide (q3_ z M [] < 0)) = false ∧ ∃ o2 : Ent, ρ = [.sh (qd6_ S T Z), .sh (frL M), o2, .un, .un, .un, .un, .un, .un, .un], ⟨rfl, rfl, _, rfl⟩, ?_, ?_⟩
  · rintro i d ρ M1 hd ⟨rfl, na, o2, rfl⟩
    obtain ⟨z, hz, rfl⟩ := q0_ hd
    have zm := List.mem_of_getElem? hz
    have wz := rl z zm
    have dw : DwOk (botR D0 T.length) E0 (bitR T.length) 300 z M [] := ⟨⟨b1, e0, b2, sE, wz.a, wM, by rw [wz.s]; omega, by omega⟩, ⟨b1, e0, b2, sE, wz.b, fun x hx => (by cases hx), by rw [wz.t]; omega, by omega⟩, wz.c⟩
    have hi := (List.getElem?_eq_some_iff.mp hz).1
    refine ⟨by show 0 ≤ sizeLine; decide, z, M, [], _, _, _, _, rfl, dw, by rw [wz.s]; omega, by rw [wz.t]; omega, by show 2 ≤ sizeLine; decide, q3_ z M [], 0, rfl, Mx.of dw.s sm0 (by omega), ?_⟩
    refine iteB (fun c => ?_) (fun c => ⟨rfl, ?_, _, rfl⟩)
    · have : qjw_ S T Z M = true := by
        unfold qjw_
        rw [List.any_eq_true]
        exact ⟨z, zm, c⟩
      rw [if_pos this] at q
      exact ⟨_, Sub.refl _, q⟩
    · rw [qc5_ hz, List.any_append, na, List.any_cons, List.any_nil, c]; rfl
  rintro ρ M1 ⟨rfl, na, o2, rfl⟩
  rw [List.length_map, List.take_length] at na
  have nn : qjw_ S T Z M = false := na
  rw [if_neg (by rw [nn]; exact Bool.false_ne_true)] at q
  have ls : (q2_ S T Z T.length).reverse.length = T.length := by rw [List.length_reverse, q2_, List.length_map, List.length_range]
  refine ⟨by show 0 ≤ sizeLine; decide, fun p hp => ⟨⟨by rw [ls]; omega, by rw [ls]; omega⟩, fun i ρ M2 => M2 = mset M1 p (ownL (chQ S T Z M i)) ∧ ∃ o2 o4 o5 o6 o7 o8 o9 : Ent, ρ = [.sh (qd6_ S T Z), .sh (frL M), o2, .ut (.adr p), o4, o5, o6, o7, o8, o9], ⟨rfl, _, _, _, _, _, _, _, rfl⟩, ?_, ?_⟩⟩
  · rintro i d ρ M2 hd ⟨rfl, o2, o4, o5, o6, o7, o8, o9, rfl⟩
    obtain ⟨rfl, hi⟩ := qm3_ hd
    have hi : i < T.length := by rw [← ls]; omega
    obtain ⟨Ek, ek0, sEk, wMk, wCk⟩ := cw i (by omega)
    obtain ⟨c1, c2⟩ := qdv_ d0 sD (T.length - 1 - i)
    have rk := qfl_ d0 sD wZ wT (T.length - 1 - i) (by omega)
    have acc := qii_ hT (show i ≤ T.length by omega)
    have bl2 := qls_ (show T.length - 1 - i ≤ 2 by omega)
    have lo : ∀ z ∈ qw_ i (qbm_ S T Z i), LLOk (botR D0 (T.length - 1 - i)) Ek (bitR (T.length - 1 - i)) (accR T.length i) i z M (chQ S T Z M i) := fun z hz => by
      obtain ⟨zr, zb⟩ := List.mem_filter.mp hz
      have rz := rk z zr
      refine ⟨⟨⟨c1, ek0, c2, sEk, rz.a, wMk, by rw [rz.s]; omega, by omega⟩, ⟨c1, ek0, c2, sEk, rz.b, wCk, by rw [rz.t]; omega, by omega⟩, rz.c⟩, by rw [rz.t]; omega, fun e => ?_⟩
      rw [e] at zb
      exact absurd zb (by decide +kernel)
    have sl : ∀ z ∈ qw_ i (qbm_ S T Z i), SmR (bitR (T.length - 1 - i) + accR T.length i + 22) (llQ i M (chQ S T Z M i) z) := fun z hz => by
      obtain ⟨B, B0, sB, wB⟩ := qq5_ (lo z hz)
      refine wB.smr (Nat.mul_ne_zero ek0 B0) ?_
      rw [Int.natCast_mul]
      exact (sEk.mul sB).mono (by omega)
    have cl := qi0_ S T Z M i
    have sg : (q2_ S T Z T.length).reverse[i]? = some (qhu_ i (qbm_ S T Z i)) := by
      have h1 : i < (q2_ S T Z T.length).reverse.length := by rw [ls]; exact hi
      have h2 := List.getElem?_eq_getElem h1
      rw [h2]
      exact congrArg some (qkg_ h2).2
    refine RIx.get (k := i) sg ?_
    refine ⟨fun j ρ M2 => M2 = mset M1 p (ownL (chQ S T Z M i)) ∧ ∃ o2 o6 o7 o8 o9 : Ent, ρ = [.sh (qd6_ S T Z), .sh (frL M), o2, .ut (.adr p), .sh (.int i), .sh (pbD (((qw_ i (qbm_ S T Z i)).take j).map (llQ i M (chQ S T Z M i)))), o6, o7, o8, o9], ⟨rfl, _, _, _, _, _, rfl⟩, ?_, ?_⟩
    · rintro j d ρ M2 hd ⟨rfl, o2, o6, o7, o8, o9, rfl⟩
      obtain ⟨z, hz, rfl⟩ := q0_ hd
      have zm := List.mem_of_getElem? hz
      have lz := lo z zm
      have wz := rk z (List.mem_filter.mp zm).1
      have zb : 0 < bAt i z := by simpa using (List.mem_filter.mp zm).2
      have sw := lz.w.s
      have sb : SmR (bitR (T.length - 1 - i)) (bAt i z) := (lz.w.b.q _ (qbq_ lz.kl)).smr lz.w.a.d0 lz.w.a.sD
      have bn : 0 < (bAt i z).num := (qmq_ _).mpr zb
      have hb : 0 < ((q3_ z M (chQ S T Z M i)).den : Int) * (bAt i z).num := Int.mul_pos (qid_ _) bn
      have el : Rat.divInt (-(q3_ z M (chQ S T Z M i)).num * ((z.2.1.getD i 0).den : Int)) (((q3_ z M (chQ S T Z M i)).den : Int) * (z.2.1.getD i 0).num) = llQ i M (chQ S T Z M i) z := by
        have := qr9_ (-(q3_ z M (chQ S T Z M i))) (bAt i z) (by omega)
        rw [Rat.neg_num, Rat.neg_den] at this
        exact this
      have tk : ((qw_ i (qbm_ S T Z i)).take (j + 1)).map (llQ i M (chQ S T Z M i)) = ((qw_ i (qbm_ S T Z i)).take j).map (llQ i M (chQ S T Z M i)) ++ [llQ i M (chQ S T Z M i) z] := by rw [qc5_ hz, List.map_append]; rfl
      have sl' : ∀ x ∈ ((qw_ i (qbm_ S T Z i)).take j).map (llQ i M (chQ S T Z M i)), SmR (bitR (T.length - 1 - i) + accR T.length i + 22) x := fun x hx => by
        obtain ⟨y, hy, rfl⟩ := List.mem_map.mp hx
        exact sl y (List.mem_of_mem_take hy)
      have sz := sl z zm
      refine ⟨frL (chQ S T Z M i), [p], qgd_ qf_, z, M, chQ S T Z M i, _, _, _, _, rfl, lz.w, by rw [wz.s]; omega, by rw [wz.t]; omega, rfl, rfl, RIx.frl lz.kl ⟨.inr ⟨_, _, ?_, sw.1.neg, sb.2⟩, .inr ⟨_, _, ?_, sw.2, sb.1⟩, _, _, rfl, hb, (sw.2.mul sb.1).mono (by omega), ?_⟩⟩
      · omega
      · omega
      dsimp only
      rw [el]
      cases eL : ((qw_ i (qbm_ S T Z i)).take j).map (llQ i M (chQ S T Z M i)) with
      | nil => exact ⟨rfl, _, _, _, _, _, by rw [tk, eL, List.nil_append, qtf_]; rfl⟩
      | cons g L =>
        rw [eL] at sl' tk
        have sg : SmR (bitR (T.length - 1 - i) + accR T.length i + 22) (qdy_ (g :: L)) := sl' _ (qke_ (by simp))
        have bs : pbD (g :: L ++ [llQ i M (chQ S T Z M i) z]) = frD (if qdy_ (g :: L) < llQ i M (chQ S T Z M i) z then llQ i M (chQ S T Z M i) z else qdy_ (g :: L)) := by
          rw [← qj4_]; rfl
        refine ⟨qdy_ (g :: L), llQ i M (chQ S T Z M i) z, rfl, Mx.of sg sz (by omega), ?_⟩
        refine iteB (fun c => ?_) (fun c => ?_)
        · exact ⟨rfl, _, _, _, _, _, by rw [tk, bs, if_pos (by simpa using c)]; rfl⟩
        · exact ⟨rfl, _, _, _, _, _, by rw [tk, bs, if_neg (by simpa using c)]; rfl⟩
    · rintro ρ M2 ⟨rfl, o2, o6, o7, o8, o9, rfl⟩
      rw [List.length_map, List.take_length]
      have nx : chQ S T Z M (i + 1) = chQ S T Z M i ++ [qdy_ ((qw_ i (qbm_ S T Z i)).map (llQ i M (chQ S T Z M i)))] := rfl
      have ne : (qw_ i (qbm_ S T Z i)).map (llQ i M (chQ S T Z M i)) ≠ [] := fun e => qie_ (S := S) (Z := Z) hi (List.map_eq_nil_iff.mp e)
      obtain ⟨q1, qs, el⟩ := List.exists_cons_of_ne_nil ne
      rw [el] at nx ⊢
      refine ⟨⟨_, qf_⟩, _, qf_, by rw [List.length_map, List.length_map, cl]; exact qn_ (by omega), ?_, _, _, _, _, _, _, _, rfl⟩
      rw [qp_, nx, ownL, List.map_append, List.map_append]
      rfl
  · rintro ρ M2 ⟨rfl, o2, o4, o5, o6, o7, o8, o9, rfl⟩
    have el : (rngD 0 ((q2_ S T Z T.length).reverse.length : Int).toNat).length = T.length := by rw [qgq_, ls]; rfl
    rw [el]
    refine ⟨frL (chQ S T Z M T.length), [p], qgd_ qf_, ?_⟩
    rw [qkt_ hp]
    exact ⟨_, Sub.refl _, q⟩

def qne_ (K : PySem.W.Frag) : Sp := fun vs H Q _ => ∃ (a : Addr) (ns : List Int), vs = [.ref a] ∧ SqL K H a (ns.map V.int) ∧ ns.length ≤ 63 ∧ ∀ H', Q (.bl true) H'

theorem qnb_ (k : Nat) (R : List ZR) : dep (qhu_ k R) ≤ 5 := by
  have h1 : dep (.lst ((qw_ k R).map zQ)) ≤ 4 := by rw [dep]; exact Nat.succ_le_succ (qbk_ qlq_ _)
  have h2 : dep (.lst ((q1_ k R).map zQ)) ≤ 4 := by rw [dep]; exact Nat.succ_le_succ (qbk_ qlq_ _)
  unfold qhu_
  simp only [dep, deps] at *
  omega
theorem qnj_ (S T : List (Rat × Rat)) (Z : List ZR) : dep (qd6_ S T Z) ≤ 60 := by
  have h1 : dep (.lst ((qbf_ S T Z T.length).map zQ)) ≤ 4 := by rw [dep]; exact Nat.succ_le_succ (qbk_ qlq_ _)
  have h2 : dep (.lst (q2_ S T Z T.length).reverse) ≤ 6 := by
    rw [dep]
    refine Nat.succ_le_succ ?_
    unfold q2_
    rw [← List.map_reverse]
    exact qbk_ (fun j => qnb_ _ _) _
  unfold qd6_
  simp only [dep, deps] at *
  omega

/-! ### k20 -/
def qoh_ : List D → (D → Prop) → Prop := fun ds P => ∃ qs : List Rat, ds = [frL qs] ∧ qs.length ≤ 10 ∧ P (.bl true)
abbrev qcl_ : Stmt := top 53
theorem sc_law_whole : FnScope ["found", "number", "wholes"] ["found"] (qd_ qcl_) := ⟨rfl, rfl, rfl, by decide +kernel, rfl, by decide +kernel, by decide +kernel⟩
theorem h__law_whole (B : Bl mg) (F : Def K mg "_law_whole" qcl_ ["found"]) : Has P w K mg base CX0 1 "_law_whole" ["found"] (spW K (pur qoh_)) := by
  refine F.hasP sc_law_whole (fun ds P h => by obtain ⟨_, rfl, _⟩ := h; rfl) fun f cdv A outer s H E hr => ?_
  have nd := sc_law_whole.nd
  refine ⟨_, (qc_ (qb9_ (qfm_ (jt (qny_ (T := "list") qs9_ qrn_ rfl B.isinstance rfl B.list boot_list (jv 0)))) (qg_ (qr_ j_bl)) qv_)
    (qc_ (qbv_ PassesOwn.never rfl (qu_ (jv 0)) (qj_ (i := 1) nd rfl (Or.inl rfl))
    (qc_ (qb8_ (k := 2) nd rfl (Or.inl rfl) ["x"] [none] ⟨rfl, by decide +kernel, by decide +kernel, rfl, rfl, by intro i x j _ h; exact absurd h (by rcases i with _ | _ | _ | i <;> simp)⟩ rfl (qtu_ (jv 1)) (fun _ _ _ _ _ => (qj_ (i := 0) (show List.Nodup [("x" : Str)] by decide +kernel) rfl (Or.inl rfl))) (fun _ _ _ _ _ => (qio_ (JW.jt (qo2_ (jt (qny_ (T := "int") isInt qur_ rfl B.isinstance rfl B.int boot_int (jv 0))) (qk4_ (qfm_ (jt (qny_ (T := "bool") isBl qvs_ rfl B.isinstance rfl B.bool boot_bool (jv 0))))))))) (fun _ _ _ _ _ => (jv 0)))
    (qg_ (qb9_ (JW.jt (ql6_ (qfm_ (jt (qny_ (T := "tuple") qrj_ qr5_ rfl B.isinstance rfl B.tuple boot_tuple (jv 1)))) (ql6_ (qjy_ hr (qhe_ 1 rfl B.len) qe_) (qji_ (qjy_ hr (qhe_ 2 rfl B.len) qe_))))) (qg_ (qr_ j_bl)) qv_))))
    (qg_ (qr_ j_bl)))), ?_⟩
  rintro ds M Q ⟨qs, rfl, l, q⟩
  refine ⟨fun i ρ M1 => M1 = M ∧ ∃ o1 o2 : Ent, ρ = [.sh (frL qs), o1, o2], ⟨rfl, _, _, rfl⟩, ?_, ?_⟩
  · rintro i d ρ M1 hd ⟨rfl, o1, o2, rfl⟩
    obtain ⟨x, hx, rfl⟩ := q0_ hd
    refine ⟨fun j out ρ M2 => M2 = M1 ∧ out = [L3.D.int x.num, .int (x.den : Int)].take j ∧ ∃ o, ρ = [o], ⟨rfl, rfl, _, rfl⟩, ?_, ?_⟩
    · rintro j d out ρ M2 hd ⟨rfl, rfl, o, rfl⟩
      rcases j with _ | _ | j
      · cases (Option.some.inj hd : D.int x.num = d)
        exact ⟨by show 0 < sizeLine; decide, rfl, rfl, _, rfl⟩
      · cases (Option.some.inj hd : D.int (x.den : Int) = d)
        exact ⟨by show 1 < sizeLine; decide, rfl, rfl, _, rfl⟩
      · exact absurd hd (by simp)
    rintro out ρ M2 ⟨rfl, h1, o, rfl⟩
    have h1 : out = [L3.D.int x.num, .int (x.den : Int)] := h1
    subst h1
    exact ⟨by show 0 ≤ 60; decide, by show 0 ≤ 60; decide, rfl, _, _, rfl⟩
  · rintro ρ M1 ⟨rfl, o1, o2, rfl⟩
    exact ⟨_, Sub.refl _, q⟩
theorem qm2_ {S T : List (Rat × Rat)} {Z : List ZR} {M c : List Rat} (h : qig_ S T Z M = some c) : c.length = T.length := by
  unfold qig_ at h
  split at h
  · cases h
  · cases h; exact qi0_ _ _ _ _ _
theorem qs5_ (o : Option (List Rat)) : dep (oD o) ≤ 60 := by
  cases o with
  | none => show dep .non ≤ 60; decide
  | some x => exact Nat.le_trans (qef_ _) (by decide)
abbrev qeh_ : Stmt := top 54
theorem sc_law : FnScope ["script", "plan", "rule", "due", "made", "handed", "choice", "found"] ["script"] (qd_ qeh_) := ⟨rfl, rfl, rfl, by decide +kernel, rfl, by decide +kernel, by decide +kernel⟩
theorem fn_law {e : Addr} {ed : FuncData} (B : Bl2 mg) (F : Fun K "law" "law" qeh_ e ed) (F__law_plan : Has P w K mg base CX0 4 "_law_plan" ["script"] (spD K (Scr K) quq_)) (F_rule_of : Has P w K mg base CX0 7 "rule_of" ["plan"] (spW K (pur qr7_))) (F__law_state : qon_ P w K mg base) (F__law_made : Has P w K mg base CX0 3 "_law_made" ["state", "plan"] (spP K q9_ 40 qub_)) (F__law_told : Has P w K mg base CX0 8 "_law_told" ["rule", "made"] (spN K qsc_)) (F__law_due : Has P w K mg base CX0 4 "_law_due" ["rule", "made"] (spW K (pur gDue))) (F__law_whole : Has P w K mg base CX0 1 "_law_whole" ["found"] (spW K (pur qoh_))) : FnOk P w K mg base CX0 9 e ed ["script"] (qne_ K) := by
  refine F.ok sc_law (fun vs H Q E h => by obtain ⟨a, ns, rfl, _⟩ := h; rfl) (fun cdv A outer s H vs Q E hr h => ?_)
  obtain ⟨a, ns, rfl, hS, h63, q⟩ := h
  have nd := sc_law.nd
  refine ⟨_, JSs.h (qc_ (qo_ (i := 1) nd rfl (Or.inr rfl) (j_hD 0 F__law_plan (hr.mono (by decide)) rfl qb_))
    (qc_ (qo_ (i := 2) nd rfl (Or.inl rfl) (j_h F_rule_of (hr.mono (by decide)) rfl (qa_ (jv 1) qb_)))
    (qc_ (qb8_ (k := 3) nd rfl (Or.inl rfl) ["k", "plan", "script"] [none, some 1, some 0] ⟨rfl, by decide +kernel, by decide +kernel, rfl, rfl, qbb_ rfl⟩ rfl (qq6_ rfl B.range (qa_ qe_ (qa_ (qun_ rfl B.max rfl (qa_ qe_ (qa_ (qrg_ rfl B.min rfl (qa_ qe_ (qa_ (qn6_ 0 rfl B.len) qb_))) qb_))) qb_))) (fun _ _ _ _ _ => (qj_ (i := 0) (show List.Nodup [("k" : Str), ("plan" : Str), ("script" : Str)] by decide +kernel) rfl (Or.inl rfl))) (fun _ _ _ _ _ => qb0_) (fun _ _ _ _ _ => (qps_ 2 F__law_state F__law_made (hr.mono (by decide)) (hr.mono (by decide)) rfl rfl (qa_ (jv 0) qb_) (qa_ (jv 1) qb_))))
    (qc_ (qi4_ (qb9_ (qts_ (qnx_ rfl B.len (qa_ (qm_ 2 qe_) qb_)) qe_) (qg_ (qo_ (i := 3) nd rfl (Or.inl rfl) (j_fz (qv0_ (jv 3) qq0_ (qpr_ qe_))))) qv_))
    (qc_ (qbv_ PassesOwn.never rfl (qu_ (jv 3)) (qj_ (i := 4) nd rfl (Or.inl rfl))
    (qc_ (qo_ (i := 5) nd rfl (Or.inl rfl) (j_fz (qhy_ rfl B.list (qa_ (jv 4) qb_))))
    (qc_ (qo_ (i := 6) nd rfl (Or.inl rfl) (j_h F__law_due (hr.mono (by decide)) rfl (qa_ (jv 2) (qa_ (jv 4) qb_))))
    (qc_ (qdr_ (i := 7) nd rfl (Or.inl rfl) (j_hN F__law_told (hr.mono (by decide)) rfl (qa_ (jv 2) (qa_ (jv 5) qb_))))
    (qc_ (qb9_ (qta_ 7 (JW.jt (ql6_ (qjy_ hr (jv 7) (jv 6)) (qji_ (qjy_ hr (jv 5) (jv 4)))))) (qg_ (qr_ j_bl)) qv_)
    (qg_ (qb9_ (qqa_ (jv 6) qic_) (qc_ (qb9_ (qta_ 7 (qfm_ (jt (j_h F__law_whole (hr.mono (by decide)) rfl (qa_ (jv 7) qb_))))) (qg_ (qr_ j_bl)) qv_)
    (qc_ (qep_ (ju_v 7) (ju_d qe_))
    (qg_ (qb9_ (JW.jt (qo2_ (qj9_ (qnx_ rfl B.len (qa_ (qm_ 2 qe_) qb_)) qe_) (qk4_ (qjy_ hr (j_h (L3.Has.toW F__law_told) (hr.mono (by decide)) rfl (qa_ (jv 2) (qa_ (jv 5) qb_))) (jv 6))))) (qg_ (qr_ j_bl)) qv_)))) qv_)))))))
    (qg_ (qr_ (j_eq hr (jv 2) (j_h F_rule_of (hr.mono (by decide)) rfl (qa_ (jv 1) qb_)))))))))), ?_⟩
  obtain ⟨M0, ag, hM⟩ := Scr.start (K := K) (N := ["script", "plan", "rule", "due", "made", "handed", "choice", "found"]) h63 hS
  refine ⟨fun _ => none, fun _ => none, qb4_ ["script", "plan", "rule", "due", "made", "handed", "choice", "found"] a [], M0, ⟨fun _ _ => False, rtD fun x _ => x = .bl true, fun _ _ => False, fun _ _ => False⟩, ag, ?_, ⟨fun _ _ _ _ _ _ _ z => z.elim, fun _ _ _ _ _ _ _ z => z.elim, fun _ _ _ _ _ _ _ z => z.elim, fun v H' F' u M' _ _ r e => by
    obtain ⟨d, r, e⟩ := qiv_ (M := M') (q := fun x _ => x = .bl true) e r
    subst e; rw [Rp] at r; subst r; exact q H'⟩⟩
  clear ag
  have l63 := hM.1
  refine ⟨⟨ns, hM⟩, rfl, fun S T Z dr => ?_⟩
  have s6 := dr.s6
  have t3 := dr.t3
  refine ⟨S, T, Z, rfl, ql1_ dr, ns, hM, ⟨?_, ?_⟩, fun i out ρ M1 => L4.Sub M0 M1 ∧ ∃ (Vs : List (List Rat)) (o : Ent), ρ = [o, .sh (qeu_ S T Z), .rf a] ∧ out = Vs.map frL ∧ Vs.length = i ∧ ∀ V ∈ Vs, ∃ X, MdOk S V X, ⟨Sub.refl _, [], _, rfl, rfl, rfl, by simp⟩, ?_, ?_⟩
  · try dsimp only
    try split <;> split <;> omega
    try omega
  · try dsimp only
    try split <;> split <;> omega
    try omega
  · rintro i d out ρ M1 hd ⟨sM, Vs, o, rfl, rfl, lv, ok⟩
    obtain ⟨rfl, hi⟩ := qeq_ hd
    have hi20 : i < 64 := by
      refine Nat.lt_of_lt_of_le hi ?_
      dsimp only
      split <;> split <;> omega
    refine ⟨⟨ns, hM.mono sM⟩, ⟨_, rfl, by omega, by omega⟩, fun p hp => ?_⟩
    refine ⟨qf_, by decide, S, T, Z, rfl, s6, dr.bs, fun V X md => ?_⟩
    rw [qp_]
    exact ⟨by rw [List.length_map, lv]; exact qn_ (by omega), qer_ sM hp, Vs ++ [V], _, rfl, by rw [List.map_append]; rfl, by rw [List.length_append, lv]; rfl, qcf_ ok ⟨X, md⟩⟩
  rintro out ρ M1 ⟨sM, Vs, o, rfl, rfl, lv, ok⟩
  refine ⟨fun ρ M2 => M2 = M1 ∧ ∃ Vs : List (List Rat), (∀ V ∈ Vs, ∃ X, MdOk S V X) ∧ ρ = [.rf a, .sh (qeu_ S T Z), .sh (qd6_ S T Z), .sh (.lst (Vs.map frL)), .un, .un, .un, .un], ?_, ?_⟩
  · show if decide _ = true then _ else _
    refine iteB (fun _ => ?_) (fun _ => ⟨rfl, Vs, ok, rfl⟩)
    have e4 : L3.cutD (Vs.map frL) none (some 4) = (Vs.take 4).map frL := by rw [L3.cut_to (by decide), List.map_take]; rfl
    exact ⟨rfl, Vs.take 4, fun V hV => ok V (List.mem_of_mem_take hV), by rw [← e4]; rfl⟩
  clear ok lv
  rintro ρ M2 ⟨rfl, Vs, ok, rfl⟩
  refine ⟨fun i ρ M3 => L4.Sub M0 M3 ∧ ∃ o4 o5 o6 o7 : Ent, ρ = [.rf a, .sh (qeu_ S T Z), .sh (qd6_ S T Z), .sh (.lst (Vs.map frL)), o4, o5, o6, o7], ⟨sM, _, _, _, _, rfl⟩, ?_, ?_⟩
  · rintro i d ρ M3 hd ⟨sM, o4, o5, o6, o7, rfl⟩
    obtain ⟨V, hV, rfl⟩ := q0_ hd
    obtain ⟨X, md⟩ := ok V (List.mem_of_getElem? hV)
    have ch := qsn_ dr md
    refine ⟨S, T, Z, V, rfl, ch, S, T, Z, V, rfl, ch, fun u M4 fr => ?_⟩
    cases ht : qig_ S T Z V with
    | none =>
      rw [ht] at fr
      have s4 := sM.trans fr.sub
      obtain ⟨A', ow, _⟩ := fr
      obtain ⟨rfl, rfl⟩ := ow.leaf_inv rfl
      refine ⟨.non, [], .leaf rfl, by show dep .non ≤ 60; decide, ?_⟩
      show if (!peq L3.D.non L3.D.non) = true then _ else _
      rw [qb3_]
      refine ⟨Nat.le_trans (qef_ _) (by decide), ?_⟩
      show if (!peq (frL V) (frL V)) = true then _ else _
      rw [qb3_]
      exact ⟨s4, _, _, _, _, rfl⟩
    | some c =>
      rw [ht] at fr
      have lc := qm2_ ht
      have s4 := sM.trans fr.sub
      obtain ⟨A', ow, _, fa, _⟩ := fr
      obtain ⟨p, rfl, e, rfl⟩ := ow.flat (qb2_ fun _ => rfl)
      have p0 : M0 p = none := by
        cases e0 : M0 p with
        | none => rfl
        | some o => have := fa p (.head _); rw [sM _ _ e0] at this; cases this
      refine ⟨frL c, [p], .mkflat (qb2_ fun _ => rfl) e, Nat.le_trans (qef_ _) (by decide), ?_⟩
      show if (!peq (frL c) (frL c)) = true then _ else _
      rw [qb3_]
      refine ⟨Nat.le_trans (qef_ _) (by decide), ?_⟩
      show if (!peq (frL V) (frL V)) = true then _ else _
      rw [qb3_]
      refine ⟨frL c, [p], .mkflat (qb2_ fun _ => rfl) e, c, rfl, by omega, ⟨_, e⟩, _, e, by rw [List.length_map, List.length_map]; exact qn_ (by omega), ?_⟩
      have s5 : L4.Sub M0 (mset M4 p (.own ((c.map frD).map U.d ++ [U.d (.int 1)]))) := s4.mset p0
      show if decide _ = true then _ else _
      refine iteB (fun _ => ?_) (fun _ => ⟨s5, _, _, _, _, rfl⟩)
      refine ⟨S, T, Z, V, rfl, ch, qs5_ _, ?_⟩
      rw [ht]
      show if (!peq (frL c) (frL c)) = true then _ else _
      rw [qb3_]
      exact ⟨s5, _, _, _, _, rfl⟩
  · rintro ρ M3 ⟨sM, o4, o5, o6, o7, rfl⟩
    refine ⟨S, T, Z, rfl, ql1_ dr, qnj_ _ _ _, ?_⟩
    show L3.D.bl (peq (qd6_ S T Z) (qd6_ S T Z)) = .bl true
    rw [qb3_]




end
structure At (K : PySem.W.Frag) (x : Str) (st : Stmt) : Prop where
  ex : ∃ (f : Addr) (od an : Option Addr) (sl : Array (Option Value)) (oc kV dc pm cd ct : Value), PySem.W.nsIn K mainGlobals x = some (some (.ref f)) ∧ K.lookup f = some ⟨oc, od, .func (PySem.W.fnOf x x (qct_ st) (qz_ st) (qd_ st) .none kV dc pm an cd ct), sl⟩ ∧ PySem.W.codeIn K cd x = true ∧ PySem.W.keepIn K (.ref f) = true
theorem At.of {K : PySem.W.Frag} {x : Str} {st : Stmt} {f : Addr} {od an : Option Addr} {sl : Array (Option Value)} {oc kV dc pm cd ct : Value} (a : PySem.W.nsIn K mainGlobals x = some (some (.ref f))) (l : K.lookup f = some ⟨oc, od, .func (PySem.W.fnOf x x (qct_ st) (qz_ st) (qd_ st) .none kV dc pm an cd ct), sl⟩) (c : PySem.W.codeIn K cd x = true) (k : PySem.W.keepIn K (.ref f) = true) : At K x st := ⟨f, od, an, sl, oc, kV, dc, pm, cd, ct, a, l, c, k⟩
theorem At.dfn {K : PySem.W.Frag} {h : Heap} {mg : Str → Option Value} {x : Str} {st : Stmt} {ps : List Str} (X : K.In h) (G : h.Ns mainGlobals mg) (A : At K x st) (hb : ∀ (kV doc pm : Value) (an : Option Addr) (cdv ct : Value) (us : List Value), us.length = ps.length → PySem.bindArgs (PySem.W.fnOf x x (qct_ st) (qz_ st) (qd_ st) .none kV doc pm an cdv ct) { pos := us } = pure (ps.zip us)) : Def K mg x st ps := by
  obtain ⟨f, od, an, sl, oc, kV, dc, pm, cd, ct, a, l, c, k⟩ := A.ex
  exact ⟨_, _, qhg_ l c k, (qhg_ l c k).binds hb, PySem.W.mg_of X G a⟩
theorem all_mk {l : PySem.W.OpenLaw} {w : World} {K : PySem.W.Frag} {h : Heap} {mg : Str → Option Value} {fa : Addr} (X : K.In h) (G : h.Ns mainGlobals mg) (hfa : mg "law" = some (.ref fa))
    (A0 : At K "common_divisor" q6_) (A1 : At K "fraction" qdg_) (A2 : At K "plus" qiq_) (A3 : At K "opposite" qdh_) (A4 : At K "times" qgo_) (A5 : At K "over" qjm_) (A6 : At K "below" qf4_) (A7 : At K "copied_rows" qbr_) (A8 : At K "weighed_sum" qbp_) (A9 : At K "demand_worth" qbi_) (A10 : At K "all_but_one_0" qba_) (A11 : At K "bound_rows" qb7_) (A12 : At K "says_nothing" qbj_) (A13 : At K "put_on" qel_) (A14 : At K "shim_rows" qcq_) (A15 : At K "first_rows" qb5_) (A16 : At K "mixed" qgr_) (A17 : At K "put_together" qbg_) (A18 : At K "taken_out" qcp_) (A19 : At K "rule_of" qd2_) (A20 : At K "least_let" qck_) (A21 : At K "greatest_of" qbo_) (A22 : At K "chosen_by" qcv_) (A23 : At K "_law_cell" qdd_) (A24 : At K "_law_state" qcr_) (A25 : At K "_law_take" qcb_) (A26 : At K "_law_frac" qdf_) (A27 : At K "_law_plus" qc7_) (A28 : At K "_law_times" qcn_) (A29 : At K "_law_less" qdc_) (A30 : At K "_law_some" qdb_) (A31 : At K "_law_weight" qbz_) (A32 : At K "_law_bounds" qb6_) (A33 : At K "_law_plan" qc9_) (A34 : At K "_law_made" qdj_) (A35 : At K "_law_worth" qci_) (A36 : At K "_law_due" qd5_) (A37 : At K "_law_told" qc6_) (A38 : At K "_law_whole" qcl_)
    {f39 : Addr} {od39 an39 : Option Addr} {sl39 : Array (Option Value)} {oc39 kV39 dc39 pm39 cd39 ct39 : Value} (a39 : PySem.W.nsIn K mainGlobals "law" = some (some (.ref f39))) (l39 : K.lookup f39 = some ⟨oc39, od39, .func (PySem.W.fnOf "law" "law" (qct_ qeh_) (qz_ qeh_) (qd_ qeh_) .none kV39 dc39 pm39 an39 cd39 ct39), sl39⟩) (c39 : PySem.W.codeIn K cd39 "law" = true) (k39 : PySem.W.keepIn K (.ref f39) = true)
    (z_len : PySem.W.nsIn K mainGlobals "len" = some none)
    (z_abs : PySem.W.nsIn K mainGlobals "abs" = some none)
    (z_isinstance : PySem.W.nsIn K mainGlobals "isinstance" = some none)
    (z_tuple : PySem.W.nsIn K mainGlobals "tuple" = some none)
    (z_list : PySem.W.nsIn K mainGlobals "list" = some none)
    (z_int : PySem.W.nsIn K mainGlobals "int" = some none)
    (z_bool : PySem.W.nsIn K mainGlobals "bool" = some none)
    (z_str : PySem.W.nsIn K mainGlobals "str" = some none)
    (z_range : PySem.W.nsIn K mainGlobals "range" = some none)
    (z_zip : PySem.W.nsIn K mainGlobals "zip" = some none)
    (z_all : PySem.W.nsIn K mainGlobals "all" = some none)
    (z_any : PySem.W.nsIn K mainGlobals "any" = some none)
    (z_ValueError : PySem.W.nsIn K mainGlobals "ValueError" = some none)
    (z_enumerate : PySem.W.nsIn K mainGlobals "enumerate" = some none)
    (z_sum : PySem.W.nsIn K mainGlobals "sum" = some none)
    (z_min : PySem.W.nsIn K mainGlobals "min" = some none)
    (z_max : PySem.W.nsIn K mainGlobals "max" = some none)
    (z_sorted : PySem.W.nsIn K mainGlobals "sorted" = some none)
    (z_reversed : PySem.W.nsIn K mainGlobals "reversed" = some none)
    (z_dict : PySem.W.nsIn K mainGlobals "dict" = some none)
    {c_ZERO : Addr} {od_ZERO : Option Addr} {sl_ZERO : Array (Option Value)} {n_ZERO : Nat} {t0_ZERO t1_ZERO : Tok} (b_ZERO : PySem.W.nsIn K mainGlobals "ZERO" = some (some (.ref c_ZERO))) (m_ZERO : K.lookup c_ZERO = some ⟨.type "tuple", od_ZERO, .seq #[.int 0 t0_ZERO, .int 1 t1_ZERO] n_ZERO, sl_ZERO⟩)
    {c_ONE : Addr} {od_ONE : Option Addr} {sl_ONE : Array (Option Value)} {n_ONE : Nat} {t0_ONE t1_ONE : Tok} (b_ONE : PySem.W.nsIn K mainGlobals "ONE" = some (some (.ref c_ONE))) (m_ONE : K.lookup c_ONE = some ⟨.type "tuple", od_ONE, .seq #[.int 1 t0_ONE, .int 1 t1_ONE] n_ONE, sl_ONE⟩)
    {C_ShimError : Addr} (e_ShimError : PySem.W.nsIn K mainGlobals "ShimError" = some (some (.ref C_ShimError))) (q_ShimError : PySem.W.excIn K C_ShimError qfh_ "ValueError.__new__" = true) (x0_ShimError : PySem.W.findIn K (.ref C_ShimError) "__getattribute__" = some (some (.builtin "BaseException.__getattribute__"))) (x1_ShimError : PySem.W.findIn K (.ref C_ShimError) "__getattr__" = some none) (x2_ShimError : PySem.W.findIn K (.ref C_ShimError) "__class__" = some (some (.builtin "object.__class__"))) (x3_ShimError : PySem.W.specialIn K (.builtin "object.__class__") "__get__" = some (some (.builtin "getset_descriptor.__get__"))) (x4_ShimError : PySem.W.takesIn K (.builtin "object.__class__") = some true) (x5_ShimError : PySem.W.mroIn K C_ShimError (.type "object") = some true) (x6_ShimError : PySem.W.mroIn K C_ShimError (.type "BaseException") = some true) (x7_ShimError : PySem.W.typeIn K (.ref C_ShimError) = some (.type "type")) (x8_ShimError : PySem.W.subIn K (.ref C_ShimError) (.type "BaseException") = some true)
    {C_NoNumber : Addr} (e_NoNumber : PySem.W.nsIn K mainGlobals "NoNumber" = some (some (.ref C_NoNumber))) (q_NoNumber : PySem.W.excIn K C_NoNumber qfh_ "ValueError.__new__" = true) (x0_NoNumber : PySem.W.findIn K (.ref C_NoNumber) "__getattribute__" = some (some (.builtin "BaseException.__getattribute__"))) (x1_NoNumber : PySem.W.findIn K (.ref C_NoNumber) "__getattr__" = some none) (x2_NoNumber : PySem.W.findIn K (.ref C_NoNumber) "__class__" = some (some (.builtin "object.__class__"))) (x3_NoNumber : PySem.W.specialIn K (.builtin "object.__class__") "__get__" = some (some (.builtin "getset_descriptor.__get__"))) (x4_NoNumber : PySem.W.takesIn K (.builtin "object.__class__") = some true) (x5_NoNumber : PySem.W.mroIn K C_NoNumber (.type "object") = some true) (x6_NoNumber : PySem.W.mroIn K C_NoNumber (.type "BaseException") = some true) (x7_NoNumber : PySem.W.typeIn K (.ref C_NoNumber) = some (.type "type")) (x8_NoNumber : PySem.W.subIn K (.ref C_NoNumber) (.type "BaseException") = some true)
    {C_NoChoice : Addr} (e_NoChoice : PySem.W.nsIn K mainGlobals "NoChoice" = some (some (.ref C_NoChoice))) (q_NoChoice : PySem.W.excIn K C_NoChoice qfh_ "ValueError.__new__" = true) (x0_NoChoice : PySem.W.findIn K (.ref C_NoChoice) "__getattribute__" = some (some (.builtin "BaseException.__getattribute__"))) (x1_NoChoice : PySem.W.findIn K (.ref C_NoChoice) "__getattr__" = some none) (x2_NoChoice : PySem.W.findIn K (.ref C_NoChoice) "__class__" = some (some (.builtin "object.__class__"))) (x3_NoChoice : PySem.W.specialIn K (.builtin "object.__class__") "__get__" = some (some (.builtin "getset_descriptor.__get__"))) (x4_NoChoice : PySem.W.takesIn K (.builtin "object.__class__") = some true) (x5_NoChoice : PySem.W.mroIn K C_NoChoice (.type "object") = some true) (x6_NoChoice : PySem.W.mroIn K C_NoChoice (.type "BaseException") = some true) (x7_NoChoice : PySem.W.typeIn K (.ref C_NoChoice) = some (.type "type")) (x8_NoChoice : PySem.W.subIn K (.ref C_NoChoice) (.type "BaseException") = some true)
    {C_NoName : Addr} (e_NoName : PySem.W.nsIn K mainGlobals "NoName" = some (some (.ref C_NoName))) (q_NoName : PySem.W.excIn K C_NoName qfh_ "ValueError.__new__" = true) (x0_NoName : PySem.W.findIn K (.ref C_NoName) "__getattribute__" = some (some (.builtin "BaseException.__getattribute__"))) (x1_NoName : PySem.W.findIn K (.ref C_NoName) "__getattr__" = some none) (x2_NoName : PySem.W.findIn K (.ref C_NoName) "__class__" = some (some (.builtin "object.__class__"))) (x3_NoName : PySem.W.specialIn K (.builtin "object.__class__") "__get__" = some (some (.builtin "getset_descriptor.__get__"))) (x4_NoName : PySem.W.takesIn K (.builtin "object.__class__") = some true) (x5_NoName : PySem.W.mroIn K C_NoName (.type "object") = some true) (x6_NoName : PySem.W.mroIn K C_NoName (.type "BaseException") = some true) (x7_NoName : PySem.W.typeIn K (.ref C_NoName) = some (.type "type")) (x8_NoName : PySem.W.subIn K (.ref C_NoName) (.type "BaseException") = some true)
    {C_NoRow : Addr} (e_NoRow : PySem.W.nsIn K mainGlobals "NoRow" = some (some (.ref C_NoRow))) (q_NoRow : PySem.W.excIn K C_NoRow qfh_ "ValueError.__new__" = true) (x0_NoRow : PySem.W.findIn K (.ref C_NoRow) "__getattribute__" = some (some (.builtin "BaseException.__getattribute__"))) (x1_NoRow : PySem.W.findIn K (.ref C_NoRow) "__getattr__" = some none) (x2_NoRow : PySem.W.findIn K (.ref C_NoRow) "__class__" = some (some (.builtin "object.__class__"))) (x3_NoRow : PySem.W.specialIn K (.builtin "object.__class__") "__get__" = some (some (.builtin "getset_descriptor.__get__"))) (x4_NoRow : PySem.W.takesIn K (.builtin "object.__class__") = some true) (x5_NoRow : PySem.W.mroIn K C_NoRow (.type "object") = some true) (x6_NoRow : PySem.W.mroIn K C_NoRow (.type "BaseException") = some true) (x7_NoRow : PySem.W.typeIn K (.ref C_NoRow) = some (.type "type")) (x8_NoRow : PySem.W.subIn K (.ref C_NoRow) (.type "BaseException") = some true)
    {C_NoText : Addr} (e_NoText : PySem.W.nsIn K mainGlobals "NoText" = some (some (.ref C_NoText))) (q_NoText : PySem.W.excIn K C_NoText qfh_ "ValueError.__new__" = true) (x0_NoText : PySem.W.findIn K (.ref C_NoText) "__getattribute__" = some (some (.builtin "BaseException.__getattribute__"))) (x1_NoText : PySem.W.findIn K (.ref C_NoText) "__getattr__" = some none) (x2_NoText : PySem.W.findIn K (.ref C_NoText) "__class__" = some (some (.builtin "object.__class__"))) (x3_NoText : PySem.W.specialIn K (.builtin "object.__class__") "__get__" = some (some (.builtin "getset_descriptor.__get__"))) (x4_NoText : PySem.W.takesIn K (.builtin "object.__class__") = some true) (x5_NoText : PySem.W.mroIn K C_NoText (.type "object") = some true) (x6_NoText : PySem.W.mroIn K C_NoText (.type "BaseException") = some true) (x7_NoText : PySem.W.typeIn K (.ref C_NoText) = some (.type "type")) (x8_NoText : PySem.W.subIn K (.ref C_NoText) (.type "BaseException") = some true)
    {C_TooMany : Addr} (e_TooMany : PySem.W.nsIn K mainGlobals "TooMany" = some (some (.ref C_TooMany))) (q_TooMany : PySem.W.excIn K C_TooMany qfh_ "ValueError.__new__" = true) (x0_TooMany : PySem.W.findIn K (.ref C_TooMany) "__getattribute__" = some (some (.builtin "BaseException.__getattribute__"))) (x1_TooMany : PySem.W.findIn K (.ref C_TooMany) "__getattr__" = some none) (x2_TooMany : PySem.W.findIn K (.ref C_TooMany) "__class__" = some (some (.builtin "object.__class__"))) (x3_TooMany : PySem.W.specialIn K (.builtin "object.__class__") "__get__" = some (some (.builtin "getset_descriptor.__get__"))) (x4_TooMany : PySem.W.takesIn K (.builtin "object.__class__") = some true) (x5_TooMany : PySem.W.mroIn K C_TooMany (.type "object") = some true) (x6_TooMany : PySem.W.mroIn K C_TooMany (.type "BaseException") = some true) (x7_TooMany : PySem.W.typeIn K (.ref C_TooMany) = some (.type "type")) (x8_TooMany : PySem.W.subIn K (.ref C_TooMany) (.type "BaseException") = some true)
    (s_NoChoice_ShimError : PySem.W.subIn K (.ref C_NoChoice) (.ref C_ShimError) = some true)
    (s_NoChoice_NoNumber : PySem.W.subIn K (.ref C_NoChoice) (.ref C_NoNumber) = some false)
    (s_NoChoice_NoChoice : PySem.W.subIn K (.ref C_NoChoice) (.ref C_NoChoice) = some true)
    (s_NoChoice_NoName : PySem.W.subIn K (.ref C_NoChoice) (.ref C_NoName) = some false)
    (s_NoChoice_NoRow : PySem.W.subIn K (.ref C_NoChoice) (.ref C_NoRow) = some false)
    (s_NoChoice_NoText : PySem.W.subIn K (.ref C_NoChoice) (.ref C_NoText) = some false)
    (s_NoChoice_TooMany : PySem.W.subIn K (.ref C_NoChoice) (.ref C_TooMany) = some false)
    (s_NoChoice_ValueError : PySem.W.subIn K (.ref C_NoChoice) (.type "ValueError") = some true)
    : ∃ fd : FuncData, (∀ (s : Shared) (v : Value), BindsTo s fd ⟨[v], []⟩ [("script", v)]) ∧ ∀ base : Heap, K.In base → base.Ns mainGlobals mg → FnOk l.prog w K mg base CX0 9 fa fd ["script"] (qne_ K) := by
  have e := hfa.symm.trans (PySem.W.mg_of X G a39)
  cases e
  have B : Bl mg := ⟨PySem.W.mg_none_of X G z_len, PySem.W.mg_none_of X G z_abs, PySem.W.mg_none_of X G z_isinstance, PySem.W.mg_none_of X G z_tuple, PySem.W.mg_none_of X G z_list, PySem.W.mg_none_of X G z_int, PySem.W.mg_none_of X G z_bool, PySem.W.mg_none_of X G z_str, PySem.W.mg_none_of X G z_range, PySem.W.mg_none_of X G z_zip, PySem.W.mg_none_of X G z_all, PySem.W.mg_none_of X G z_any, PySem.W.mg_none_of X G z_ValueError⟩
  have B2 : Bl2 mg := ⟨B, PySem.W.mg_none_of X G z_enumerate, PySem.W.mg_none_of X G z_sum, PySem.W.mg_none_of X G z_min, PySem.W.mg_none_of X G z_max, PySem.W.mg_none_of X G z_sorted, PySem.W.mg_none_of X G z_reversed, PySem.W.mg_none_of X G z_dict⟩
  have C_ZERO : Zero4 K mg := Zero4.of (PySem.W.mg_of X G b_ZERO) m_ZERO
  have C_ONE : One4 K mg := One4.of (PySem.W.mg_of X G b_ONE) m_ONE
  have XC_ShimError : ExC K mg "ShimError" := ExC.of (PySem.W.mg_of X G e_ShimError) q_ShimError ⟨x0_ShimError, x1_ShimError, x2_ShimError, x3_ShimError, x4_ShimError, x5_ShimError, x6_ShimError, x7_ShimError, x8_ShimError⟩
  have XC_NoNumber : ExC K mg "NoNumber" := ExC.of (PySem.W.mg_of X G e_NoNumber) q_NoNumber ⟨x0_NoNumber, x1_NoNumber, x2_NoNumber, x3_NoNumber, x4_NoNumber, x5_NoNumber, x6_NoNumber, x7_NoNumber, x8_NoNumber⟩
  have XC_NoChoice : ExC K mg "NoChoice" := ExC.of (PySem.W.mg_of X G e_NoChoice) q_NoChoice ⟨x0_NoChoice, x1_NoChoice, x2_NoChoice, x3_NoChoice, x4_NoChoice, x5_NoChoice, x6_NoChoice, x7_NoChoice, x8_NoChoice⟩
  have XC_NoName : ExC K mg "NoName" := ExC.of (PySem.W.mg_of X G e_NoName) q_NoName ⟨x0_NoName, x1_NoName, x2_NoName, x3_NoName, x4_NoName, x5_NoName, x6_NoName, x7_NoName, x8_NoName⟩
  have XC_NoRow : ExC K mg "NoRow" := ExC.of (PySem.W.mg_of X G e_NoRow) q_NoRow ⟨x0_NoRow, x1_NoRow, x2_NoRow, x3_NoRow, x4_NoRow, x5_NoRow, x6_NoRow, x7_NoRow, x8_NoRow⟩
  have XC_NoText : ExC K mg "NoText" := ExC.of (PySem.W.mg_of X G e_NoText) q_NoText ⟨x0_NoText, x1_NoText, x2_NoText, x3_NoText, x4_NoText, x5_NoText, x6_NoText, x7_NoText, x8_NoText⟩
  have XC_TooMany : ExC K mg "TooMany" := ExC.of (PySem.W.mg_of X G e_TooMany) q_TooMany ⟨x0_TooMany, x1_TooMany, x2_TooMany, x3_TooMany, x4_TooMany, x5_TooMany, x6_TooMany, x7_TooMany, x8_TooMany⟩
  have Z : Exs K mg := ⟨XC_ShimError, XC_NoNumber, XC_NoChoice, XC_NoName, XC_NoRow, XC_NoText, XC_TooMany, by simp only [ql_ (PySem.W.mg_of X G e_ShimError), ql_ (PySem.W.mg_of X G e_NoNumber), ql_ (PySem.W.mg_of X G e_NoChoice), ql_ (PySem.W.mg_of X G e_NoName), ql_ (PySem.W.mg_of X G e_NoRow), ql_ (PySem.W.mg_of X G e_NoText), ql_ (PySem.W.mg_of X G e_TooMany)]; exact s_NoChoice_ShimError, by simp only [ql_ (PySem.W.mg_of X G e_ShimError), ql_ (PySem.W.mg_of X G e_NoNumber), ql_ (PySem.W.mg_of X G e_NoChoice), ql_ (PySem.W.mg_of X G e_NoName), ql_ (PySem.W.mg_of X G e_NoRow), ql_ (PySem.W.mg_of X G e_NoText), ql_ (PySem.W.mg_of X G e_TooMany)]; exact s_NoChoice_NoNumber, by simp only [ql_ (PySem.W.mg_of X G e_ShimError), ql_ (PySem.W.mg_of X G e_NoNumber), ql_ (PySem.W.mg_of X G e_NoChoice), ql_ (PySem.W.mg_of X G e_NoName), ql_ (PySem.W.mg_of X G e_NoRow), ql_ (PySem.W.mg_of X G e_NoText), ql_ (PySem.W.mg_of X G e_TooMany)]; exact s_NoChoice_NoChoice, by simp only [ql_ (PySem.W.mg_of X G e_ShimError), ql_ (PySem.W.mg_of X G e_NoNumber), ql_ (PySem.W.mg_of X G e_NoChoice), ql_ (PySem.W.mg_of X G e_NoName), ql_ (PySem.W.mg_of X G e_NoRow), ql_ (PySem.W.mg_of X G e_NoText), ql_ (PySem.W.mg_of X G e_TooMany)]; exact s_NoChoice_NoName, by simp only [ql_ (PySem.W.mg_of X G e_ShimError), ql_ (PySem.W.mg_of X G e_NoNumber), ql_ (PySem.W.mg_of X G e_NoChoice), ql_ (PySem.W.mg_of X G e_NoName), ql_ (PySem.W.mg_of X G e_NoRow), ql_ (PySem.W.mg_of X G e_NoText), ql_ (PySem.W.mg_of X G e_TooMany)]; exact s_NoChoice_NoRow, by simp only [ql_ (PySem.W.mg_of X G e_ShimError), ql_ (PySem.W.mg_of X G e_NoNumber), ql_ (PySem.W.mg_of X G e_NoChoice), ql_ (PySem.W.mg_of X G e_NoName), ql_ (PySem.W.mg_of X G e_NoRow), ql_ (PySem.W.mg_of X G e_NoText), ql_ (PySem.W.mg_of X G e_TooMany)]; exact s_NoChoice_NoText, by simp only [ql_ (PySem.W.mg_of X G e_ShimError), ql_ (PySem.W.mg_of X G e_NoNumber), ql_ (PySem.W.mg_of X G e_NoChoice), ql_ (PySem.W.mg_of X G e_NoName), ql_ (PySem.W.mg_of X G e_NoRow), ql_ (PySem.W.mg_of X G e_NoText), ql_ (PySem.W.mg_of X G e_TooMany)]; exact s_NoChoice_TooMany, by simp only [ql_ (PySem.W.mg_of X G e_ShimError), ql_ (PySem.W.mg_of X G e_NoNumber), ql_ (PySem.W.mg_of X G e_NoChoice), ql_ (PySem.W.mg_of X G e_NoName), ql_ (PySem.W.mg_of X G e_NoRow), ql_ (PySem.W.mg_of X G e_NoText), ql_ (PySem.W.mg_of X G e_TooMany)]; exact s_NoChoice_ValueError⟩
  have d_common_divisor : Def K mg "common_divisor" q6_ ["one", "other"] := A0.dfn X G fun _ _ _ _ _ _ us hl => by obtain ⟨_, _, rfl⟩ := len2 hl; rfl
  have d_fraction : Def K mg "fraction" qdg_ ["top", "bottom"] := A1.dfn X G fun _ _ _ _ _ _ us hl => by obtain ⟨_, _, rfl⟩ := len2 hl; rfl
  have d_plus : Def K mg "plus" qiq_ ["q", "r"] := A2.dfn X G fun _ _ _ _ _ _ us hl => by obtain ⟨_, _, rfl⟩ := len2 hl; rfl
  have d_opposite : Def K mg "opposite" qdh_ ["q"] := A3.dfn X G fun _ _ _ _ _ _ us hl => by obtain ⟨_, rfl⟩ := len1 hl; rfl
  have d_times : Def K mg "times" qgo_ ["q", "r"] := A4.dfn X G fun _ _ _ _ _ _ us hl => by obtain ⟨_, _, rfl⟩ := len2 hl; rfl
  have d_over : Def K mg "over" qjm_ ["q", "r"] := A5.dfn X G fun _ _ _ _ _ _ us hl => by obtain ⟨_, _, rfl⟩ := len2 hl; rfl
  have d_below : Def K mg "below" qf4_ ["q", "r"] := A6.dfn X G fun _ _ _ _ _ _ us hl => by obtain ⟨_, _, rfl⟩ := len2 hl; rfl
  have d_copied_rows : Def K mg "copied_rows" qbr_ ["rows"] := A7.dfn X G fun _ _ _ _ _ _ us hl => by obtain ⟨_, rfl⟩ := len1 hl; rfl
  have d_weighed_sum : Def K mg "weighed_sum" qbp_ ["factors", "told"] := A8.dfn X G fun _ _ _ _ _ _ us hl => by obtain ⟨_, _, rfl⟩ := len2 hl; rfl
  have d_demand_worth : Def K mg "demand_worth" qbi_ ["demand", "made", "choice"] := A9.dfn X G fun _ _ _ _ _ _ us hl => by obtain ⟨_, _, _, rfl⟩ := len3 hl; rfl
  have d_all_but_one_0 : Def K mg "all_but_one_0" qba_ ["length", "place", "q"] := A10.dfn X G fun _ _ _ _ _ _ us hl => by obtain ⟨_, _, _, rfl⟩ := len3 hl; rfl
  have d_bound_rows : Def K mg "bound_rows" qb7_ ["shims"] := A11.dfn X G fun _ _ _ _ _ _ us hl => by obtain ⟨_, rfl⟩ := len1 hl; rfl
  have d_says_nothing : Def K mg "says_nothing" qbj_ ["row"] := A12.dfn X G fun _ _ _ _ _ _ us hl => by obtain ⟨_, rfl⟩ := len1 hl; rfl
  have d_put_on : Def K mg "put_on" qel_ ["rows"] := A13.dfn X G fun _ _ _ _ _ _ us hl => by obtain ⟨_, rfl⟩ := len1 hl; rfl
  have d_shim_rows : Def K mg "shim_rows" qcq_ ["plan"] := A14.dfn X G fun _ _ _ _ _ _ us hl => by obtain ⟨_, rfl⟩ := len1 hl; rfl
  have d_first_rows : Def K mg "first_rows" qb5_ ["plan"] := A15.dfn X G fun _ _ _ _ _ _ us hl => by obtain ⟨_, rfl⟩ := len1 hl; rfl
  have d_mixed : Def K mg "mixed" qgr_ ["q", "one", "r", "other"] := A16.dfn X G fun _ _ _ _ _ _ us hl => by obtain ⟨_, _, _, _, rfl⟩ := len4 hl; rfl
  have d_put_together : Def K mg "put_together" qbg_ ["low", "high", "k"] := A17.dfn X G fun _ _ _ _ _ _ us hl => by obtain ⟨_, _, _, rfl⟩ := len3 hl; rfl
  have d_taken_out : Def K mg "taken_out" qcp_ ["rows", "k"] := A18.dfn X G fun _ _ _ _ _ _ us hl => by obtain ⟨_, _, rfl⟩ := len2 hl; rfl
  have d_rule_of : Def K mg "rule_of" qd2_ ["plan"] := A19.dfn X G fun _ _ _ _ _ _ us hl => by obtain ⟨_, rfl⟩ := len1 hl; rfl
  have d_least_let : Def K mg "least_let" qck_ ["low", "k", "made", "others"] := A20.dfn X G fun _ _ _ _ _ _ us hl => by obtain ⟨_, _, _, _, rfl⟩ := len4 hl; rfl
  have d_greatest_of : Def K mg "greatest_of" qbo_ ["fractions"] := A21.dfn X G fun _ _ _ _ _ _ us hl => by obtain ⟨_, rfl⟩ := len1 hl; rfl
  have d_chosen_by : Def K mg "chosen_by" qcv_ ["rule", "made"] := A22.dfn X G fun _ _ _ _ _ _ us hl => by obtain ⟨_, _, rfl⟩ := len2 hl; rfl
  have d__law_cell : Def K mg "_law_cell" qdd_ ["script", "k"] := A23.dfn X G fun _ _ _ _ _ _ us hl => by obtain ⟨_, _, rfl⟩ := len2 hl; rfl
  have d__law_state : Def K mg "_law_state" qcr_ ["script", "k"] := A24.dfn X G fun _ _ _ _ _ _ us hl => by obtain ⟨_, _, rfl⟩ := len2 hl; rfl
  have d__law_take : Def K mg "_law_take" qcb_ ["state", "many"] := A25.dfn X G fun _ _ _ _ _ _ us hl => by obtain ⟨_, _, rfl⟩ := len2 hl; rfl
  have d__law_frac : Def K mg "_law_frac" qdf_ ["top", "bottom"] := A26.dfn X G fun _ _ _ _ _ _ us hl => by obtain ⟨_, _, rfl⟩ := len2 hl; rfl
  have d__law_plus : Def K mg "_law_plus" qc7_ ["q", "r"] := A27.dfn X G fun _ _ _ _ _ _ us hl => by obtain ⟨_, _, rfl⟩ := len2 hl; rfl
  have d__law_times : Def K mg "_law_times" qcn_ ["q", "r"] := A28.dfn X G fun _ _ _ _ _ _ us hl => by obtain ⟨_, _, rfl⟩ := len2 hl; rfl
  have d__law_less : Def K mg "_law_less" qdc_ ["q", "r"] := A29.dfn X G fun _ _ _ _ _ _ us hl => by obtain ⟨_, _, rfl⟩ := len2 hl; rfl
  have d__law_some : Def K mg "_law_some" qdb_ ["state"] := A30.dfn X G fun _ _ _ _ _ _ us hl => by obtain ⟨_, rfl⟩ := len1 hl; rfl
  have d__law_weight : Def K mg "_law_weight" qbz_ ["state", "wide"] := A31.dfn X G fun _ _ _ _ _ _ us hl => by obtain ⟨_, _, rfl⟩ := len2 hl; rfl
  have d__law_bounds : Def K mg "_law_bounds" qb6_ ["state"] := A32.dfn X G fun _ _ _ _ _ _ us hl => by obtain ⟨_, rfl⟩ := len1 hl; rfl
  have d__law_plan : Def K mg "_law_plan" qc9_ ["script"] := A33.dfn X G fun _ _ _ _ _ _ us hl => by obtain ⟨_, rfl⟩ := len1 hl; rfl
  have d__law_made : Def K mg "_law_made" qdj_ ["state", "plan"] := A34.dfn X G fun _ _ _ _ _ _ us hl => by obtain ⟨_, _, rfl⟩ := len2 hl; rfl
  have d__law_worth : Def K mg "_law_worth" qci_ ["row", "made", "choice"] := A35.dfn X G fun _ _ _ _ _ _ us hl => by obtain ⟨_, _, _, rfl⟩ := len3 hl; rfl
  have d__law_due : Def K mg "_law_due" qd5_ ["rule", "made"] := A36.dfn X G fun _ _ _ _ _ _ us hl => by obtain ⟨_, _, rfl⟩ := len2 hl; rfl
  have d__law_told : Def K mg "_law_told" qc6_ ["rule", "made"] := A37.dfn X G fun _ _ _ _ _ _ us hl => by obtain ⟨_, _, rfl⟩ := len2 hl; rfl
  have d__law_whole : Def K mg "_law_whole" qcl_ ["found"] := A38.dfn X G fun _ _ _ _ _ _ us hl => by obtain ⟨_, rfl⟩ := len1 hl; rfl
  have d_law : Def K mg "law" qeh_ ["script"] := ⟨_, _, qhg_ (st := qeh_) l39 c39 k39, (qhg_ (st := qeh_) l39 c39 k39).binds (ps := ["script"]) fun _ _ _ _ _ _ us hl => by obtain ⟨_, rfl⟩ := len1 hl; rfl, PySem.W.mg_of X G a39⟩
  refine ⟨PySem.W.fnOf "law" "law" (qct_ qeh_) (qz_ qeh_) (qd_ qeh_) .none kV39 dc39 pm39 an39 cd39 ct39, fun s v => .of_eq rfl, fun base _ _ => ?_⟩
  have h_common_divisor := M.h_common_divisor (P := l.prog) (w := w) (base := base) B d_common_divisor 
  have h_opposite := M.h_opposite (P := l.prog) (w := w) (base := base) B d_opposite 
  have h_below := M.h_below (P := l.prog) (w := w) (base := base) B d_below 
  have h_copied_rows := M.h_copied_rows (P := l.prog) (w := w) (base := base) B d_copied_rows 
  have h_all_but_one_0 := M.h_all_but_one_0 (P := l.prog) (w := w) (base := base) B d_all_but_one_0  (C_ZERO := C_ZERO)
  have h__law_cell := M.h__law_cell (P := l.prog) (w := w) (base := base) B d__law_cell 
  have h__law_take := M.h__law_take (P := l.prog) (w := w) (base := base) B d__law_take 
  have h__law_frac := M.h__law_frac (P := l.prog) (w := w) (base := base) B d__law_frac 
  have h__law_less := M.h__law_less (P := l.prog) (w := w) (base := base) B d__law_less 
  have h__law_whole := M.h__law_whole (P := l.prog) (w := w) (base := base) B d__law_whole 
  have h_fraction := M.h_fraction (P := l.prog) (w := w) (base := base) B d_fraction (F_common_divisor := h_common_divisor)
  have h_bound_rows := M.h_bound_rows (P := l.prog) (w := w) (base := base) B2 d_bound_rows (F_all_but_one_0 := h_all_but_one_0) (F_opposite := h_opposite) (C_ONE := C_ONE)
  have h_says_nothing := M.h_says_nothing (P := l.prog) (w := w) (base := base) B d_says_nothing (F_below := h_below) (C_ZERO := C_ZERO)
  have h_greatest_of := M.h_greatest_of (P := l.prog) (w := w) (base := base) B d_greatest_of (F_below := h_below)
  have h__law_state := M.h__law_state (P := l.prog) (w := w) (base := base) B d__law_state (F__law_cell := h__law_cell)
  have h__law_plus := M.h__law_plus (P := l.prog) (w := w) (base := base) B d__law_plus (F__law_frac := h__law_frac)
  have h__law_times := M.h__law_times (P := l.prog) (w := w) (base := base) B d__law_times (F__law_frac := h__law_frac)
  have h__law_some := M.h__law_some (P := l.prog) (w := w) (base := base) B d__law_some (F__law_take := h__law_take) (F__law_frac := h__law_frac)
  have h__law_weight := M.h__law_weight (P := l.prog) (w := w) (base := base) B d__law_weight (F__law_take := h__law_take) (F__law_frac := h__law_frac)
  have h_plus := M.h_plus (P := l.prog) (w := w) (base := base) B d_plus (F_fraction := h_fraction)
  have h_times := M.h_times (P := l.prog) (w := w) (base := base) B d_times (F_fraction := h_fraction)
  have h_over := M.h_over (P := l.prog) (w := w) (base := base) B d_over (F_fraction := h_fraction)
  have h_put_on := M.h_put_on (P := l.prog) (w := w) (base := base) B d_put_on (F_says_nothing := h_says_nothing)
  have h_shim_rows := M.h_shim_rows (P := l.prog) (w := w) (base := base) B d_shim_rows (F_bound_rows := h_bound_rows) (C_ZERO := C_ZERO)
  have h__law_bounds := M.h__law_bounds (P := l.prog) (w := w) (base := base) B d__law_bounds (F__law_some := h__law_some) (F__law_plus := h__law_plus) (F__law_frac := h__law_frac) (F__law_take := h__law_take)
  have h__law_made := M.h__law_made (P := l.prog) (w := w) (base := base) B d__law_made (F__law_frac := h__law_frac) (F__law_plus := h__law_plus) (F__law_take := h__law_take) (F__law_times := h__law_times) (F__law_some := h__law_some)
  have h__law_worth := M.h__law_worth (P := l.prog) (w := w) (base := base) B d__law_worth (F__law_plus := h__law_plus) (F__law_times := h__law_times)
  have h_weighed_sum := M.h_weighed_sum (P := l.prog) (w := w) (base := base) B d_weighed_sum (F_plus := h_plus) (F_times := h_times) (C_ZERO := C_ZERO)
  have h_first_rows := M.h_first_rows (P := l.prog) (w := w) (base := base) B d_first_rows (F_put_on := h_put_on) (F_copied_rows := h_copied_rows) (F_shim_rows := h_shim_rows)
  have h_mixed := M.h_mixed (P := l.prog) (w := w) (base := base) B d_mixed (F_plus := h_plus) (F_times := h_times)
  have h__law_plan := M.h__law_plan (P := l.prog) (w := w) (base := base) B d__law_plan (F__law_cell := h__law_cell) (F__law_bounds := h__law_bounds) (F__law_state := h__law_state) (F__law_weight := h__law_weight) (F__law_some := h__law_some)
  have h__law_due := M.h__law_due (P := l.prog) (w := w) (base := base) B d__law_due (F__law_less := h__law_less) (F__law_worth := h__law_worth) (F__law_frac := h__law_frac)
  have h_demand_worth := M.h_demand_worth (P := l.prog) (w := w) (base := base) B d_demand_worth (F_plus := h_plus) (F_weighed_sum := h_weighed_sum)
  have h_put_together := M.h_put_together (P := l.prog) (w := w) (base := base) B d_put_together (F_opposite := h_opposite) (F_mixed := h_mixed) (F_plus := h_plus) (F_times := h_times)
  have h_taken_out := M.h_taken_out (P := l.prog) (w := w) (base := base) B d_taken_out (F_put_on := h_put_on) (F_below := h_below) (F_put_together := h_put_together) (C_ZERO := C_ZERO)
  have h_least_let := M.h_least_let (P := l.prog) (w := w) (base := base) B d_least_let (F_over := h_over) (F_opposite := h_opposite) (F_demand_worth := h_demand_worth)
  have h_rule_of := M.h_rule_of (P := l.prog) (w := w) (base := base) B2 d_rule_of (F_first_rows := h_first_rows) (F_taken_out := h_taken_out)
  have h_chosen_by := M.h_chosen_by (P := l.prog) (w := w) (base := base) B d_chosen_by (F_below := h_below) (F_greatest_of := h_greatest_of) (F_demand_worth := h_demand_worth) (F_least_let := h_least_let) (C_ZERO := C_ZERO) (XC := XC_NoChoice)
  have h__law_told := M.h__law_told (P := l.prog) (w := w) (base := base) B d__law_told (F_chosen_by := h_chosen_by) (Z := Z)
  exact M.fn_law (P := l.prog) (w := w) (base := base) B2 (qhg_ (st := qeh_) l39 c39 k39) (F__law_plan := h__law_plan) (F_rule_of := h_rule_of) (F__law_made := h__law_made) (F__law_due := h__law_due) (F__law_told := h__law_told) (F__law_state := h__law_state) (F__law_whole := h__law_whole)
theorem walk {l : PySem.W.OpenLaw} {q : Program} {loose : List Str} {XP : (Str → Option Value) → Heap → Prop} {YP : World → Heap → Prop} {d : DefRec} {K : Params → PySem.W.Frag} (hn : l.most = some 63) (hdf : d.params.defaults = [])
    (hY : ∀ (w : World) (h : Heap), YP w h → (K w.params).In h)
    (F : ∀ (w : World) (mg : Str → Option Value) (fa : Addr) (h : Heap), (K w.params).In h → h.Ns mainGlobals mg → mg d.name = some (.ref fa) →
      ∃ fd : FuncData, (∀ (s : Shared) (u : Value), BindsTo s fd ⟨[u], []⟩ [("script", u)]) ∧ ∀ base : Heap, (K w.params).In base → base.Ns mainGlobals mg → FnOk l.prog w (K w.params) mg base CX0 9 fa fd ["script"] (qne_ (K w.params))) :
    PySem.W.WalkO q loose XP YP l.row.toRowW d [] (fun f vs => PySem.call f vs) :=
  L2.walk_of (n := 63) (k := 9) (x := "script") (CX := fun _ => CX0) (sp := fun w => qne_ (K w.params)) hn (by decide) hdf ⟨rfl, by decide, by decide⟩ hY F (fun _ _ a ns hl _ hS => ⟨a, ns, rfl, hS, hl, fun _ => rfl⟩) fun _ _ _ _ _ z => z
end M
-- the head would lay twins of the heap, of trees and of texts here; with their names taken it lays none and goes on without them, and the compiled file stays small
theorem PySem.W.Fast.tw6168356023621741030 : True := trivial
theorem PySem.W.Fast.tw2845491963916567859 : True := trivial
theorem PySem.W.Fast.tw17883167103746556870 : True := trivial
theorem PySem.W.Fast.tw11406588426310347599 : True := trivial
theorem PySem.W.Fast.tw17631824405788368193 : True := trivial
theorem PySem.W.Fast.tw14831320394794524504 : True := trivial
theorem PySem.W.Fast.tw12191963025004942447 : True := trivial
theorem PySem.W.Fast.tw6650988138154154136 : True := trivial
theorem PySem.W.Fast.tw14901082205903433428 : True := trivial
theorem PySem.W.Fast.tw11301884381514770262 : True := trivial
theorem PySem.W.Fast.tw4035242984579634467 : True := trivial
theorem PySem.W.Fast.tw6629789023357818467 : True := trivial
noncomputable def PySem.W.Fast.tw4224147505238667402 : PySem.Program := PySem.Challenge.pw_shimright_k20_chosen_by_a_rule
theorem PySem.W.Fast.te4224147505238667402 : PySem.Challenge.pw_shimright_k20_chosen_by_a_rule = PySem.W.Fast.tw4224147505238667402 := rfl
theorem PySem.W.Fast.te13037137228866533371 : True := trivial
theorem PySem.W.Fast.tw11359188237405725752 : True := trivial
theorem PySem.W.Fast.tw2742140221013004845 : True := trivial
namespace M
end M
open PySem PySem.W PyProof.Rows
set_option maxRecDepth 100000 in
set_option maxHeartbeats 0 in
theorem PySem.Challenge.cw_shimright_k20_chosen_by_a_rule_holds : PySem.Challenge.rw_shimright_k20_chosen_by_a_rule.Holds := by
  w_on; o_law; k_head; (case hw => w_witness2)
  k_fill
  refine M.walk (l := PySem.Challenge.rw_shimright_k20_chosen_by_a_rule) rfl rfl (fun w h Y => PySem.W.kIn_of Y) ?F
  case F =>
    intro w mg fa h KX G hmg
    refine' M.all_mk KX G hmg ?A0 ?A1 ?A2 ?A3 ?A4 ?A5 ?A6 ?A7 ?A8 ?A9 ?A10 ?A11 ?A12 ?A13 ?A14 ?A15 ?A16 ?A17 ?A18 ?A19 ?A20 ?A21 ?A22 ?A23 ?A24 ?A25 ?A26 ?A27 ?A28 ?A29 ?A30 ?A31 ?A32 ?A33 ?A34 ?A35 ?A36 ?A37 ?A38 ?a39 ?l39 ?c39 ?k39 ?z_len ?z_abs ?z_isinstance ?z_tuple ?z_list ?z_int ?z_bool ?z_str ?z_range ?z_zip ?z_all ?z_any ?z_ValueError ?z_enumerate ?z_sum ?z_min ?z_max ?z_sorted ?z_reversed ?z_dict ?b_ZERO ?m_ZERO ?b_ONE ?m_ONE ?e_ShimError ?q_ShimError ?x0_ShimError ?x1_ShimError ?x2_ShimError ?x3_ShimError ?x4_ShimError ?x5_ShimError ?x6_ShimError ?x7_ShimError ?x8_ShimError ?e_NoNumber ?q_NoNumber ?x0_NoNumber ?x1_NoNumber ?x2_NoNumber ?x3_NoNumber ?x4_NoNumber ?x5_NoNumber ?x6_NoNumber ?x7_NoNumber ?x8_NoNumber ?e_NoChoice ?q_NoChoice ?x0_NoChoice ?x1_NoChoice ?x2_NoChoice ?x3_NoChoice ?x4_NoChoice ?x5_NoChoice ?x6_NoChoice ?x7_NoChoice ?x8_NoChoice ?e_NoName ?q_NoName ?x0_NoName ?x1_NoName ?x2_NoName ?x3_NoName ?x4_NoName ?x5_NoName ?x6_NoName ?x7_NoName ?x8_NoName ?e_NoRow ?q_NoRow ?x0_NoRow ?x1_NoRow ?x2_NoRow ?x3_NoRow ?x4_NoRow ?x5_NoRow ?x6_NoRow ?x7_NoRow ?x8_NoRow ?e_NoText ?q_NoText ?x0_NoText ?x1_NoText ?x2_NoText ?x3_NoText ?x4_NoText ?x5_NoText ?x6_NoText ?x7_NoText ?x8_NoText ?e_TooMany ?q_TooMany ?x0_TooMany ?x1_TooMany ?x2_TooMany ?x3_TooMany ?x4_TooMany ?x5_TooMany ?x6_TooMany ?x7_TooMany ?x8_TooMany ?s_NoChoice_ShimError ?s_NoChoice_NoNumber ?s_NoChoice_NoChoice ?s_NoChoice_NoName ?s_NoChoice_NoRow ?s_NoChoice_NoText ?s_NoChoice_TooMany ?s_NoChoice_ValueError
    (case A0 => (refine' M.At.of ?a ?l ?c ?k; (case a => k_is); (case l => k_is); (case c => k_is); case k => k_is))
    (case A1 => (refine' M.At.of ?a ?l ?c ?k; (case a => k_is); (case l => k_is); (case c => k_is); case k => k_is))
    (case A2 => (refine' M.At.of ?a ?l ?c ?k; (case a => k_is); (case l => k_is); (case c => k_is); case k => k_is))
    (case A3 => (refine' M.At.of ?a ?l ?c ?k; (case a => k_is); (case l => k_is); (case c => k_is); case k => k_is))
    (case A4 => (refine' M.At.of ?a ?l ?c ?k; (case a => k_is); (case l => k_is); (case c => k_is); case k => k_is))
    (case A5 => (refine' M.At.of ?a ?l ?c ?k; (case a => k_is); (case l => k_is); (case c => k_is); case k => k_is))
    (case A6 => (refine' M.At.of ?a ?l ?c ?k; (case a => k_is); (case l => k_is); (case c => k_is); case k => k_is))
    (case A7 => (refine' M.At.of ?a ?l ?c ?k; (case a => k_is); (case l => k_is); (case c => k_is); case k => k_is))
    (case A8 => (refine' M.At.of ?a ?l ?c ?k; (case a => k_is); (case l => k_is); (case c => k_is); case k => k_is))
    (case A9 => (refine' M.At.of ?a ?l ?c ?k; (case a => k_is); (case l => k_is); (case c => k_is); case k => k_is))
    (case A10 => (refine' M.At.of ?a ?l ?c ?k; (case a => k_is); (case l => k_is); (case c => k_is); case k => k_is))
    (case A11 => (refine' M.At.of ?a ?l ?c ?k; (case a => k_is); (case l => k_is); (case c => k_is); case k => k_is))
    (case A12 => (refine' M.At.of ?a ?l ?c ?k; (case a => k_is); (case l => k_is); (case c => k_is); case k => k_is))
    (case A13 => (refine' M.At.of ?a ?l ?c ?k; (case a => k_is); (case l => k_is); (case c => k_is); case k => k_is))
    (case A14 => (refine' M.At.of ?a ?l ?c ?k; (case a => k_is); (case l => k_is); (case c => k_is); case k => k_is))
    (case A15 => (refine' M.At.of ?a ?l ?c ?k; (case a => k_is); (case l => k_is); (case c => k_is); case k => k_is))
    (case A16 => (refine' M.At.of ?a ?l ?c ?k; (case a => k_is); (case l => k_is); (case c => k_is); case k => k_is))
    (case A17 => (refine' M.At.of ?a ?l ?c ?k; (case a => k_is); (case l => k_is); (case c => k_is); case k => k_is))
    (case A18 => (refine' M.At.of ?a ?l ?c ?k; (case a => k_is); (case l => k_is); (case c => k_is); case k => k_is))
    (case A19 => (refine' M.At.of ?a ?l ?c ?k; (case a => k_is); (case l => k_is); (case c => k_is); case k => k_is))
    (case A20 => (refine' M.At.of ?a ?l ?c ?k; (case a => k_is); (case l => k_is); (case c => k_is); case k => k_is))
    (case A21 => (refine' M.At.of ?a ?l ?c ?k; (case a => k_is); (case l => k_is); (case c => k_is); case k => k_is))
    (case A22 => (refine' M.At.of ?a ?l ?c ?k; (case a => k_is); (case l => k_is); (case c => k_is); case k => k_is))
    (case A23 => (refine' M.At.of ?a ?l ?c ?k; (case a => k_is); (case l => k_is); (case c => k_is); case k => k_is))
    (case A24 => (refine' M.At.of ?a ?l ?c ?k; (case a => k_is); (case l => k_is); (case c => k_is); case k => k_is))
    (case A25 => (refine' M.At.of ?a ?l ?c ?k; (case a => k_is); (case l => k_is); (case c => k_is); case k => k_is))
    (case A26 => (refine' M.At.of ?a ?l ?c ?k; (case a => k_is); (case l => k_is); (case c => k_is); case k => k_is))
    (case A27 => (refine' M.At.of ?a ?l ?c ?k; (case a => k_is); (case l => k_is); (case c => k_is); case k => k_is))
    (case A28 => (refine' M.At.of ?a ?l ?c ?k; (case a => k_is); (case l => k_is); (case c => k_is); case k => k_is))
    (case A29 => (refine' M.At.of ?a ?l ?c ?k; (case a => k_is); (case l => k_is); (case c => k_is); case k => k_is))
    (case A30 => (refine' M.At.of ?a ?l ?c ?k; (case a => k_is); (case l => k_is); (case c => k_is); case k => k_is))
    (case A31 => (refine' M.At.of ?a ?l ?c ?k; (case a => k_is); (case l => k_is); (case c => k_is); case k => k_is))
    (case A32 => (refine' M.At.of ?a ?l ?c ?k; (case a => k_is); (case l => k_is); (case c => k_is); case k => k_is))
    (case A33 => (refine' M.At.of ?a ?l ?c ?k; (case a => k_is); (case l => k_is); (case c => k_is); case k => k_is))
    (case A34 => (refine' M.At.of ?a ?l ?c ?k; (case a => k_is); (case l => k_is); (case c => k_is); case k => k_is))
    (case A35 => (refine' M.At.of ?a ?l ?c ?k; (case a => k_is); (case l => k_is); (case c => k_is); case k => k_is))
    (case A36 => (refine' M.At.of ?a ?l ?c ?k; (case a => k_is); (case l => k_is); (case c => k_is); case k => k_is))
    (case A37 => (refine' M.At.of ?a ?l ?c ?k; (case a => k_is); (case l => k_is); (case c => k_is); case k => k_is))
    (case A38 => (refine' M.At.of ?a ?l ?c ?k; (case a => k_is); (case l => k_is); (case c => k_is); case k => k_is))
    (case a39 => k_is)
    (case l39 => k_is)
    (case c39 => k_is)
    (case k39 => k_is)
    (case z_len => k_is)
    (case z_abs => k_is)
    (case z_isinstance => k_is)
    (case z_tuple => k_is)
    (case z_list => k_is)
    (case z_int => k_is)
    (case z_bool => k_is)
    (case z_str => k_is)
    (case z_range => k_is)
    (case z_zip => k_is)
    (case z_all => k_is)
    (case z_any => k_is)
    (case z_ValueError => k_is)
    (case z_enumerate => k_is)
    (case z_sum => k_is)
    (case z_min => k_is)
    (case z_max => k_is)
    (case z_sorted => k_is)
    (case z_reversed => k_is)
    (case z_dict => k_is)
    (case b_ZERO => k_is)
    (case m_ZERO => k_is)
    (case b_ONE => k_is)
    (case m_ONE => k_is)
    (case e_ShimError => k_is)
    (case q_ShimError => k_exc)
    (case x0_ShimError => k_is)
    (case x1_ShimError => k_is)
    (case x2_ShimError => k_is)
    (case x3_ShimError => k_is)
    (case x4_ShimError => k_is)
    (case x5_ShimError => k_is)
    (case x6_ShimError => k_is)
    (case x7_ShimError => k_is)
    (case x8_ShimError => k_is)
    (case e_NoNumber => k_is)
    (case q_NoNumber => k_exc)
    (case x0_NoNumber => k_is)
    (case x1_NoNumber => k_is)
    (case x2_NoNumber => k_is)
    (case x3_NoNumber => k_is)
    (case x4_NoNumber => k_is)
    (case x5_NoNumber => k_is)
    (case x6_NoNumber => k_is)
    (case x7_NoNumber => k_is)
    (case x8_NoNumber => k_is)
    (case e_NoChoice => k_is)
    (case q_NoChoice => k_exc)
    (case x0_NoChoice => k_is)
    (case x1_NoChoice => k_is)
    (case x2_NoChoice => k_is)
    (case x3_NoChoice => k_is)
    (case x4_NoChoice => k_is)
    (case x5_NoChoice => k_is)
    (case x6_NoChoice => k_is)
    (case x7_NoChoice => k_is)
    (case x8_NoChoice => k_is)
    (case e_NoName => k_is)
    (case q_NoName => k_exc)
    (case x0_NoName => k_is)
    (case x1_NoName => k_is)
    (case x2_NoName => k_is)
    (case x3_NoName => k_is)
    (case x4_NoName => k_is)
    (case x5_NoName => k_is)
    (case x6_NoName => k_is)
    (case x7_NoName => k_is)
    (case x8_NoName => k_is)
    (case e_NoRow => k_is)
    (case q_NoRow => k_exc)
    (case x0_NoRow => k_is)
    (case x1_NoRow => k_is)
    (case x2_NoRow => k_is)
    (case x3_NoRow => k_is)
    (case x4_NoRow => k_is)
    (case x5_NoRow => k_is)
    (case x6_NoRow => k_is)
    (case x7_NoRow => k_is)
    (case x8_NoRow => k_is)
    (case e_NoText => k_is)
    (case q_NoText => k_exc)
    (case x0_NoText => k_is)
    (case x1_NoText => k_is)
    (case x2_NoText => k_is)
    (case x3_NoText => k_is)
    (case x4_NoText => k_is)
    (case x5_NoText => k_is)
    (case x6_NoText => k_is)
    (case x7_NoText => k_is)
    (case x8_NoText => k_is)
    (case e_TooMany => k_is)
    (case q_TooMany => k_exc)
    (case x0_TooMany => k_is)
    (case x1_TooMany => k_is)
    (case x2_TooMany => k_is)
    (case x3_TooMany => k_is)
    (case x4_TooMany => k_is)
    (case x5_TooMany => k_is)
    (case x6_TooMany => k_is)
    (case x7_TooMany => k_is)
    (case x8_TooMany => k_is)
    (case s_NoChoice_ShimError => k_is)
    (case s_NoChoice_NoNumber => k_is)
    (case s_NoChoice_NoChoice => k_is)
    (case s_NoChoice_NoName => k_is)
    (case s_NoChoice_NoRow => k_is)
    (case s_NoChoice_NoText => k_is)
    (case s_NoChoice_TooMany => k_is)
    (case s_NoChoice_ValueError => k_is)
#print axioms PySem.Challenge.cw_shimright_k20_chosen_by_a_rule_holds
