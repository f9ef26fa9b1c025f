import PyProof.Rows.All
import Wide.All
import OpenK.AllK
import Wide.FinOn
import Lean
import PyProof.EqAt
import PyProof.EqKinds
import PyProof.TupleCall
import PyProof.NeKinds
import KE.KLam
import KE.KMinKey
import PySem.Challenge.RW_shimright_k23_whole_demands_in_any_order
set_option genInjectivity false
set_option genSizeOf false
set_option genSizeOfSpec false
set_option bootstrap.genMatcherCode false
set_option compiler.extract_closed false
set_option Elab.async false
set_option linter.all false
set_option maxRecDepth 100000
namespace L2
private theorem e12 {α : Type} {A B : α → Prop} {R : Prop} (h : ∃ x, A x ∧ B x) (k : ∀ x, A x → B x → R) : R := h.elim fun x h => k x h.1 h.2
private theorem e22 {α β : Type} {A B : α → β → Prop} {R : Prop} (h : ∃ x y, A x y ∧ B x y) (k : ∀ x y, A x y → B x y → R) : R := h.elim fun x h => h.elim fun y h => k x y h.1 h.2
private theorem e23 {α β : Type} {A B C : α → β → Prop} {R : Prop} (h : ∃ x y, A x y ∧ B x y ∧ C x y) (k : ∀ x y, A x y → B x y → C x y → R) : R := h.elim fun x h => h.elim fun y h => k x y h.1 h.2.1 h.2.2
private theorem e24 {α β : Type} {A B C D : α → β → Prop} {R : Prop} (h : ∃ x y, A x y ∧ B x y ∧ C x y ∧ D x y) (k : ∀ x y, A x y → B x y → C x y → D x y → R) : R := h.elim fun x h => h.elim fun y h => k x y h.1 h.2.1 h.2.2.1 h.2.2.2
open PySem PySem.Spec PyProof.Rows
noncomputable abbrev Key := Sum Int Str
noncomputable def keyIs : Key → Value → Bool
  | .inl k, v => Value.isInt k v
  | .inr x, v => Value.isStrOf x v
noncomputable def keyH (w : World) : Key → Int
  | .inl k => hashInt k
  | .inr x => hashStr w x
private theorem keyIs_shape : ∀ {k : Key} {v : Value}, keyIs k v = true → (∃ i t, k = Sum.inl i ∧ v = Value.int i t) ∨ (∃ x t, k = Sum.inr x ∧ v = Value.str x t)
  | .inl i, v, h => by
    obtain ⟨t, e⟩ := Value.isInt_shape (k := i) (v := v) h
    exact .inl ⟨i, t, rfl, e⟩
  | .inr x, v, h => by
    obtain ⟨t, e⟩ := Value.isStrOf_shape (x := x) (v := v) h
    exact .inr ⟨x, t, rfl, e⟩
private theorem keyIs_int (i : Int) (t : Tok) : keyIs (.inl i) (.int i t) = true := by simp [keyIs, Value.isInt]
private theorem keyIs_str (x : Str) (t : Tok) : keyIs (.inr x) (.str x t) = true := by simp [keyIs, Value.isStrOf]
private theorem key_ll (a b : Int) : decide ((Sum.inl a : Key) = Sum.inl b) = (a == b) := by
  by_cases e : a = b
  · subst e; simp
  · have h : ¬ (Sum.inl a : Key) = Sum.inl b := fun q => e (Sum.inl.inj q)
    rw [decide_eq_false h]
    exact (beq_eq_false_iff_ne.mpr e).symm
private theorem key_rr (a b : Str) : decide ((Sum.inr a : Key) = Sum.inr b) = decide (a = b) := by
  by_cases e : a = b
  · subst e; simp
  · have h : ¬ (Sum.inr a : Key) = Sum.inr b := fun q => e (Sum.inr.inj q)
    rw [decide_eq_false h, decide_eq_false e]
private theorem key_lr (a : Int) (b : Str) : decide ((Sum.inl a : Key) = Sum.inr b) = false := decide_eq_false (fun q => nomatch q)
private theorem key_rl (a : Str) (b : Int) : decide ((Sum.inr a : Key) = Sum.inl b) = false := decide_eq_false (fun q => nomatch q)
noncomputable def mixKind (prog : Program) (w : World) : PySem.KeyKind prog w Key where
  is := keyIs
  hash := keyH w
  inj := fun v a b ha hb => by
    rcases keyIs_shape ha with ⟨i, t, rfl, rfl⟩ | ⟨x, t, rfl, rfl⟩
    · rcases keyIs_shape hb with ⟨j, u, rfl, e⟩ | ⟨y, u, rfl, e⟩
      · injection e with e1 _; rw [e1]
      · exact nomatch e
    · rcases keyIs_shape hb with ⟨j, u, rfl, e⟩ | ⟨y, u, rfl, e⟩
      · exact nomatch e
      · injection e with e1 _; rw [e1]
  byValue := fun k v h => by
    rcases keyIs_shape h with ⟨i, t, rfl, rfl⟩ | ⟨x, t, rfl, rfl⟩ <;> rfl
  pyHash := fun hv h => by
    rcases keyIs_shape hv with ⟨i, t, rfl, rfl⟩ | ⟨x, t, rfl, rfl⟩
    · exact wpAny_pyHash_int h
    · exact wpAny_pyHash_str h
  eqBool := fun hu hv h => by
    rcases keyIs_shape hu with ⟨i, t, rfl, rfl⟩ | ⟨x, t, rfl, rfl⟩
    · rcases keyIs_shape hv with ⟨j, u, rfl, rfl⟩ | ⟨y, u, rfl, rfl⟩
      · rw [key_ll] at h; exact wpAny_eqBool_int h
      · rw [key_lr] at h; exact SeqAt.EqAt.int_str i t y u _ _ _ _ h
    · rcases keyIs_shape hv with ⟨j, u, rfl, rfl⟩ | ⟨y, u, rfl, rfl⟩
      · rw [key_rl] at h; exact SeqAt.EqAt.str_int x t j u _ _ _ _ h
      · rw [key_rr] at h; exact wpAny_eqBool_str h
  «strs» := fun k x t v h => by
    rcases keyIs_shape h with ⟨i, u, rfl, e⟩ | ⟨y, u, rfl, e⟩
    · exact nomatch e
    · injection e with e1 _
      subst e1
      cases v <;> rfl
private theorem mixKind_int (prog : Program) (w : World) (i : Int) (t : Tok) : (mixKind prog w).is (.inl i) (.int i t) = true := keyIs_int i t
private theorem mixKind_str (prog : Program) (w : World) (x : Str) (t : Tok) : (mixKind prog w).is (.inr x) (.str x t) = true := keyIs_str x t
end L2
namespace L2
open PySem PySem.Spec PyProof.Rows
inductive V where
  | non | bl (b : Bool) | int (i : Int) | str (x : Str) | byt (b : Array UInt8) | flt (b : UInt64) | ref (a : Addr) | ty (n : String)
  deriving DecidableEq
noncomputable def RelV : V → Value → Prop
  | .non, u => u = Value.none
  | .bl b, u => u = Value.bool b
  | .int i, u => ∃ t, u = Value.int i t
  | .str x, u => ∃ t, u = Value.str x t
  | .byt b, u => ∃ t, u = Value.bytes b t
  | .flt b, u => ∃ t, u = Value.float b t
  | .ref a, u => u = Value.ref a
  | .ty n, u => u = Value.type n
noncomputable abbrev Vals : List V → List Value → Prop := Paired RelV
private theorem Vals.length {xs : List V} {us : List Value} (r : Vals xs us) : xs.length = us.length := Paired.length r
private theorem Vals.get : ∀ {xs : List V} {us : List Value} {i : Nat} {x : V}, Vals xs us → xs[i]? = some x → ∃ u, us[i]? = some u ∧ RelV x u
  | _, _, _, _, .nil, e => by simp at e
  | _, _, 0, _, .cons r _, e => by simp at e; subst e; exact ⟨_, rfl, r⟩
  | _, _, i + 1, x, .cons _ t, e => by
    obtain ⟨u, h1, h2⟩ := Vals.get (i := i) (x := x) t (by simpa using e)
    exact ⟨u, by simpa using h1, h2⟩
private theorem Vals.set {x : V} {u : Value} (r : RelV x u) : ∀ {xs : List V} {us : List Value} (i : Nat), Vals xs us → Vals (xs.set i x) (us.set i u)
  | _, _, _, .nil => .nil
  | _, _, 0, .cons _ t => .cons r t
  | _, _, i + 1, .cons q t => .cons q (Vals.set r i t)
private theorem Vals.append : ∀ {xs ys : List V} {us ws : List Value}, Vals xs us → Vals ys ws → Vals (xs ++ ys) (us ++ ws)
  | _, _, _, _, .nil, s => s
  | _, _, _, _, .cons r t, s => .cons r (Vals.append t s)
private theorem Vals.take : ∀ {xs : List V} {us : List Value} (n : Nat), Vals xs us → Vals (xs.take n) (us.take n)
  | _, _, 0, _ => .nil
  | _, _, _ + 1, .nil => .nil
  | _, _, n + 1, .cons r t => .cons r (Vals.take n t)
private theorem Vals.drop : ∀ {xs : List V} {us : List Value} (n : Nat), Vals xs us → Vals (xs.drop n) (us.drop n)
  | _, _, 0, r => r
  | _, _, _ + 1, .nil => .nil
  | _, _, n + 1, .cons _ t => Vals.drop n t
noncomputable def RelO : Option V → Option Value → Prop
  | some v, some u => RelV v u
  | none, none => True
  | _, _ => False
noncomputable def KV {κ : Type} : List (κ × V) → List (κ × Value) → Prop := Paired fun (p : κ × V) (q : κ × Value) => p.1 = q.1 ∧ RelV p.2 q.2
noncomputable def kV : Key → V
  | .inl i => .int i
  | .inr x => .str x
inductive HO where
  | lst (xs : List V)
  | tup (xs : List V)
  | dK (kvs : List (Key × V)) | dT (kvs : List (List Key × V))
  | set (S : Int → Bool) (n : Nat)
  | ins (C dx : Addr) (fs : List (Str × V))
  | own (x : Addr)
  | xd (fs : List (Str × V))
  | met (f x : Addr)
  | rng (lo hi : Int)
  | frz (o : Obj) (u : HO)
  | tbl (ps : Array Value)
  | ext (φ : Heap → Prop)
noncomputable abbrev Hp := Addr → Option HO
noncomputable def upd (H : Hp) (a : Addr) (o : HO) : Hp := fun b => if b = a then some o else H b
private theorem upd_same {H : Hp} {a : Addr} {o : HO} : upd H a o a = some o := by unfold upd; rw [if_pos rfl]
private theorem upd_ne {H : Hp} {a b : Addr} {o : HO} (h : b ≠ a) : upd H a o b = H b := by unfold upd; rw [if_neg h]
private theorem ne_of {H : Hp} {a b : Addr} {o u : HO} (h : H a = some o) (h' : H b = some u) (d : o ≠ u) : a ≠ b := by
  intro e; subst e; rw [h] at h'; exact d (Option.some.inj h')
private theorem ne_of_none {H : Hp} {a b : Addr} {o : HO} (h : H a = some o) (h' : H b = none) : a ≠ b := by
  intro e; subst e; rw [h] at h'; cases h'
section
variable (P : Program) (w : World)
noncomputable def ObjOk (H : Hp) (h : Heap) (a : Addr) : HO → Prop
  | .lst xs => xs.length ≤ sizeLine ∧ ∃ (its : List Value) (n : Nat), Vals xs its ∧ h.get? a = some { cls := .type "list", data := .seq its.toArray n }
  | .tup xs => xs.length ≤ sizeLine ∧ ∃ its : List Value, Vals xs its ∧ IsTup h a its.toArray
  | .dK kvs => kvs.length ≤ sizeLine ∧ (a == sysModules) = false ∧ ∃ vs, KV kvs vs ∧ h.DictOf (mixKind P w) a vs
  | .dT kvs => kvs.length ≤ sizeLine ∧ (a == sysModules) = false ∧ ∃ xs : List (List Key × Addr × Value),
      Paired (fun (p : List Key × V) (q : List Key × Addr × Value) => p.1 = q.1 ∧ H q.2.1 = some (.tup (p.1.map kV)) ∧ RelV p.2 q.2.2) kvs xs ∧
      ∃ o es ep, h.get? a = some o ∧ o.ExactDict ∧ o.data = .dict es ep ∧ es.toList = xs.map (entryOfKey (tupleKind (mixKind P w))) ∧ (xs.map (·.1)).Nodup
  | .set S n => h.SetOf (intKind P w) a S n
  | .ins C dx fs => H dx = some (.own a) ∧ fs.length ≤ 1000 ∧ dx ≠ a ∧ h.get? a = some (PySem.W.instObj C dx) ∧
      ∃ mA, h.Ns1 dx mA ∧ (∀ f, RelO (fs.lookup f) (mA f)) ∧ PySem.Within mA (fs.map (·.1))
  | .own _ => ∃ o, h.get? a = some o
  | .xd fs => ∃ mA, h.Ns1 a mA ∧ ∀ f, RelO (fs.lookup f) (mA f)
  | .rng lo hi => ∃ t u v, h.get? a = some { cls := .type "range", data := .fields #[.int lo t, .int hi u, .int 1 v] }
  | .frz o u => h.get? a = some o ∧ ObjOk H h a u
  | .tbl ps => h.get? a = some { cls := .none, data := .fields ps }
  | .met f x => h.get? a = some (PySem.W.methodObj (.ref f) (.ref x))
  | .ext φ => φ h ∧ (∃ o, h.get? a = some o) ∧ ∀ h1 h2 : Heap, φ h1 → (∀ o, h1.get? a = some o → h2.get? a = some o) → φ h2
noncomputable def HOk (H : Hp) (h : Heap) : Prop := ∀ a o, H a = some o → ObjOk P w H h a o
end
section
variable {P : Program} {w : World} {H H' : Hp} {h h' : Heap} {a : Addr} {o : HO}
private theorem ObjOk.lt (x : ObjOk P w H h a o) : a < h.objs.size := by
  cases o with
  | lst xs => obtain ⟨_, _, _, _, e⟩ := x; exact Heap.lt_size e
  | tup xs => obtain ⟨_, _, _, p⟩ := x; exact p.lt
  | dK kvs => obtain ⟨_, _, _, _, o, _, _, e, _⟩ := x; exact Heap.lt_size e
  | dT kvs => obtain ⟨_, _, _, _, o, _, _, e, _⟩ := x; exact Heap.lt_size e
  | set S n => obtain ⟨o, _, _, _, e, _⟩ := x; exact Heap.lt_size e
  | ins C dx fs => obtain ⟨_, _, _, e, _⟩ := x; exact Heap.lt_size e
  | own y => obtain ⟨_, e⟩ := x; exact Heap.lt_size e
  | xd fs => obtain ⟨_, ⟨_, _, _, e, _⟩, _⟩ := x; exact Heap.lt_size e
  | rng lo hi => obtain ⟨_, _, _, e⟩ := x; exact Heap.lt_size e
  | frz ob u => obtain ⟨e, _⟩ := x; exact Heap.lt_size e
  | tbl ps => exact Heap.lt_size (show h.get? a = some _ from x)
  | met f y => exact Heap.lt_size (show h.get? a = some _ from x)
  | ext φ => obtain ⟨_, ⟨_, e⟩, _⟩ := x; exact Heap.lt_size e
private theorem Paired.mapP {α β : Type} {F G : α → β → Prop} : ∀ {l₁ : List α} {l₂ : List β}, Paired F l₁ l₂ → (∀ a b, F a b → G a b) → Paired G l₁ l₂
  | _, _, .nil, _ => .nil
  | _, _, .cons r t, f => .cons (f _ _ r) (Paired.mapP t f)
private theorem ObjOk.stay (x : ObjOk P w H h a o) (k : ∀ b u, (b = a ∨ H b = some (.own a)) → h.get? b = some u → h'.get? b = some u)
    (ho : ∀ b, H b = some (.own a) → H' b = some (.own a)) (ht : ∀ b xs, H b = some (.tup xs) → H' b = some (.tup xs)) : ObjOk P w H' h' a o := by
  induction o with
  | lst xs => obtain ⟨z, its, n, r, e⟩ := x; exact ⟨z, its, n, r, k _ _ (.inl rfl) e⟩
  | tup xs => obtain ⟨z, its, r, ob, e, c⟩ := x; exact ⟨z, its, r, ob, k _ _ (.inl rfl) e, c⟩
  | dK kvs => obtain ⟨z, y, vs, r, ob, es, ep, e, c⟩ := x; exact ⟨z, y, vs, r, ob, es, ep, k _ _ (.inl rfl) e, c⟩
  | dT kvs =>
    obtain ⟨z, y, xs, r, ob, es, ep, e, c⟩ := x
    exact ⟨z, y, xs, Paired.mapP r fun p q z => ⟨z.1, ht _ _ z.2.1, z.2.2⟩, ob, es, ep, k _ _ (.inl rfl) e, c⟩
  | set S n => obtain ⟨ob, es, ep, t, e, c⟩ := x; exact ⟨ob, es, ep, t, k _ _ (.inl rfl) e, c⟩
  | ins C dx fs =>
    obtain ⟨d, z, ne, e, mA, ⟨od, es, ep, e2, c⟩, r⟩ := x
    exact ⟨ho _ d, z, ne, k _ _ (.inl rfl) e, mA, ⟨od, es, ep, k _ _ (.inr d) e2, c⟩, r⟩
  | own y => obtain ⟨ob, e⟩ := x; exact ⟨ob, k _ _ (.inl rfl) e⟩
  | xd fs => obtain ⟨mA, ⟨od, es, ep, e, c⟩, r⟩ := x; exact ⟨mA, ⟨od, es, ep, k _ _ (.inl rfl) e, c⟩, r⟩
  | rng lo hi => obtain ⟨t, u, v, e⟩ := x; exact ⟨t, u, v, k _ _ (.inl rfl) e⟩
  | frz ob u ih => obtain ⟨e, q⟩ := x; exact ⟨k _ _ (.inl rfl) e, ih q⟩
  | tbl ps =>
    have e : h.get? a = some { cls := .none, data := .fields ps } := x
    show h'.get? a = some { cls := .none, data := .fields ps }
    exact k a _ (.inl rfl) e
  | met f y =>
    have e : h.get? a = some (PySem.W.methodObj (.ref f) (.ref y)) := x
    show h'.get? a = some (PySem.W.methodObj (.ref f) (.ref y))
    exact k a _ (.inl rfl) e
  | ext φ => obtain ⟨p, ⟨o, e⟩, st⟩ := x; exact ⟨st _ _ p fun o q => k _ _ (.inl rfl) q, ⟨o, k _ _ (.inl rfl) e⟩, st⟩
private theorem HOk.lt (x : HOk P w H h) (e : H a = some o) : a < h.objs.size := (x a o e).lt
private theorem HOk.fresh (x : HOk P w H h) (e : h.objs.size ≤ a) : H a = none := by
  cases q : H a with
  | none => rfl
  | some u => exact absurd (Nat.lt_of_lt_of_le (x.lt q) e) (Nat.lt_irrefl _)
private theorem HOk.kept (x : HOk P w H h) (k : ∀ b u, h.get? b = some u → h'.get? b = some u) : HOk P w H h' := fun a o e =>
  (x a o e).stay (fun b u _ q => k b u q) (fun _ q => q) fun _ _ q => q
private theorem HOk.laid (x : HOk P w H h) (k : ∀ b u, h.get? b = some u → h'.get? b = some u) (hp : h.objs.size ≤ a) (new : ObjOk P w (upd H a o) h' a o) : HOk P w (upd H a o) h' := fun b u e => by
  have hn := x.fresh hp
  by_cases hb : b = a
  · subst hb; rw [upd_same] at e; cases e; exact new
  · rw [upd_ne hb] at e
    exact (x b u e).stay (fun c v _ q => k c v q) (fun c q => by rw [upd_ne (ne_of_none q hn)]; exact q) fun c xs q => by rw [upd_ne (ne_of_none q hn)]; exact q
end
noncomputable def Rd (H : Hp) (a : Addr) (u : HO) : Prop := H a = some u ∨ ∃ o, H a = some (.frz o u)
private theorem Rd.ok {P : Program} {w : World} {H : Hp} {h : Heap} {a : Addr} {u : HO} (r : Rd H a u) (x : HOk P w H h) : ObjOk P w H h a u := by
  rcases r with r | ⟨o, r⟩
  · exact x a u r
  · obtain ⟨_, q⟩ := x a _ r
    exact q
noncomputable def Mut : Option HO → Prop
  | some (.lst _) => True
  | some (.dK _) => True
  | some (.dT _) => True
  | some (.set _ _) => True
  | some (.ins _ _ _) => True
  | some (.ext _) => True
  | _ => False
section
variable {P : Program} {w : World} {H : Hp} {h h' : Heap} {x e : Addr} {o' : HO}
private theorem HOk.write (ok : HOk P w H h) (mu : Mut (H x)) (he : e = x ∨ H e = some (.own x)) (k : ∀ b u, b ≠ e → h.get? b = some u → h'.get? b = some u) (heo : ∃ u, h'.get? e = some u)
    (new : ObjOk P w (upd H x o') h' x o') : HOk P w (upd H x o') h' := fun b u q => by
  have nown : ∀ c y, H c = some (.own y) → c ≠ x := fun c y r z => by subst z; rw [r] at mu; exact mu
  have ntup : ∀ c xs, H c = some (.tup xs) → c ≠ x := fun c xs r z => by subst z; rw [r] at mu; exact mu
  by_cases hb : b = x
  · subst hb; rw [upd_same] at q; cases q; exact new
  · rw [upd_ne hb] at q
    by_cases hbe : b = e
    · have q' : H b = some (.own x) := by
        rcases he with z | z
        · exact absurd (hbe.trans z) hb
        · rw [hbe]; exact z
      rw [q] at q'; cases q'
      obtain ⟨v, hv⟩ := heo
      exact ⟨v, by rw [hbe]; exact hv⟩
    · refine (ok b u q).stay (fun c v hc r => k c v ?_ r) (fun c r => by rw [upd_ne (nown c b r)]; exact r) fun c xs r => by rw [upd_ne (ntup c xs r)]; exact r
      rcases hc with rfl | hc
      · exact hbe
      · rintro rfl
        rcases he with z | z
        · exact nown c b hc z
        · rw [hc] at z; cases z; exact hb rfl
end
structure Un (fs ex : List Addr) (H H' : Hp) (h h' : Heap) : Prop where
  keep : ∀ b o, h.get? b = some o → H b = none → b ∉ fs → b ∉ ex → h'.get? b = some o
  slot : ∀ b o, h.get? b = some o → H b = none → b ∈ fs → b ∉ ex → ∃ sl, h'.get? b = some { o with slots := sl }
  free : ∀ b o, h.get? b = some o → H b = none → b ∉ ex → H' b = none
  there : ∀ b o, h.get? b = some o → b ∉ ex → ∃ o', h'.get? b = some o'
  tups : ∀ b xs, H b = some (.tup xs) → H' b = some (.tup xs)
  frzs : ∀ b o u, H b = some (.frz o u) → H' b = some (.frz o u)
  tbls : ∀ b ps, H b = some (.tbl ps) → ∃ more, H' b = some (.tbl (ps ++ more))
section
variable {fs fs' ex ex' : List Addr} {H H1 H2 : Hp} {h h1 h2 h' : Heap} {a x e : Addr} {o : HO}
private theorem Un.any (u : Un fs ex H H1 h h1) {b : Addr} {ob : Obj} (q : h.get? b = some ob) (n : H b = none) (hx : b ∉ ex) : ∃ sl, h1.get? b = some { ob with slots := sl } := by
  by_cases hb : b ∈ fs
  · exact u.slot b ob q n hb hx
  · exact ⟨ob.slots, u.keep b ob q n hb hx⟩
private theorem Un.kept (k : ∀ b u, h.get? b = some u → h'.get? b = some u) : Un fs ex H H h h' :=
  ⟨fun b ob q _ _ _ => k b ob q, fun b ob q _ _ _ => ⟨ob.slots, k b ob q⟩, fun _ _ _ n _ => n, fun b ob q _ => ⟨ob, k b ob q⟩, fun _ _ q => q, fun _ _ _ q => q, fun _ ps q => ⟨#[], by rw [q]; simp⟩⟩
private theorem Un.refl : Un fs ex H H h h := Un.kept fun _ _ q => q
private theorem Un.laid (k : ∀ b u, h.get? b = some u → h'.get? b = some u) (hp : h.objs.size ≤ a) (hn : H a = none) : Un fs ex H (upd H a o) h h' where
  keep := fun b u q _ _ _ => k b u q
  slot := fun b u q _ _ _ => ⟨u.slots, k b u q⟩
  free := fun b u q n _ => by rw [upd_ne (Nat.ne_of_lt (Nat.lt_of_lt_of_le (Heap.lt_size q) hp))]; exact n
  there := fun b u q _ => ⟨u, k b u q⟩
  tups := fun b xs q => by rw [upd_ne (ne_of_none q hn)]; exact q
  frzs := fun b u xs q => by rw [upd_ne (ne_of_none q hn)]; exact q
  tbls := fun b ps q => ⟨#[], by rw [upd_ne (ne_of_none q hn), q]; simp⟩
private theorem Un.write (mu : Mut (H x)) (he : e = x ∨ H e = some (.own x)) (k : ∀ b u, b ≠ e → h.get? b = some u → h'.get? b = some u) (heo : ∃ u, h'.get? e = some u) : Un fs ex H (upd H x o) h h' := by
  have hx : ∀ b, H b = none → b ≠ x := fun b n z => by subst z; rw [n] at mu; exact mu
  have hb : ∀ b, H b = none → b ≠ e := fun b n z => by
    subst z
    rcases he with r | r
    · exact hx b n r
    · rw [n] at r; cases r
  have hm : ∀ b u, H b = some u → ¬ Mut (some u) → b ≠ x := fun b u q nm z => by subst z; rw [q] at mu; exact nm mu
  refine ⟨fun b u q n _ _ => k b u (hb b n) q, fun b u q n _ _ => ⟨u.slots, k b u (hb b n) q⟩, fun b u q n _ => by rw [upd_ne (hx b n)]; exact n, fun b u q _ => ?_,
    fun b xs q => by rw [upd_ne (hm b _ q fun z => z)]; exact q, fun b u xs q => by rw [upd_ne (hm b _ q fun z => z)]; exact q, fun b ps q => ⟨#[], by rw [upd_ne (hm b _ q fun z => z), q]; simp⟩⟩
  by_cases hbe : b = e
  · subst hbe; exact heo
  · exact ⟨u, k b u hbe q⟩
end
noncomputable def trk (h : Heap) (H : Hp) : List Addr := (List.range h.objs.size).filter fun a => (H a).isSome
noncomputable def hidT (h : Heap) (H : Hp) : Heap := PySem.W.hideAll h (trk h H)
private theorem hidT_size (h : Heap) (H : Hp) : (hidT h H).objs.size = h.objs.size := PySem.W.hideAll_size _ _
private theorem hidT_get {h : Heap} {H : Hp} {b : Addr} {o : Obj} (e : h.get? b = some o) (n : H b = none) : (hidT h H).get? b = some o :=
  PySem.W.hideAll_get _ e fun hm => by
    have q : (H b).isSome = true := (List.mem_filter.mp hm).2
    rw [n] at q; simp at q
private theorem of_hidT {h : Heap} {H : Hp} {b : Addr} {o : Obj} (e : (hidT h H).get? b = some o) : h.get? b = some o ∧ H b = none := by
  have e' : h.get? b = some o := PySem.W.of_hideAll (trk h H) e
  refine ⟨e', ?_⟩
  cases q : H b with
  | none => rfl
  | some x =>
    have hm : b ∈ trk h H := List.mem_filter.mpr ⟨List.mem_range.mpr (Heap.lt_size e'), by simp [q]⟩
    have z : (hidT h H).get? b = none := PySem.W.hideAll_none (trk h H) hm
    rw [z] at e; cases e
end L2
namespace L2
open PySem PySem.Spec PyProof.Rows
structure Mod (K : PySem.W.Frag) (mg : Str → Option Value) (base : Heap) : Prop where
  kin : K.In base
  glob : base.Ns mainGlobals mg
  blt : ∃ mb, base.Ns builtinsNs mb ∧ ∀ x : Str, x ≠ "__name__" → mb x = bootBuiltins x
  nolimit : base.NoLimit
structure Cx where
  prog : Program
  w : World
  K : PySem.W.Frag
  mg : Str → Option Value
  base : Heap
  A : Around
  N : List Str
  s₀ : Shared
  H₀ : Hp
  env : Env
  outer : List Env
  stack : List Env
  ex : List Addr
  fn : Str → Bool
  calm : Bool
  pn : List (Addr × Obj)
  xe : Value → Shared → Prop
noncomputable def frs (l : List Env) : List Addr := l.filterMap (·.frame)
noncomputable abbrev Cx.fs (X : Cx) : List Addr := frs X.outer
noncomputable def Vis (sc : Scope) (x : Str) : Prop := sc.names.lookup x = some .local ∨ sc.names.lookup x = some .cell ∨ sc.names.lookup x = some .free
noncomputable def Loc (sc : Scope) (x : Str) : Prop := sc.names.lookup x = some .local ∨ sc.names.lookup x = some .cell
noncomputable def Look (env : Env) (h : Heap) (m : Str → Option Value) (x : Str) (u : Value) : Prop :=
  (env.kindOf x = some .local ∧ m x = some u) ∨ ((env.kindOf x = some .cell ∨ env.kindOf x = some .free) ∧ ∃ c, env.cells.lookup x = some c ∧ h.IsCell c (some u))
structure Cx.Ok (X : Cx) : Prop where
  mod : Mod X.K X.mg X.base
  kind : X.env.scope.kind = .function
  glob : X.env.globals = mainGlobals
  blt : X.env.builtins = builtinsNs
  above : X.s₀.heap.objs.size ≤ X.env.locals
  inj : ∀ x y c, X.env.cells.lookup x = some c → X.env.cells.lookup y = some c → x = y
  has : ∀ x, (X.env.kindOf x = some .cell ∨ X.env.kindOf x = some .free) → ∃ c, X.env.cells.lookup x = some c
  cab : ∀ x c, X.fn x = true → X.env.cells.lookup x = some c → X.s₀.heap.objs.size ≤ c
  hd : X.calm = true → X.A.handled = none
  frames : X.A.frames = some X.stack
  stk : X.stack = X.outer ∨ (X.stack = X.env :: X.outer ∧ X.env.frame = some X.env.locals)
  exf : ∀ b ∈ X.ex, b ≠ X.env.locals ∧ ∀ x c, X.env.cells.lookup x = some c → c ≠ b
  bs : ∀ b o, X.base.get? b = some o → X.s₀.heap.get? b = some o ∧ X.H₀ b = none
  bsz : X.base.objs.size ≤ X.s₀.heap.objs.size
  noex : ∀ b o, X.base.get? b = some o → b ∉ X.ex
  exfs : ∀ b ∈ X.ex, b ∉ X.fs
  funs : X.s₀.heap.FunFrames X.base X.outer
  frf : ∀ b ∈ X.fs, X.H₀ b = none
structure Inv (X : Cx) (pins : List (Addr × Obj)) (σ : List (Option V)) (H : Hp) (s : Shared) : Prop where
  ok : X.Ok
  os : s.os = X.s₀.os
  bare : AllBare s.gens
  base : Un X.fs X.ex X.H₀ H X.s₀.heap s.heap
  loc : ∃ m, s.heap.Ns X.env.locals m ∧ ∀ (i : Nat) (x : Str) (v : V), X.N[i]? = some x → σ[i]? = some (some v) → Vis X.env.scope x → ∃ u, RelV v u ∧ Look X.env s.heap m x u
  cell : ∀ x c, X.env.cells.lookup x = some c → ∃ v, s.heap.IsCell c v
  free : H X.env.locals = none
  freeC : ∀ x c, X.env.cells.lookup x = some c → H c = none
  pin : ∀ p ∈ X.pn ++ pins, s.heap.get? p.1 = some p.2 ∧ H p.1 = none ∧ p.1 ≠ X.env.locals ∧ p.1 ∉ X.fs ∧ ∀ v, p.2.data ≠ .cell v
  hok : HOk X.prog X.w H s.heap
  len : σ.length = X.N.length
section
variable {X : Cx} {pins : List (Addr × Obj)} {σ : List (Option V)} {H H' : Hp} {s : Shared} {h' : Heap}
private theorem Cx.Ok.nofr (ok : X.Ok) {b : Addr} {o : Obj} (e : X.base.get? b = some o) : b ∉ X.fs := fun hb => by
  have := (ok.funs.mem hb).1
  rw [e] at this; cases this
private theorem Inv.bs (I : Inv X pins σ H s) : ∀ b o, X.base.get? b = some o → s.heap.get? b = some o ∧ H b = none := fun b o e =>
  ⟨I.base.keep b o (I.ok.bs b o e).1 (I.ok.bs b o e).2 (I.ok.nofr e) (I.ok.noex b o e), I.base.free b o (I.ok.bs b o e).1 (I.ok.bs b o e).2 (I.ok.noex b o e)⟩
private theorem Inv.bk (I : Inv X pins σ H s) : ∀ b o, X.base.get? b = some o → s.heap.get? b = some o := fun b o e => (I.bs b o e).1
private theorem Inv.mod (I : Inv X pins σ H s) : Mod X.K X.mg X.base := I.ok.mod
private theorem Inv.kIn (I : Inv X pins σ H s) : X.K.In s.heap := I.ok.mod.kin.keeps I.bk
private theorem Inv.lt (I : Inv X pins σ H s) : X.env.locals < s.heap.objs.size := let ⟨_, hn, _⟩ := I.loc; hn.lt
private theorem Inv.sz (I : Inv X pins σ H s) : X.s₀.heap.objs.size ≤ s.heap.objs.size := Nat.le_trans I.ok.above (Nat.le_of_lt I.lt)
private theorem Inv.nofs (I : Inv X pins σ H s) {a : Addr} (h : s.heap.objs.size ≤ a) : a ∉ X.fs := fun hb => by
  obtain ⟨_, o, ho, _⟩ := I.ok.funs.mem hb
  exact absurd (Nat.lt_of_lt_of_le (Heap.lt_size ho) (Nat.le_trans I.sz h)) (Nat.lt_irrefl _)
private theorem Inv.cne (I : Inv X pins σ H s) : ∀ x c, X.env.cells.lookup x = some c → c ≠ X.env.locals := fun x c e z => by
  obtain ⟨v, o, ho, hd⟩ := I.cell x c e
  obtain ⟨m, ⟨o', es, ep, ho', hd', _⟩, _⟩ := I.loc
  rw [z, ho'] at ho; cases ho; rw [hd'] at hd; cases hd
private theorem Inv.funs (I : Inv X pins σ H s) : s.heap.FunFrames X.base X.outer := by
  have all : ∀ (l : List Env), (∀ b ∈ frs l, b ∈ X.fs) → X.s₀.heap.FunFrames X.base l → s.heap.FunFrames X.base l := by
    intro l
    induction l with
    | nil => intro _ _; trivial
    | cons env r ih =>
      intro hs hl
      obtain ⟨hk, ⟨L, o, hf, hn, ho, hd⟩, hr⟩ := hl
      have hL : L ∈ X.fs := hs L (by unfold frs; rw [List.filterMap_cons, hf]; exact List.mem_cons_self)
      obtain ⟨sl, e⟩ := I.base.slot L o ho (I.ok.frf L hL) hL fun z => I.ok.exfs L z hL
      exact ⟨hk, ⟨L, _, hf, hn, e, hd⟩, ih (fun b hb => hs b (by unfold frs; rw [List.filterMap_cons, hf]; exact List.mem_cons_of_mem _ hb)) hr⟩
  exact all X.outer (fun _ hb => hb) I.ok.funs
private theorem Inv.stack (I : Inv X pins σ H s) : s.heap.FunFrames X.base X.stack := by
  rcases I.ok.stk with e | ⟨e, hf⟩
  · rw [e]; exact I.funs
  · rw [e]
    obtain ⟨m, hn, _⟩ := I.loc
    refine .cons (by rw [I.ok.kind]; decide) hf hn ?_ I.funs
    exact Heap.get?_none_of_le (Nat.le_trans I.ok.bsz I.ok.above)
private theorem Inv.stkSub (I : Inv X pins σ H s) : ∀ b ∈ frs X.stack, b ∈ X.env.locals :: X.fs := fun b hb => by
  rcases I.ok.stk with e | ⟨e, hf⟩
  · rw [e] at hb; exact List.mem_cons_of_mem _ hb
  · rw [e] at hb
    unfold frs at hb
    rw [List.filterMap_cons, hf] at hb
    exact hb
private theorem Inv.stkFree (I : Inv X pins σ H s) : ∀ b ∈ frs X.stack, H b = none := fun b hb => by
  rcases List.mem_cons.mp (I.stkSub b hb) with e | hb
  · rw [e]; exact I.free
  · obtain ⟨_, o, ho, _⟩ := I.ok.funs.mem hb
    exact I.base.free b o ho (I.ok.frf b hb) fun z => I.ok.exfs b z hb
private theorem Inv.step {g' : Array GenState} {t' : Nat} {d' : Drawn} {ch : List Addr} (I : Inv X pins σ H s)
    (hch : ∀ b ∈ ch, (b ∈ X.ex ∨ X.s₀.heap.objs.size ≤ b) ∧ b ≠ X.env.locals ∧ (∀ x c, X.env.cells.lookup x = some c → c ≠ b) ∧ ∀ p ∈ X.pn ++ pins, p.1 ≠ b)
    (keep : ∀ b o, b ≠ X.env.locals → b ∉ X.fs → b ∉ ch → s.heap.get? b = some o → H b = none → h'.get? b = some o)
    (slot : ∀ b o, b ≠ X.env.locals → b ∈ X.fs → b ∉ ch → s.heap.get? b = some o → H b = none → ∃ sl, h'.get? b = some { o with slots := sl }) (free : ∀ b o, b ∉ ch → s.heap.get? b = some o → H b = none → H' b = none)
    (there : ∀ b o, b ∉ ch → s.heap.get? b = some o → ∃ o', h'.get? b = some o')
    (tups : ∀ b xs, H b = some (.tup xs) → H' b = some (.tup xs)) (frzs : ∀ b o u, H b = some (.frz o u) → H' b = some (.frz o u)) (tbls : ∀ b ps, H b = some (.tbl ps) → ∃ more, H' b = some (.tbl (ps ++ more)))
    (ns : ∀ m, s.heap.Ns X.env.locals m → h'.Ns X.env.locals m) (hok : HOk X.prog X.w H' h') (hg : AllBare g') :
    Inv X pins σ H' { s with heap := h', gens := g', drawn := d', toks := t' } := by
  have neL : ∀ b o, X.s₀.heap.get? b = some o → b ≠ X.env.locals := fun b o e => Nat.ne_of_lt (Nat.lt_of_lt_of_le (Heap.lt_size e) I.ok.above)
  have neC : ∀ b o, X.s₀.heap.get? b = some o → b ∉ X.ex → b ∉ ch := fun b o e hx hb => by
    rcases (hch b hb).1 with z | z
    · exact hx z
    · exact absurd (Nat.lt_of_lt_of_le (Heap.lt_size e) z) (Nat.lt_irrefl _)
  have cellK : ∀ x c, X.env.cells.lookup x = some c → ∀ v, s.heap.IsCell c v → h'.IsCell c v := fun x c e v ⟨o, ho, hd⟩ => by
    have nch : c ∉ ch := fun z => (hch c z).2.2.1 x c e rfl
    by_cases hc : c ∈ X.fs
    · obtain ⟨sl, q⟩ := slot c o (I.cne x c e) hc nch ho (I.freeC x c e)
      exact ⟨_, q, hd⟩
    · exact ⟨o, keep c o (I.cne x c e) hc nch ho (I.freeC x c e), hd⟩
  refine ⟨I.ok, I.os, hg, ⟨fun b o e n hb hx => ?_, fun b o e n hb hx => ?_, fun b o e n hx => ?_, fun b o e hx => ?_, fun b xs e => tups b xs (I.base.tups b xs e), fun b o xs e => frzs b o xs (I.base.frzs b o xs e), fun b ps e => ?_⟩, ?_, fun x c e => ?_, ?_, fun x c e => ?_, fun p hp => ?_, hok, I.len⟩
  · exact keep b o (neL b o e) hb (neC b o e hx) (I.base.keep b o e n hb hx) (I.base.free b o e n hx)
  · obtain ⟨sl, e1⟩ := I.base.slot b o e n hb hx
    obtain ⟨sl', e2⟩ := slot b _ (neL b o e) hb (neC b o e hx) e1 (I.base.free b o e n hx)
    exact ⟨sl', e2⟩
  · obtain ⟨o', e1⟩ := I.base.there b o e hx
    exact free b o' (neC b o e hx) e1 (I.base.free b o e n hx)
  · obtain ⟨o', e1⟩ := I.base.there b o e hx
    exact there b o' (neC b o e hx) e1
  · obtain ⟨m1, e1⟩ := I.base.tbls b ps e
    obtain ⟨m2, e2⟩ := tbls b _ e1
    exact ⟨m1 ++ m2, by rw [e2, Array.append_assoc]⟩
  · obtain ⟨m, hn, hl⟩ := I.loc
    refine ⟨m, ns m hn, fun i x v e1 e2 e3 => ?_⟩
    obtain ⟨u, r, l⟩ := hl i x v e1 e2 e3
    refine ⟨u, r, ?_⟩
    rcases l with l | ⟨k, c, e, z⟩
    · exact .inl l
    · exact .inr ⟨k, c, e, cellK x c e _ z⟩
  · obtain ⟨v, z⟩ := I.cell x c e
    exact ⟨v, cellK x c e v z⟩
  · obtain ⟨m, ⟨o, _, _, ho, _⟩, _⟩ := I.loc
    exact free _ o (fun z => (hch _ z).2.1 rfl) ho I.free
  · obtain ⟨v, o, ho, hd⟩ := I.cell x c e
    exact free c o (fun z => (hch c z).2.2.1 x c e rfl) ho (I.freeC x c e)
  · obtain ⟨e, n, ne, nf, d⟩ := I.pin p hp
    have nch : p.1 ∉ ch := fun z => (hch p.1 z).2.2.2 p hp rfl
    exact ⟨keep p.1 p.2 ne nf nch e n, free p.1 p.2 nch e n, ne, nf, d⟩
private theorem Inv.un {t' : Nat} (I : Inv X pins σ H s) (u : Un X.fs [] H H' s.heap h') (hok : HOk X.prog X.w H' h') : Inv X pins σ H' { s with heap := h', toks := t' } := by
  obtain ⟨m, ⟨o, es, ep, ho, r⟩, _⟩ := id I.loc
  obtain ⟨sl, hL⟩ := u.any ho I.free (by simp)
  exact I.step (g' := s.gens) (d' := s.drawn) (ch := []) (fun _ z => nomatch z) (fun b o _ hb _ e n => u.keep b o e n hb (by simp)) (fun b o _ hb _ e n => u.slot b o e n hb (by simp)) (fun b o _ e n => u.free b o e n (by simp)) (fun b o _ e => u.there b o e (by simp)) u.tups u.frzs u.tbls (fun m' hm => by
    obtain ⟨o', es', ep', ho', r'⟩ := hm
    rw [ho] at ho'; cases ho'
    exact ⟨_, es', ep', hL, r'⟩) hok I.bare
private theorem Inv.call {g' : Array GenState} {t' : Nat} {d' : Drawn} {ch : List Addr} (I : Inv X pins σ H s) (u : Un (frs X.stack) ch H H' s.heap h') (hok : HOk X.prog X.w H' h') (hg : AllBare g')
    (hch : ∀ b ∈ ch, (b ∈ X.ex ∨ X.s₀.heap.objs.size ≤ b) ∧ b ≠ X.env.locals ∧ (∀ x c, X.env.cells.lookup x = some c → c ≠ b) ∧ ∀ p ∈ X.pn ++ pins, p.1 ≠ b) :
    Inv X pins σ H' { s with heap := h', gens := g', drawn := d', toks := t' } := by
  obtain ⟨m, ⟨o, es, ep, ho, r⟩, _⟩ := id I.loc
  obtain ⟨sl, hL⟩ := u.any ho I.free fun z => (hch _ z).2.1 rfl
  exact I.step (ch := ch) hch (fun b o hL hb hc e n => u.keep b o e n (fun z => (List.mem_cons.mp (I.stkSub b z)).elim hL hb) hc) (fun b o _ _ hc e n => u.any e n hc) (fun b o hc e n => u.free b o e n hc) (fun b o hc e => u.there b o e hc) u.tups u.frzs u.tbls (fun m' hm => by
    obtain ⟨o', es', ep', ho', r'⟩ := hm
    rw [ho] at ho'; cases ho'
    exact ⟨_, es', ep', hL, r'⟩) hok hg
private theorem Inv.turned {t' : Nat} {it : Addr} (I : Inv X pins σ H s) (k : ∀ b o, b ≠ it → s.heap.get? b = some o → h'.get? b = some o) (hn : H it = none) (hL : it ≠ X.env.locals)
    (h1 : it ∈ X.ex ∨ X.s₀.heap.objs.size ≤ it) (h2 : ∀ x c, X.env.cells.lookup x = some c → c ≠ it) (h3 : ∀ p ∈ X.pn ++ pins, p.1 ≠ it) : Inv X pins σ H { s with heap := h', toks := t' } := by
  have nit : ∀ b u, H b = some u → b ≠ it := fun b u e z => by rw [z, hn] at e; cases e
  refine I.step (g' := s.gens) (d' := s.drawn) (ch := [it]) (fun b hb => ?_) (fun b o _ _ hc e _ => k b o (fun z => hc (by simp [z])) e) (fun b o _ _ hc e _ => ⟨o.slots, k b o (fun z => hc (by simp [z])) e⟩) (fun _ _ _ _ n => n)
    (fun b o hc e => ⟨o, k b o (fun z => hc (by simp [z])) e⟩) (fun _ _ e => e) (fun _ _ _ e => e) (fun b ps e => ⟨#[], by rw [e]; simp⟩) (fun m hm => ?_) (fun b u e => ?_) I.bare
  · have e : b = it := by simpa using hb
    subst e
    exact ⟨h1, hL, h2, h3⟩
  · obtain ⟨o, es, ep, ho, r⟩ := hm
    exact ⟨o, es, ep, k _ o (Ne.symm hL) ho, r⟩
  · refine (I.hok b u e).stay (fun c v hc q => k c v ?_ q) (fun _ q => q) fun _ _ q => q
    rcases hc with z | z
    · rw [z]; exact nit b u e
    · exact nit c _ z
private theorem Inv.tok (I : Inv X pins σ H s) (t : Nat) : Inv X pins σ H { s with toks := t } := I.un (h' := s.heap) (t' := t) Un.refl I.hok
private theorem Inv.kept {t' : Nat} (I : Inv X pins σ H s) (k : ∀ b u, s.heap.get? b = some u → h'.get? b = some u) : Inv X pins σ H { s with heap := h', toks := t' } := I.un (Un.kept k) (I.hok.kept k)
private theorem Inv.laid {a : Addr} {o : HO} {t' : Nat} (I : Inv X pins σ H s) (k : ∀ b u, s.heap.get? b = some u → h'.get? b = some u) (hp : s.heap.objs.size ≤ a) (new : ObjOk X.prog X.w (upd H a o) h' a o) :
    Inv X pins σ (upd H a o) { s with heap := h', toks := t' } := I.un (Un.laid k hp (I.hok.fresh hp)) (I.hok.laid k hp new)
private theorem Inv.write {x e : Addr} {o : HO} {t' : Nat} (I : Inv X pins σ H s) (mu : Mut (H x)) (he : e = x ∨ H e = some (.own x)) (k : ∀ b u, b ≠ e → s.heap.get? b = some u → h'.get? b = some u) (heo : ∃ u, h'.get? e = some u)
    (new : ObjOk X.prog X.w (upd H x o) h' x o) : Inv X pins σ (upd H x o) { s with heap := h', toks := t' } := I.un (Un.write mu he k heo) (I.hok.write mu he k heo new)
private theorem Inv.pins_of {pins' : List (Addr × Obj)} (I : Inv X pins σ H s) (h : ∀ p ∈ pins', s.heap.get? p.1 = some p.2 ∧ H p.1 = none ∧ p.1 ≠ X.env.locals ∧ p.1 ∉ X.fs ∧ ∀ v, p.2.data ≠ .cell v) : Inv X pins' σ H s :=
  ⟨I.ok, I.os, I.bare, I.base, I.loc, I.cell, I.free, I.freeC, fun p hp => (List.mem_append.mp hp).elim (fun z => I.pin p (List.mem_append_left _ z)) (h p), I.hok, I.len⟩
private theorem nodup_ix {N : List Str} (hN : N.Nodup) {i j : Nat} {x : Str} (a : N[i]? = some x) (b : N[j]? = some x) : i = j := by
  obtain ⟨h1, e1⟩ := List.getElem?_eq_some_iff.mp a
  obtain ⟨h2, e2⟩ := List.getElem?_eq_some_iff.mp b
  exact (List.getElem_inj hN).mp (e1.trans e2.symm)
private theorem store_ok2 {M : Model} {A : Around} {E : Value → Shared → Prop} {i : Nat} {x : Str} {v : V} {u : Value} {Q : Unit → Shared → Prop} (I : Inv X pins σ H s) (hN : X.N.Nodup) (hi : X.N[i]? = some x) (hx : Loc X.env.scope x) (r : RelV v u)
    (h : ∀ s', Inv X pins (σ.set i (some v)) H s' → (∃ a, Heap.SameBut a s.heap s'.heap ∧ (a = X.env.locals ∨ X.env.cells.lookup x = some a)) → Q () s') (hf : X.fn x = true ∨ X.env.scope.names.lookup x = some .local := by first | exact .inl rfl | exact .inr rfl | assumption) : wpAny M A (storeName X.env x u) Q E s := by
  obtain ⟨m, hn, hl⟩ := id I.loc
  have hcls : (X.env.scope.kind == .class || (X.env.scope.kind == .module && X.env.locals != X.env.globals)) = false := by rw [I.ok.kind]; rfl
  have hiσ : i < σ.length := by rw [I.len]; exact (List.getElem?_eq_some_iff.mp hi).1
  have cne := I.cne
  have tracked : ∀ {a : Addr} {h' : Heap}, (∃ o, s.heap.get? a = some o ∧ H a = none) → Heap.SameBut a s.heap h' → HOk X.prog X.w H h' := fun {a h'} ha hs b ob e => by
    obtain ⟨_, _, hfree⟩ := ha
    refine (I.hok b ob e).stay (fun c w' hc q => (hs.2 c ?_).trans q) (fun _ q => q) fun _ _ q => q
    rintro rfl
    rcases hc with rfl | hc
    · rw [hfree] at e; cases e
    · rw [hfree] at hc; cases hc
  rcases hx with hk | hk
  · refine wpAny_storeName_local hk hn (fun h' hn' hs => ?_) hcls
    obtain ⟨oL, _, _, hoL, _⟩ := id hn
    refine h _ ⟨I.ok, I.os, I.bare, ⟨fun b o e n hb hx => ?_, fun b o e n hb hx => ?_, I.base.free, fun b o e hx => ?_, I.base.tups, I.base.frzs, I.base.tbls⟩, ⟨_, hn', fun j y v' e1 e2 e3 => ?_⟩, fun y c e => ?_, I.free, I.freeC, fun p hp => ?_, tracked ⟨oL, hoL, I.free⟩ hs, by simpa using I.len⟩ ⟨_, hs, .inl rfl⟩
    · exact (hs.2 b (Nat.ne_of_lt (Nat.lt_of_lt_of_le (Heap.lt_size e) I.ok.above))).trans (I.base.keep b o e n hb hx)
    · obtain ⟨sl, e1⟩ := I.base.slot b o e n hb hx
      exact ⟨sl, (hs.2 b (Nat.ne_of_lt (Nat.lt_of_lt_of_le (Heap.lt_size e) I.ok.above))).trans e1⟩
    · obtain ⟨o', e1⟩ := I.base.there b o e hx
      exact ⟨o', (hs.2 b (Nat.ne_of_lt (Nat.lt_of_lt_of_le (Heap.lt_size e) I.ok.above))).trans e1⟩
    · by_cases hj : j = i
      · subst hj
        rw [hi] at e1; cases e1
        rw [List.getElem?_set_self hiσ] at e2
        cases e2
        exact ⟨u, r, .inl ⟨hk, by simp⟩⟩
      · rw [List.getElem?_set_ne (Ne.symm hj)] at e2
        obtain ⟨u', r', q⟩ := hl j y v' e1 e2 e3
        refine ⟨u', r', ?_⟩
        rcases q with ⟨k, e⟩ | ⟨k, c, e, z⟩
        · refine .inl ⟨k, ?_⟩
          have : y ≠ x := fun e => hj (nodup_ix hN e1 (e ▸ hi))
          simp [this, e]
        · exact .inr ⟨k, c, e, z.sameBut hs (cne y c e)⟩
    · obtain ⟨w', z⟩ := I.cell y c e
      exact ⟨w', z.sameBut hs (cne y c e)⟩
    · obtain ⟨e, n, ne, nf, d⟩ := I.pin p hp
      exact ⟨(hs.2 p.1 ne).trans e, n, ne, nf, d⟩
  · have hfn : X.fn x = true := by
      rcases hf with z | z
      · exact z
      · rw [z] at hk; cases hk
    obtain ⟨c, hc⟩ := I.ok.has x (.inl hk)
    obtain ⟨w', z⟩ := I.cell x c hc
    refine wpAny_storeName_cell I.ok.kind hk hc z (fun h' hc' hs => ?_)
    obtain ⟨oc, hoc, hocd⟩ := id z
    refine h { s with heap := h' } ⟨I.ok, I.os, I.bare, ⟨fun b o e n hb hx => ?_, fun b o e n hb hx => ?_, I.base.free, fun b o e hx => ?_, I.base.tups, I.base.frzs, I.base.tbls⟩, ⟨m, hn.sameBut hs (Ne.symm (cne x c hc)), fun j y v' e1 e2 e3 => ?_⟩, fun y c' e => ?_, I.free, I.freeC, fun p hp => ?_, tracked ⟨oc, hoc, I.freeC x c hc⟩ hs, by simpa using I.len⟩ ⟨c, hs, .inr hc⟩
    · exact (hs.2 b (Nat.ne_of_lt (Nat.lt_of_lt_of_le (Heap.lt_size e) (I.ok.cab x c hfn hc)))).trans (I.base.keep b o e n hb hx)
    · obtain ⟨sl, e1⟩ := I.base.slot b o e n hb hx
      exact ⟨sl, (hs.2 b (Nat.ne_of_lt (Nat.lt_of_lt_of_le (Heap.lt_size e) (I.ok.cab x c hfn hc)))).trans e1⟩
    · obtain ⟨o', e1⟩ := I.base.there b o e hx
      exact ⟨o', (hs.2 b (Nat.ne_of_lt (Nat.lt_of_lt_of_le (Heap.lt_size e) (I.ok.cab x c hfn hc)))).trans e1⟩
    · by_cases hj : j = i
      · subst hj
        rw [hi] at e1; cases e1
        rw [List.getElem?_set_self hiσ] at e2
        cases e2
        exact ⟨u, r, .inr ⟨.inl hk, c, hc, hc'⟩⟩
      · rw [List.getElem?_set_ne (Ne.symm hj)] at e2
        obtain ⟨u', r', q⟩ := hl j y v' e1 e2 e3
        refine ⟨u', r', ?_⟩
        rcases q with q | ⟨k, c', e, z'⟩
        · exact .inl q
        · refine .inr ⟨k, c', e, z'.sameBut hs ?_⟩
          rintro rfl
          exact hj (nodup_ix hN e1 (I.ok.inj _ _ _ e hc ▸ hi))
    · by_cases hcc : c' = c
      · subst hcc; exact ⟨_, hc'⟩
      · obtain ⟨w2, z2⟩ := I.cell y c' e
        exact ⟨w2, z2.sameBut hs hcc⟩
    · obtain ⟨e, n, ne, nf, d⟩ := I.pin p hp
      refine ⟨(hs.2 p.1 ?_).trans e, n, ne, nf, d⟩
      intro q
      rw [q, hoc] at e
      have q' : oc = p.2 := Option.some.inj e
      exact d w' (by rw [← q']; exact hocd)
private theorem store_ok {M : Model} {A : Around} {E : Value → Shared → Prop} {i : Nat} {x : Str} {v : V} {u : Value} {Q : Unit → Shared → Prop} (I : Inv X pins σ H s) (hN : X.N.Nodup) (hi : X.N[i]? = some x) (hx : Loc X.env.scope x) (r : RelV v u)
    (h : ∀ s', Inv X pins (σ.set i (some v)) H s' → Q () s') (hf : X.fn x = true ∨ X.env.scope.names.lookup x = some .local := by first | exact .inl rfl | exact .inr rfl | assumption) : wpAny M A (storeName X.env x u) Q E s :=
  store_ok2 I hN hi hx r (fun s' I' _ => h s' I') hf
private theorem Inv.call' {s' : Shared} {ch : List Addr} (I : Inv X pins σ H s) (ho : s'.os = s.os) (u : Un (frs X.stack) ch H H' s.heap s'.heap) (hok : HOk X.prog X.w H' s'.heap) (hg : AllBare s'.gens)
    (hch : ∀ b ∈ ch, (b ∈ X.ex ∨ X.s₀.heap.objs.size ≤ b) ∧ b ≠ X.env.locals ∧ (∀ x c, X.env.cells.lookup x = some c → c ≠ b) ∧ ∀ p ∈ X.pn ++ pins, p.1 ≠ b) : Inv X pins σ H' s' := by
  obtain ⟨h', g', d', t', o'⟩ := s'
  have e : o' = s.os := ho
  subst e
  exact I.call (g' := g') (t' := t') (d' := d') u hok hg hch
end
noncomputable abbrev XK := Value → Option Addr → Hp → Prop
noncomputable abbrev St := List (Option V)
noncomputable abbrev VK := V → Hp → Prop
noncomputable abbrev TE := St → Hp → VK → Prop
noncomputable abbrev TT := St → Hp → (Bool → Hp → Prop) → Prop
noncomputable abbrev TA := St → Hp → (List V → Hp → Prop) → Prop
structure Ends where
  nx : St → Hp → Prop
  rt : VK
  bk : St → Hp → Prop := fun _ _ => False
  ct : St → Hp → Prop := fun _ _ => False
noncomputable abbrev TS := Ends → St → Hp → Prop
noncomputable def EP (X : Cx) (pins : List (Addr × Obj)) (σ : St) (Q : VK) (u : Value) (s' : Shared) : Prop := ∃ v H', Inv X pins σ H' s' ∧ RelV v u ∧ Q v H'
noncomputable def TP (X : Cx) (pins : List (Addr × Obj)) (σ : St) (Q : Bool → Hp → Prop) (b : Bool) (s' : Shared) : Prop := ∃ H', Inv X pins σ H' s' ∧ Q b H'
noncomputable def AP (X : Cx) (pins : List (Addr × Obj)) (σ : St) (Q : List V → Hp → Prop) (us : List Value) (s' : Shared) : Prop := ∃ vs H', Inv X pins σ H' s' ∧ Vals vs us ∧ Q vs H'
noncomputable def SP (X : Cx) (pins : List (Addr × Obj)) (D : Ends) (f : Flow) (s' : Shared) : Prop :=
  match f with
  | .next => ∃ σ' H', Inv X pins σ' H' s' ∧ D.nx σ' H'
  | .brk => ∃ σ' H', Inv X pins σ' H' s' ∧ D.bk σ' H'
  | .cont => ∃ σ' H', Inv X pins σ' H' s' ∧ D.ct σ' H'
  | .ret u => ∃ v σ' H', Inv X pins σ' H' s' ∧ RelV v u ∧ D.rt v H'
noncomputable def PE (X : Cx) (e : Expr) (t : TE) : Prop :=
  ∀ (pins : List (Addr × Obj)) (s : Shared) (σ : St) (H : Hp) (Q : VK), Inv X pins σ H s → t σ H Q → wpAny (model X.prog X.w) X.A (eval e X.env) (EP X pins σ Q) X.xe s
noncomputable def PT (X : Cx) (e : Expr) (t : TT) : Prop :=
  ∀ (pins : List (Addr × Obj)) (s : Shared) (σ : St) (H : Hp) (Q : Bool → Hp → Prop), Inv X pins σ H s → t σ H Q → wpAny (model X.prog X.w) X.A (isTrue e X.env (eval e X.env)) (TP X pins σ Q) X.xe s
noncomputable def PW (X : Cx) (e : Expr) (t : TT) : Prop :=
  ∀ (whole : Sem Value) (pins : List (Addr × Obj)) (s : Shared) (σ : St) (H : Hp) (Q : Bool → Hp → Prop), Inv X pins σ H s → t σ H Q → wpAny (model X.prog X.w) X.A (isTrue e X.env whole) (TP X pins σ Q) X.xe s
private theorem PW.pt {X : Cx} {e : Expr} {t : TT} (h : PW X e t) : PT X e t := h _
noncomputable def PA (X : Cx) (es : List Expr) (t : TA) : Prop :=
  ∀ (pos : Pos) (pins : List (Addr × Obj)) (s : Shared) (σ : St) (H : Hp) (Q : List V → Hp → Prop), Inv X pins σ H s → t σ H Q → wpAny (model X.prog X.w) X.A (spliced (backTo pos (starEach es X.env))) (AP X pins σ Q) X.xe s
noncomputable def PS (X : Cx) (st : Stmt) (t : TS) : Prop :=
  ∀ (pins : List (Addr × Obj)) (s : Shared) (σ : St) (H : Hp) (D : Ends), Inv X pins σ H s → t D σ H → wpAny (model X.prog X.w) X.A (exec st X.env) (SP X pins D) X.xe s
noncomputable def PSs (X : Cx) (st : List Stmt) (t : TS) : Prop :=
  ∀ (pins : List (Addr × Obj)) (s : Shared) (σ : St) (H : Hp) (D : Ends), Inv X pins σ H s → t D σ H → wpAny (model X.prog X.w) X.A (execs st X.env) (SP X pins D) X.xe s
private theorem thn {α : Type} {t : Sem α} {Q Q' : α → Shared → Prop} {M : Model} {A : Around} {E : Value → Shared → Prop} {s : Shared} (h : wpAny M A t Q E s) (hQ : ∀ a s, Q a s → Q' a s) : wpAny M A t Q' E s := wpAny_mono h hQ fun _ _ x => x
end L2
namespace L2
open PySem PySem.Spec PyProof.Rows
section
variable {X : Cx}
noncomputable def tVar (i : Nat) : TE := fun σ H Q => ∃ v, σ[i]? = some (some v) ∧ Q v H
noncomputable def tC (v : V) : TE := fun _ H Q => Q v H
private theorem pe_var {i : Nat} {x : Str} {pos : Pos} (hN : X.N[i]? = some x) (hv : Vis X.env.scope x) (hd : (x == ("__debug__" : Str)) = false := by decide) (hcd : (x == ("__classdict__" : Str)) = false := by decide) : PE X (.Name x pos) (tVar i) := by
  intro pins s σ H Q I h
  obtain ⟨v, e, h⟩ := h
  obtain ⟨m, hn, hl⟩ := I.loc
  obtain ⟨u, r, l⟩ := hl i x v hN e hv
  have fin : EP X pins σ Q u s := ⟨v, H, I, r, h⟩
  rcases l with ⟨hk, hm⟩ | ⟨hk, c, hc, hcell⟩
  · exact wpAny_Name (wpAny_loadName_local I.ok.kind hk hn hm fin) hd
  · rcases hk with hk | hk
    · exact wpAny_Name (wpAny_loadName_cell I.ok.kind hk hc hcell fin) hd
    · exact wpAny_Name (wpAny_loadName_free I.ok.kind hk hc hcell fin hcd) hd
private theorem pe_int {i j pos} : PE X (.Constant (.int i) j pos) (tC (.int i)) := fun _ _ _ H _ I h => wpAny_Constant_int ⟨.int i, H, I.tok _, ⟨_, rfl⟩, h⟩
private theorem pe_bl {b j pos} : PE X (.Constant (.bool b) j pos) (tC (.bl b)) := fun _ _ _ H _ I h => Constant_bool ⟨.bl b, H, I, rfl, h⟩
private theorem pe_non {j pos} : PE X (.Constant .none j pos) (tC .non) := fun _ _ _ H _ I h => Constant_none ⟨.non, H, I, rfl, h⟩
private theorem pe_str {x j pos} : PE X (.Constant (.str x) j pos) (tC (.str x)) := fun _ _ _ H _ I h => Calls.Constant_str ⟨.str x, H, I.tok _, ⟨_, rfl⟩, h⟩
noncomputable def Gl (X : Cx) (x : Str) : Prop := X.env.kindOf x = some .globalImplicit
private theorem ld_glob {E : Value → Shared → Prop} {pins : List (Addr × Obj)} {s : Shared} {σ : St} {H : Hp} {x : Str} {u : Value} {pos : Pos} {Q : Value → Shared → Prop} (I : Inv X pins σ H s) (hg : Gl X x) (hm : X.mg x = some u) (h : Q u s)
    (hd : (x == ("__debug__" : Str)) = false := by decide) : wpAny (model X.prog X.w) X.A (eval (.Name x pos) X.env) Q E s :=
  Calls.Name_function_global I.ok.kind hg (Calls.loadGlobal_global (by rw [I.ok.glob]; exact I.mod.glob.keeps I.bk) hm h) hd
private theorem ld_blt {E : Value → Shared → Prop} {pins : List (Addr × Obj)} {s : Shared} {σ : St} {H : Hp} {x : Str} {u : Value} {pos : Pos} {Q : Value → Shared → Prop} (I : Inv X pins σ H s) (hg : Gl X x) (hm : X.mg x = none) (hv : bootBuiltins x = some u) (h : Q u s)
    (hn : x ≠ "__name__" := by decide) (hd : (x == ("__debug__" : Str)) = false := by decide) : wpAny (model X.prog X.w) X.A (eval (.Name x pos) X.env) Q E s := by
  obtain ⟨mb, h1, h2⟩ := I.mod.blt
  exact Calls.Name_function_global I.ok.kind hg (Calls.loadGlobal_builtin (by rw [I.ok.glob]; exact I.mod.glob.keeps I.bk) hm (by rw [I.ok.blt]; exact h1.keeps I.bk) ((h2 x hn).trans hv) h) hd
private theorem pe_glob {x : Str} {v : V} {u : Value} {pos : Pos} (hg : Gl X x) (hm : X.mg x = some u) (r : RelV v u) (hd : (x == ("__debug__" : Str)) = false := by decide) : PE X (.Name x pos) (tC v) :=
  fun _ _ _ H _ I h => ld_glob I hg hm ⟨v, H, I, r, h⟩ hd
variable {a b : Expr} {ta tb : TE} {pos : Pos}
noncomputable def tB (t : TE) : TT := fun σ H Q => t σ H fun x H1 => ∃ c, x = .bl c ∧ Q c H1
private theorem pt_val {e : Expr} {t : TE} (h : PE X e t) (he : ∀ whole, isTrue e X.env whole = (do let v ← whole; standAt e.pos; holding [v] (truthy v)) := by intro _; rfl) : PT X e (tB t) := by
  intro pins s σ H Q I hw
  refine isTrue_plain (thn (h pins s σ H _ I hw) fun v s1 zz7 => e23 zz7 fun x H1 I1 r1 q1 => ?_) (he _)
  obtain ⟨d, rfl, q⟩ := q1
  cases r1
  exact wpAny_truthy_bool ⟨H1, I1, q⟩
variable {tA tB' : TT} {rest : List Expr}
noncomputable def tAnd (t u : TT) : TT := fun σ H Q => t σ H fun c H1 => if c = true then u σ H1 Q else Q false H1
noncomputable def tNot (t : TT) : TT := fun σ H Q => t σ H fun c H1 => Q (!c) H1
private theorem pw_and1 (ha : PT X a tA) : PW X (.BoolOp .And [a] pos) tA := by
  intro wh pins s σ H Q I h
  refine isTrue_and (thn (ha pins s σ H Q I h) fun c s1 e => ?_)
  cases c with
  | true => exact isTrue_and_nil e
  | false => exact e
private theorem pw_and (ha : PT X a tA) (hb : PW X (.BoolOp .And (b :: rest) pos) tB') : PW X (.BoolOp .And (a :: b :: rest) pos) (tAnd tA tB') := by
  intro wh pins s σ H Q I h
  refine isTrue_and (thn (ha pins s σ H _ I h) fun c s1 zz8 => e12 zz8 fun H1 I1 q1 => ?_)
  cases c with
  | true => exact hb wh pins s1 σ H1 Q I1 q1
  | false => exact ⟨H1, I1, q1⟩
private theorem pt_not (ha : PT X a tA) : PT X (.UnaryOp .Not a pos) (tNot tA) := by
  intro pins s σ H Q I h
  exact isTrue_not (ha pins s σ H (fun c H1 => Q (!c) H1) I h)
noncomputable def tAndV (ta tb : TE) : TE := fun σ H Q => ta σ H fun x H1 => ∃ c, x = .bl c ∧ if c = true then tb σ H1 Q else Q (.bl false) H1
noncomputable def tNotV (ta : TE) : TE := fun σ H Q => ta σ H fun x H1 => ∃ c, x = .bl c ∧ Q (.bl (!c)) H1
private theorem pe_one {op} {t : TE} (h : PE X a t) : PE X (.BoolOp op [a] pos) t := fun pins s σ H Q I hw => BoolOp_one (h pins s σ H Q I hw)
private theorem pe_and (ha : PE X a ta) (hb : PE X (.BoolOp .And (b :: rest) pos) tb) : PE X (.BoolOp .And (a :: b :: rest) pos) (tAndV ta tb) := by
  intro pins s σ H Q I h
  refine BoolOp_and (thn (ha pins s σ H _ I h) fun v s1 zz10 => e23 zz10 fun x H1 I1 r1 q1 => ?_)
  obtain ⟨c, rfl, q1⟩ := q1
  cases r1
  refine wpAny_truthy_bool ?_
  cases c with
  | true => exact hb pins s1 σ H1 Q I1 q1
  | false => exact ⟨.bl false, H1, I1, rfl, q1⟩
private theorem pe_not (ha : PE X a ta) : PE X (.UnaryOp .Not a pos) (tNotV ta) := by
  intro pins s σ H Q I h
  refine UnaryOp_ (thn (ha pins s σ H _ I h) fun v s1 zz12 => e23 zz12 fun x H1 I1 r1 q1 => ?_)
  obtain ⟨c, rfl, q1⟩ := q1
  cases r1
  exact not_of (wpAny_truthy_bool ⟨.bl (!c), H1, I1, rfl, q1⟩)
end
end L2
namespace L2
open PySem PySem.Spec PyProof.Rows
noncomputable def SqL (K : PySem.W.Frag) (H : Hp) (a : Addr) (xs : List V) : Prop :=
  Rd H a (.lst xs) ∨
    ∃ (o : Obj) (its : Array Value) (n : Nat), K.lookup a = some o ∧ o.cls = .type "list" ∧ o.dict = none ∧ o.data = .seq its n ∧ its.size ≤ sizeLine ∧ Vals xs its.toList
noncomputable def SqT (K : PySem.W.Frag) (H : Hp) (a : Addr) (xs : List V) : Prop :=
  Rd H a (.tup xs) ∨
    ∃ (o : Obj) (its : Array Value) (n : Nat), K.lookup a = some o ∧ o.cls = .type "tuple" ∧ o.data = .seq its n ∧ its.size ≤ sizeLine ∧ Vals xs its.toList
noncomputable def absV : Value → Option V
  | .none => some .non
  | .bool b => some (.bl b)
  | .int i _ => some (.int i)
  | .str x _ => some (.str x)
  | .bytes b _ => some (.byt b)
  | .float b _ => some (.flt b)
  | .ref a => some (.ref a)
  | .type n => some (.ty n)
  | _ => none
private theorem RelV.abs {x : V} {u : Value} (r : RelV x u) : absV u = some x := by
  cases x with
  | non => cases r; rfl
  | bl _ => cases r; rfl
  | int _ => obtain ⟨t, rfl⟩ := r; rfl
  | str _ => obtain ⟨t, rfl⟩ := r; rfl
  | byt _ => obtain ⟨t, rfl⟩ := r; rfl
  | flt _ => obtain ⟨t, rfl⟩ := r; rfl
  | ref _ => cases r; rfl
  | ty _ => cases r; rfl
private theorem RelV.inj {x y : V} {u : Value} (r : RelV x u) (q : RelV y u) : x = y := Option.some.inj (r.abs.symm.trans q.abs)
private theorem Vals.inj : ∀ {xs ys : List V} {us : List Value}, Vals xs us → Vals ys us → xs = ys
  | _, _, _, .nil, .nil => rfl
  | _, _, _, .cons r t, .cons r' t' => by rw [r.inj r', Vals.inj t t']
section
variable {X : Cx} {pins : List (Addr × Obj)} {σ : St} {H : Hp} {s : Shared} {a : Addr} {xs ys : List V}
private theorem SqL.of {K : PySem.W.Frag} (h : H a = some (.lst xs)) : SqL K H a xs := .inl (.inl h)
private theorem SqT.of {K : PySem.W.Frag} (h : H a = some (.tup xs)) : SqT K H a xs := .inl (.inl h)
private theorem Inv.list (I : Inv X pins σ H s) (h : SqL X.K H a xs) : ∃ its : List Value, Vals xs its ∧ PlainL s.heap a its.toArray ∧ xs.length ≤ sizeLine := by
  rcases h with h | ⟨o, its, n, hk, hc, hd, hs, hz, r⟩
  · obtain ⟨z, its, n, r, e⟩ := h.ok I.hok
    exact ⟨its, r, ⟨_, n, e, rfl, rfl, rfl⟩, z⟩
  · refine ⟨its.toList, r, ⟨o, n, I.kIn a o hk, hc, hd, by simpa using hs⟩, ?_⟩
    have e := r.length
    simp only [Array.length_toList] at e
    omega
private theorem Inv.tuple (I : Inv X pins σ H s) (h : SqT X.K H a xs) : ∃ its : List Value, Vals xs its ∧ IsTup s.heap a its.toArray ∧ xs.length ≤ sizeLine := by
  rcases h with h | ⟨o, its, n, hk, hc, hs, hz, r⟩
  · obtain ⟨z, its, r, p⟩ := h.ok I.hok
    exact ⟨its, r, p, z⟩
  · refine ⟨its.toList, r, ⟨o, I.kIn a o hk, hc, n, by simpa using hs⟩, ?_⟩
    have e := r.length
    simp only [Array.length_toList] at e
    omega
private theorem Inv.list_inj (I : Inv X pins σ H s) (h : SqL X.K H a xs) (h' : SqL X.K H a ys) : xs = ys := by
  obtain ⟨its, r, ⟨o, n, e, _, _, d⟩, _⟩ := I.list h
  obtain ⟨its', r', ⟨o', n', e', _, _, d'⟩, _⟩ := I.list h'
  rw [e] at e'; cases e'
  rw [d] at d'
  injection d' with d1 _
  have : its = its' := by simpa using congrArg Array.toList d1
  subst this
  exact r.inj r'
private theorem Inv.tuple_inj (I : Inv X pins σ H s) (h : SqT X.K H a xs) (h' : SqT X.K H a ys) : xs = ys := by
  obtain ⟨its, r, ⟨o, e, _, n, d⟩, _⟩ := I.tuple h
  obtain ⟨its', r', ⟨o', e', _, n', d'⟩, _⟩ := I.tuple h'
  rw [e] at e'; cases e'
  rw [d] at d'
  injection d' with d1 _
  have : its = its' := by simpa using congrArg Array.toList d1
  subst this
  exact r.inj r'
end
noncomputable abbrev Cx.wish (X : Cx) (E : Value → Shared → Prop) : Cx := { X with xe := E }
noncomputable abbrev Cx.nox (X : Cx) : Cx := X.wish fun _ _ => False
private theorem Cx.Ok.wish {X : Cx} (ok : X.Ok) (E : Value → Shared → Prop) : (X.wish E).Ok :=
  ⟨ok.mod, ok.kind, ok.glob, ok.blt, ok.above, ok.inj, ok.has, ok.cab, ok.hd, ok.frames, ok.stk, ok.exf, ok.bs, ok.bsz, ok.noex, ok.exfs, ok.funs, ok.frf⟩
private theorem Cx.Ok.unwish {X : Cx} {E : Value → Shared → Prop} (ok : (X.wish E).Ok) : X.Ok :=
  ⟨ok.mod, ok.kind, ok.glob, ok.blt, ok.above, ok.inj, ok.has, ok.cab, ok.hd, ok.frames, ok.stk, ok.exf, ok.bs, ok.bsz, ok.noex, ok.exfs, ok.funs, ok.frf⟩
section
variable {X : Cx} {pins : List (Addr × Obj)} {σ : St} {H : Hp} {s : Shared} {E : Value → Shared → Prop}
private theorem Inv.wish (I : Inv X pins σ H s) (E : Value → Shared → Prop) : Inv (X.wish E) pins σ H s := ⟨I.ok.wish E, I.os, I.bare, I.base, I.loc, I.cell, I.free, I.freeC, I.pin, I.hok, I.len⟩
private theorem Inv.unwish (I : Inv (X.wish E) pins σ H s) : Inv X pins σ H s := ⟨I.ok.unwish, I.os, I.bare, I.base, I.loc, I.cell, I.free, I.freeC, I.pin, I.hok, I.len⟩
private theorem SP.unwish {D : Ends} {f : Flow} {s' : Shared} (h : SP (X.wish E) pins D f s') : SP X pins D f s' := by
  cases f with
  | next => obtain ⟨σ', H', I, q⟩ := h; exact ⟨σ', H', I.unwish, q⟩
  | brk => obtain ⟨σ', H', I, q⟩ := h; exact ⟨σ', H', I.unwish, q⟩
  | cont => obtain ⟨σ', H', I, q⟩ := h; exact ⟨σ', H', I.unwish, q⟩
  | ret u => obtain ⟨v, σ', H', I, r, q⟩ := h; exact ⟨v, σ', H', I.unwish, r, q⟩
private theorem PT.nox {e : Expr} {t : TT} (h : PT X.nox e t) : PT X e t := fun pins s σ H Q I hw =>
  wpAny_mono (h pins s σ H Q (I.wish _) hw) (fun _ _ zz15 => e12 zz15 fun H' I' q => ⟨H', I'.unwish, q⟩) fun _ _ z => False.elim z
private theorem PSs.nox {st : List Stmt} {t : TS} (h : PSs X.nox st t) : PSs X st t := fun pins s σ H D I hw =>
  wpAny_mono (h pins s σ H D (I.wish _) hw) (fun _ _ q => q.unwish) fun _ _ z => False.elim z
end
section
variable {X : Cx} {st : Stmt} {rest : List Stmt} {t u : TS} {e : Expr} {te : TE} {pos : Pos}
noncomputable def tNext : TS := fun D σ H => D.nx σ H
noncomputable def tSeq (t u : TS) : TS := fun D σ H => t { D with nx := u D } σ H
private theorem pss_nil : PSs X [] tNext := fun _ _ σ H _ I h => wpAny_execs_nil ⟨σ, H, I, h⟩
private theorem pss_cons (h1 : PS X st t) (h2 : PSs X rest u) : PSs X (st :: rest) (tSeq t u) := by
  intro pins s σ H D I h
  refine wpAny_execs_cons (thn (h1 pins s σ H { D with nx := u D } I h) fun f s1 q => ?_)
  cases f with
  | next =>
    obtain ⟨σ', H', I', q⟩ := q
    exact h2 pins s1 σ' H' D I' q
  | ret v => exact q
  | brk => exact q
  | cont => exact q
private theorem pss_one (h1 : PS X st t) : PSs X [st] t := by
  intro pins s σ H D I h
  refine wpAny_execs_cons (thn (h1 pins s σ H D I h) fun f s1 q => ?_)
  cases f with
  | next => exact wpAny_execs_nil q
  | ret v => exact q
  | brk => exact q
  | cont => exact q
private theorem Inv.quiet {pins : List (Addr × Obj)} {σ : St} {H : Hp} {s : Shared} (I : Inv X pins σ H s) : interactive X.env = false := by simp [interactive, I.ok.kind]
noncomputable def tDrop (te : TE) : TS := fun D σ H => te σ H fun _ H1 => D.nx σ H1
private theorem ps_expr (he : PE X e te) (hs : swapsWith e none pos.line X.env = pure false := by rfl) : PS X (.Expr e pos) (tDrop te) := by
  intro pins s σ H D I h
  exact wpAny_Expr_any (thn (he pins s σ H _ I h) fun v s1 zz16 => e23 zz16 fun x H1 I1 r1 q1 => ⟨σ, H1, I1, q1⟩) I.quiet hs
noncomputable def tRet (te : TE) : TS := fun D σ H => te σ H D.rt
private theorem ps_ret (he : PE X e te) : PS X (.Return (some e) pos) (tRet te) := by
  intro pins s σ H D I h
  exact wpAny_Return_some (thn (he pins s σ H _ I h) fun v s1 zz17 => e23 zz17 fun x H1 I1 r1 q1 => ⟨x, σ, H1, I1, r1, q1⟩)
noncomputable def tIfS (c : TT) (t u : TS) : TS := fun D σ H => c σ H fun b H1 => if b = true then t D σ H1 else u D σ H1
private theorem ps_if {c : Expr} {a b : List Stmt} {tc : TT} (hc : PT X c tc) (ha : PSs X a t) (hb : PSs X b u) : PS X (.If c a b pos) (tIfS tc t u) := by
  intro pins s σ H D I h
  refine wpAny_If (thn (hc pins s σ H _ I h) fun d s1 zz18 => e12 zz18 fun H1 I1 q1 => ?_)
  cases d with
  | true => exact ha pins s1 σ H1 D I1 q1
  | false => exact hb pins s1 σ H1 D I1 q1
noncomputable def tNever : TS := fun _ _ _ => False
private theorem ps_never : PS X st tNever := fun _ _ _ _ _ _ h => h.elim
end
noncomputable abbrev TG := V → St → Hp → (St → Hp → Prop) → Prop
noncomputable abbrev TGs := List V → St → Hp → (St → Hp → Prop) → Prop
noncomputable def PG (X : Cx) (target : Expr) (t : TG) : Prop :=
  ∀ (pins : List (Addr × Obj)) (s : Shared) (σ : St) (H : Hp) (v : V) (u : Value) (Q : St → Hp → Prop), Inv X pins σ H s → RelV v u → t v σ H Q →
    wpAny (model X.prog X.w) X.A (assign target X.env u) (fun _ s' => ∃ σ' H', Inv X pins σ' H' s' ∧ Q σ' H') X.xe s
noncomputable def PGs (X : Cx) (ts : List Expr) (t : TGs) : Prop :=
  ∀ (pins : List (Addr × Obj)) (s : Shared) (σ : St) (H : Hp) (vs : List V) (us : List Value) (Q : St → Hp → Prop), Inv X pins σ H s → Vals vs us → t vs σ H Q →
    wpAny (model X.prog X.w) X.A (assignInOrder ((assignEach ts X.env).map (·.2)) us) (fun _ s' => ∃ σ' H', Inv X pins σ' H' s' ∧ Q σ' H') X.xe s
noncomputable abbrev TSet := V → V → V → Hp → (Hp → Prop) → Prop
noncomputable def PSet (X : Cx) (t : TSet) : Prop :=
  ∀ (pins : List (Addr × Obj)) (s : Shared) (σ : St) (H : Hp) (o i v : V) (ov iv u : Value) (Q : Hp → Prop), Inv X pins σ H s → RelV o ov → RelV i iv → RelV v u → t o i v H Q →
    wpAny (model X.prog X.w) X.A (setItem ov iv u) (fun _ s' => ∃ H', Inv X pins σ H' s' ∧ Q H') X.xe s
section
variable {X : Cx} {pos : Pos}
noncomputable def gName (i : Nat) : TG := fun v σ H Q => Q (σ.set i (some v)) H
private theorem pg_name {i : Nat} {x : Str} (hN : X.N.Nodup) (hi : X.N[i]? = some x) (hx : Loc X.env.scope x) (hf : X.fn x = true ∨ X.env.scope.names.lookup x = some .local := by first | exact .inl rfl | exact .inr rfl | assumption) : PG X (.Name x pos) (gName i) := by
  intro pins s σ H v u Q I r h
  exact wpAny_assign_Name (store_ok I hN hi hx r (fun s' I' => ⟨_, H, I', h⟩) hf)
noncomputable def gNil : TGs := fun vs σ H Q => vs = [] ∧ Q σ H
noncomputable def gCons (t : TG) (u : TGs) : TGs := fun vs σ H Q => ∃ v r, vs = v :: r ∧ t v σ H fun σ' H' => u r σ' H' Q
private theorem pgs_nil : PGs X [] gNil := by
  intro pins s σ H vs us Q I r h
  obtain ⟨e, h⟩ := h
  subst e
  cases r
  exact assignInOrder_nil ⟨σ, H, I, h⟩
private theorem pgs_cons {e : Expr} {es : List Expr} {t : TG} {u : TGs} (h1 : PG X e t) (h2 : PGs X es u)
    (hs : (assignEach (e :: es) X.env).map (·.2) = assign e X.env :: (assignEach es X.env).map (·.2) := by rfl) : PGs X (e :: es) (gCons t u) := by
  intro pins s σ H vs us Q I r h
  obtain ⟨v, vr, e1, h⟩ := h
  subst e1
  cases r with
  | cons r rr =>
    rw [hs]
    refine assignInOrder_cons (thn (h1 pins s σ H _ _ _ I r h) fun _ s1 zz19 => e22 zz19 fun σ1 H1 I1 q1 => ?_)
    exact h2 pins s1 σ1 H1 _ _ Q I1 rr q1
noncomputable def gTup (K : PySem.W.Frag) (n : Nat) (t : TGs) : TG := fun v σ H Q => ∃ a xs, v = .ref a ∧ SqT K H a xs ∧ xs.length = n ∧ t xs σ H Q
private theorem pg_tup {es : List Expr} {k : Nat} {t : TGs} {n : Nat} (hc : X.calm = true) (h : PGs X es t)
    (hn : (assignEach es X.env).length = n := by rfl) (hst : (assignEach es X.env).findIdx? (·.1) = none := by rfl) : PG X (.Tuple es k pos) (gTup X.K n t) := by
  intro pins s σ H v u Q I r hw
  obtain ⟨a, xs, e1, hq, hl, hw⟩ := hw
  subst e1
  cases r
  obtain ⟨its, rv, ht, hz⟩ := I.tuple hq
  refine assign_Tuple_tuple (I.ok.hd hc) ht (by simp [hn, ← hl, rv.length]) hst fun h' hx => ?_
  have I1 : Inv X pins σ H { s with heap := h' } := I.kept (t' := s.toks) fun b o e => hx b o (Nat.ne_of_lt (Heap.lt_size e)) e
  exact h pins _ σ H xs _ Q I1 (by simpa using rv) hw
noncomputable def gSub (to ti : TE) (t : TSet) : TG := fun v σ H Q => to σ H fun o H1 => ti σ H1 fun i H2 => t o i v H2 fun H3 => Q σ H3
private theorem pg_sub {o i : Expr} {to ti : TE} {t : TSet} (ho : PE X o to) (hi : PE X i ti) (hs : PSet X t)
    (ha : ∀ v, assign (.Subscript o i pos) X.env v = (do
      let ov ← holding [v] (eval o X.env)
      let iv ← holding [v, ov] (eval i X.env)
      standAt pos
      holding [v, ov, iv] (setItem ov iv v)
      release [v, ov, iv] []) := by intro _; rfl) : PG X (.Subscript o i pos) (gSub to ti t) := by
  intro pins s σ H v u Q I r h
  rw [ha]
  refine wpAny_bind (wpAny_holding (thn (ho pins s σ H _ I h) fun ov s1 zz20 => e23 zz20 fun x H1 I1 r1 q1 => ?_))
  refine wpAny_bind (wpAny_holding (thn (hi pins s1 σ H1 _ I1 q1) fun iv s2 zz21 => e23 zz21 fun y H2 I2 r2 q2 => ?_))
  refine wpAny_bind (wpAny_standAt (wpAny_bind (wpAny_holding (thn (hs pins s2 σ H2 x y v ov iv u _ I2 r1 r2 r q2) fun _ s3 zz22 => e12 zz22 fun H3 I3 q3 => ?_))))
  exact wpAny_release ⟨σ, H3, I3, q3⟩
noncomputable def tAsg (te : TE) (g : TG) : TS := fun D σ H => te σ H fun x H1 => g x σ H1 D.nx
private theorem ps_asg {tg e : Expr} {te : TE} {g : TG} (he : PE X e te) (hg : PG X tg g) (hs : swapsWithSole [tg] e pos.line X.env = pure false := by rfl) (hw : swappedStores [tg] e X.env = pure none := by rfl)
    (h1 : (assignEach [tg] X.env).map (·.2) = [assign tg X.env] := by rfl) : PS X (.Assign [tg] e pos) (tAsg te g) := by
  intro pins s σ H D I h
  refine wpAny_Assign_stores (thn (he pins s σ H _ I h) fun v s1 zz23 => e23 zz23 fun x H1 I1 r1 q1 => ?_) hs hw
  rw [h1]
  exact thn (hg pins s1 σ H1 x v _ I1 r1 q1) fun _ s2 q => q
private theorem ps_set {i : Nat} {x : Str} {e : Expr} {te : TE} {pos' : Pos} (hN : X.N.Nodup) (hi : X.N[i]? = some x) (hx : Loc X.env.scope x) (he : PE X e te) (hs : swapsWith e (some (.Name x pos')) pos.line X.env = pure false := by rfl) (hf : X.fn x = true ∨ X.env.scope.names.lookup x = some .local := by first | exact .inl rfl | exact .inr rfl | assumption) :
    PS X (.Assign [.Name x pos'] e pos) (tAsg te (gName i)) := by
  intro pins s σ H D I h
  refine wpAny_Assign_Name (thn (he pins s σ H _ I h) fun v s1 zz24 => e23 zz24 fun y H1 I1 r1 q1 => ?_) hs
  exact store_ok I1 hN hi hx r1 (fun s2 I2 => ⟨_, H1, I2, q1⟩) hf
noncomputable def tPar (i j : Nat) (ta : TA) : TS := fun D σ H => ta σ H fun vs H1 => ∃ v w, vs = [v, w] ∧ D.nx ((σ.set i (some v)).set j (some w)) H1
private theorem ps_par {i j : Nat} {x y : Str} {a b : Expr} {ta : TA} {px py pt : Pos} {kt k2 pt2} (hc : X.calm = true) (hN : X.N.Nodup) (hi : X.N[i]? = some x) (hj : X.N[j]? = some y) (hij : i ≠ j)
    (hx : X.env.scope.names.lookup x = some .local) (hy : X.env.scope.names.lookup y = some .local) (ha : PA X [a, b] ta)
    (hw : swappedStores [.Tuple [.Name x px, .Name y py] kt pt] (.Tuple [a, b] k2 pt2) X.env = pure (some [x, y]))
    (hs : swapsWithSole [.Tuple [.Name x px, .Name y py] kt pt] (.Tuple [a, b] k2 pt2) pos.line X.env = pure false := by rfl) :
    PS X (.Assign [.Tuple [.Name x px, .Name y py] kt pt] (.Tuple [a, b] k2 pt2) pos) (tPar i j ta) := by
  intro pins s σ H D I h
  rw [exec_Assign_arm]
  refine wpAny_bind (wpAny_standAt ?_)
  rw [hs]
  refine wpAny_bind (wpAny_pure ?_)
  rw [if_neg (by decide)]
  refine wpAny_bind (Tuple_ (thn (ha _ pins s σ H _ I h) fun us s1 zz25 => e23 zz25 fun vs H1 I1 r1 q1 => ?_))
  obtain ⟨v, w, e1, q1⟩ := q1
  subst e1
  obtain ⟨u1, u2, rfl, rv, rw'⟩ : ∃ u1 u2, us = [u1, u2] ∧ RelV v u1 ∧ RelV w u2 := by
    cases r1 with
    | cons p q =>
      cases q with
      | cons p' q' =>
        cases q'
        exact ⟨_, _, rfl, p, p'⟩
  refine wpAny_newObj_type ?_ (by show 2 ≤ sizeLine; decide)
  have I2 : Inv X pins σ H1 { s1 with heap := s1.heap.push { cls := .type "tuple", data := .seq [u1, u2].toArray } } := I1.kept (t' := s1.toks) fun b o e => Heap.get?_push_of_some _ e
  rw [hw]
  refine wpAny_bind (wpAny_pure ?_)
  show wpAny (model X.prog X.w) X.A (do rule "assign.swapped-stores"; let items ← unpackItems (.ref s1.heap.objs.size) 2 none; assignInOrder [fun v => bindName X.env y v, fun v => bindName X.env x v] items.reverse; pure Flow.next) _ _ _
  refine wpAny_bind (wpAny_rule (wpAny_bind (unpackItems_tuple (items := #[u1, u2]) (I.ok.hd hc) (IsTup.new s1.heap _) fun h' hx' => ?_)))
  have I3 := I2.kept (h' := h') (t' := s1.toks) fun b o e => hx' b o (Nat.ne_of_lt (Heap.lt_size e)) e
  show wpAny _ _ (assignInOrder [fun v => bindName X.env y v, fun v => bindName X.env x v] [u2, u1] >>= fun _ => pure Flow.next) _ _ _
  refine wpAny_bind (assignInOrder_cons (wpAny_bindName (store_ok I3 hN hj (.inl hy) rw' (fun s2 I4 => ?_) (.inr hy))))
  refine assignInOrder_cons (wpAny_bindName (store_ok I4 hN hi (.inl hx) rv (fun s3 I5 => assignInOrder_nil (wpAny_pure ?_)) (.inr hx)))
  rw [List.set_comm _ _ (Ne.symm hij)] at I5
  exact ⟨_, H1, I5, q1⟩
end
section
variable {X : Cx} {pos : Pos}
noncomputable def tWhile (c : TT) (tb : TS) : TS := fun D σ H => ∃ W : Nat → St → Hp → Prop, (∃ m, W m σ H) ∧ ∀ m σ H, W m σ H →
  c σ H fun b H1 => if b = true then ∃ N : St → Hp → Prop, (∀ σ' H', N σ' H' → ∃ m', m' < m ∧ W m' σ' H') ∧ tb { D with nx := N, ct := N, bk := D.nx } σ H1 else D.nx σ H1
private theorem ps_while {c : Expr} {body : List Stmt} {tc : TT} {tb : TS} (hp : PassesOwn (model X.prog X.w) X.A X.env X.xe) (hc : PT X c tc) (hb : PSs X body tb) : PS X (.While c body [] pos) (tWhile tc tb) := by
  intro pins s σ H D I h
  obtain ⟨W, ⟨m0, w0⟩, turn⟩ := h
  refine wpAny_While (codeAny_whileLoop (fun n s' => ∃ σ' H', Inv X pins σ' H' s' ∧ W n σ' H') ?_ m0 ⟨σ, H, I, w0⟩)
  rintro n s1 ⟨σ1, H1, I1, w1⟩
  refine wpAny_passesOwn hp (thn (hc pins s1 σ1 H1 _ I1 (turn n σ1 H1 w1)) fun b s2 zz34 => e12 zz34 fun H2 I2 q2 => ?_)
  cases b with
  | true =>
    obtain ⟨N, hN, q2⟩ := q2
    rw [if_pos rfl]
    refine wpAny_passesOwn hp (thn (hb pins s2 σ1 H2 _ I2 q2) fun f s3 q3 => ?_)
    cases f with
    | next =>
      obtain ⟨σ3, H3, I3, n3⟩ := q3
      obtain ⟨m', hm, w3⟩ := hN σ3 H3 n3
      exact ⟨m', hm, σ3, H3, I3, w3⟩
    | cont =>
      obtain ⟨σ3, H3, I3, n3⟩ := q3
      obtain ⟨m', hm, w3⟩ := hN σ3 H3 n3
      exact ⟨m', hm, σ3, H3, I3, w3⟩
    | brk => exact q3
    | ret v => exact q3
  | false =>
    rw [if_neg Bool.false_ne_true]
    exact wpAny_execs_nil ⟨σ1, H2, I2, q2⟩
end
structure It where
  go : Nat → Hp → Prop
  yld : Nat → Hp → V → Hp → Prop
  stop : Nat → Hp → Prop
noncomputable def FpOk (X : Cx) (pins : List (Addr × Obj)) (H : Hp) (b : Addr) : Prop :=
  H b = none ∧ b ≠ X.env.locals ∧ b ∉ X.fs ∧ (b ∈ X.ex ∨ X.s₀.heap.objs.size ≤ b) ∧ (∀ x c, X.env.cells.lookup x = some c → c ≠ b) ∧ ∀ p ∈ X.pn ++ pins, p.1 ≠ b
private theorem Inv.fpOk {X : Cx} {pins : List (Addr × Obj)} {σ : St} {H H' : Hp} {s : Shared} {b : Addr} (I : Inv X pins σ H s) (hb : s.heap.objs.size ≤ b) (hn : H' b = none) : FpOk X pins H' b := by
  refine ⟨hn, Nat.ne_of_gt (Nat.lt_of_lt_of_le I.lt hb), I.nofs hb, .inr (Nat.le_trans I.sz hb), fun x c e z => ?_, fun p hp z => ?_⟩
  · obtain ⟨v, q⟩ := I.cell x c e
    exact absurd (Nat.lt_of_lt_of_le q.lt (by rw [z]; exact hb)) (Nat.lt_irrefl _)
  · exact absurd (Nat.lt_of_lt_of_le (Heap.lt_size (I.pin p hp).1) (by rw [z]; exact hb)) (Nat.lt_irrefl _)
structure Turn (P : Program) (w : World) (K : PySem.W.Frag) (tg : Expr) (J : It) (fp : List Addr) (it : Addr) (tn : Nat → Heap → Prop) : Prop where
  mem : it ∈ fp
  obj : ∀ i h, tn i h → ∀ b ∈ fp, ∃ o, h.get? b = some o ∧ ∀ v, o.data ≠ .cell v
  keep : ∀ i h h', tn i h → (∀ b ∈ fp, ∀ o, h.get? b = some o → h'.get? b = some o) → tn i h'
  item : ∀ (X : Cx), X.prog = P → X.w = w → X.K = K → X.calm = true → ∀ (i : Nat) (pins : List (Addr × Obj)) (s : Shared) (σ : St) (H : Hp) (E : Value → Shared → Prop), Inv X pins σ H s → (∀ b ∈ fp, FpOk X pins H b) → tn i s.heap → J.go i H →
    wpAny (model P w) X.A (pyNext (.ref it)) (fun r s1 => ∃ u, r = some u ∧
      wpAny (model P w) X.A (letOwnedTupleGo tg (.ref it) u) (fun _ s2 => ∃ x H', Inv X pins σ H' s2 ∧ RelV x u ∧ J.yld i H x H' ∧ tn (i + 1) s2.heap ∧ ∀ b ∈ fp, H' b = none) E s1) E s
  done : ∀ (X : Cx), X.prog = P → X.w = w → X.K = K → X.calm = true → ∀ (i : Nat) (pins : List (Addr × Obj)) (s : Shared) (σ : St) (H : Hp) (E : Value → Shared → Prop), Inv X pins σ H s → (∀ b ∈ fp, FpOk X pins H b) → tn i s.heap → J.stop i H →
    wpAny (model P w) X.A (pyNext (.ref it)) (fun r s1 => r = none ∧ Inv X pins σ H s1) E s
  self : ∀ (A : Around) (i : Nat) (s : Shared) (Q : Value → Shared → Prop) (E : Value → Shared → Prop), tn i s.heap → Q (.ref it) s → wpAny (model P w) A (pyIter (.ref it)) Q E s
noncomputable abbrev TI := St → Hp → (It → Hp → Prop) → Prop
noncomputable def PIE (X : Cx) (pins : List (Addr × Obj)) (σ : St) (tg : Expr) (R : It → Hp → Prop) (itv : Value) (s2 : Shared) : Prop :=
  ∃ (it : Addr) (fp : List Addr) (tn : Nat → Heap → Prop) (J : It) (H' : Hp), itv = .ref it ∧ Inv X pins σ H' s2 ∧ Turn X.prog X.w X.K tg J fp it tn ∧ tn 0 s2.heap ∧ (∀ b ∈ fp, FpOk X pins H' b) ∧ R J H'
noncomputable def PI (X : Cx) (tg iter : Expr) (wi : TI) : Prop :=
  ∀ (pins : List (Addr × Obj)) (s : Shared) (σ : St) (H : Hp) (R : It → Hp → Prop), Inv X pins σ H s → wi σ H R →
    wpAny (model X.prog X.w) X.A (eval iter X.env) (fun v s1 => wpAny (model X.prog X.w) X.A (pyIter v) (PIE X pins σ tg R) X.xe s1) X.xe s
private theorem go_of {M : Model} {A : Around} {E : Value → Shared → Prop} {s : Shared} {tg : Expr} {it : Addr} {u : Value} {o : Obj} {n : String} {vs : Array Value} {Q : Unit → Shared → Prop} (ho : s.heap.get? it = some o) (hc : o.cls = .type n) (hd : o.data = .fields vs)
    (hn : ["enumerate", "zip", "dict_itemiterator", "dict_reverseitemiterator", "odict_iterator", "itertools.zip_longest", "itertools.pairwise"].contains n = false) (hQ : Q () s) : wpAny M A (letOwnedTupleGo tg (.ref it) u) Q E s := by
  unfold letOwnedTupleGo
  cases tg <;> first
    | exact wpAny_pure hQ
    | (cases u <;> first
        | exact wpAny_pure hQ
        | (refine wpAny_bind (wpAny_load ho ?_)
           rw [hc, hd]
           show wpAny M A (if (["enumerate", "zip", "dict_itemiterator", "dict_reverseitemiterator", "odict_iterator", "itertools.zip_longest", "itertools.pairwise"].contains n && vs[0]? == some (rawInt _)) = true then _ else _) Q E s
           rw [if_neg (by intro h; rw [hn, Bool.false_and] at h; cases h)]
           exact wpAny_pure hQ))
noncomputable def Itl (K : PySem.W.Frag) (a : Addr) : It :=
  ⟨fun i H => ∃ xs x, SqL K H a xs ∧ xs[i]? = some x, fun i H x H' => H' = H ∧ ∀ xs, SqL K H a xs → xs[i]? = some x, fun i H => ∃ xs, SqL K H a xs ∧ xs.length ≤ i⟩
noncomputable def Itr (lo : Int) (n : Nat) : It := ⟨fun i _ => i < n, fun i H x H' => H' = H ∧ x = .int (lo + i), fun i _ => n ≤ i⟩
private theorem turn_list {P : Program} {w : World} {K : PySem.W.Frag} {tg : Expr} (a it : Addr) : Turn P w K tg (Itl K a) [it] it (fun i h => h.IsListIter it a i) where
  mem := by simp
  obj := fun i h st b hb => by
    have e : b = it := by simpa using hb
    subst e
    obtain ⟨o, e, c, d⟩ := st
    exact ⟨o, e, fun v z => by rw [d] at z; cases z⟩
  keep := fun i h h' st k => st.at fun o e => k it (by simp) o e
  item := by
    intro X hP hw hK hc i pins s σ H E I hf st hg
    subst hP hw hK
    obtain ⟨xs, x, hq, hx⟩ := hg
    obtain ⟨its, rv, p, hz⟩ := I.list hq
    obtain ⟨u, hu, ru⟩ := rv.get hx
    obtain ⟨f0, f1, f2, f3, f4, f5⟩ := hf it (by simp)
    refine wpAny_pyNext_list_item st p.isList (x := u) (by simpa using hu) fun h' st' sb => ?_
    have I1 : Inv X pins σ H { s with heap := h' } := I.turned (t' := s.toks) (fun b o hb e => (sb.2 b hb).trans e) f0 f1 f3 f4 f5
    obtain ⟨o, e, c, d⟩ := id st'
    exact ⟨u, rfl, go_of (s := { s with heap := h' }) e c d (by decide) ⟨x, H, I1, ru, ⟨rfl, fun ys hy => by rw [I.list_inj hy hq]; exact hx⟩, st', fun b hb => (hf b hb).1⟩⟩
  done := by
    intro X hP hw hK hc i pins s σ H E I hf st hg
    subst hP hw hK
    obtain ⟨xs, hq, hx⟩ := hg
    obtain ⟨its, rv, p, hz⟩ := I.list hq
    obtain ⟨f0, f1, f2, f3, f4, f5⟩ := hf it (by simp)
    have hl := rv.length
    exact wpAny_pyNext_list_end (I.ok.hd hc) st p.isList (by simp; omega) fun h' eb => ⟨rfl, I.turned (t' := s.toks) (fun b o hb e => eb b o hb e) f0 f1 f3 f4 f5⟩
  self := fun _ _ _ _ _ st h => wpAny_pyIter_listiter st h
private theorem turn_range {P : Program} {w : World} {K : PySem.W.Frag} {tg : Expr} (it : Addr) (lo : Int) (n : Nat) : Turn P w K tg (Itr lo n) [it] it (fun i h => IsRangeIter h it (lo + (i : Nat) * 1) ((n : Int) - (i : Nat)) 1) where
  mem := by simp
  obj := fun i h st b hb => by
    have e : b = it := by simpa using hb
    subst e
    exact ⟨_, st, fun v z => by
      have z' : Data.fields _ = Data.cell v := z
      cases z'⟩
  keep := fun i h h' st k => k it (by simp) _ st
  item := by
    intro X hP hw hK hc i pins s σ H E I hf st hg
    subst hP hw hK
    obtain ⟨f0, f1, f2, f3, f4, f5⟩ := hf it (by simp)
    have W := Walks.range (prog := X.prog) (w := X.w) (I.ok.hd hc) it lo 1 n
    refine W.item i s _ _ hg st fun v h' tk hv st' kk => ?_
    obtain ⟨t, rfl⟩ := hv
    have I1 : Inv X pins σ H { s with heap := h', toks := tk } := I.turned (fun b o hb e => kk b o (by simpa using hb) e) f0 f1 f3 f4 f5
    refine ⟨_, rfl, go_of (s := { s with heap := h', toks := tk }) (n := "range_iterator") st' rfl rfl (by decide) ⟨.int (lo + i), H, I1, ⟨t, ?_⟩, ⟨rfl, rfl⟩, st', fun b hb => (hf b hb).1⟩⟩
    rw [Int.mul_one]
  done := by
    intro X hP hw hK hc i pins s σ H E I hf st hg
    subst hP hw hK
    obtain ⟨f0, f1, f2, f3, f4, f5⟩ := hf it (by simp)
    exact wpAny_pyNext_range_end (I.ok.hd hc) st (by have : n ≤ i := hg; omega) fun h' eb => ⟨rfl, I.turned (t' := s.toks) (fun b o hb e => eb b o hb e) f0 f1 f3 f4 f5⟩
  self := fun _ _ _ _ _ st h => wpAny_pyIter_rangeiter st h
end L2
namespace L2
open PySem PySem.Spec PyProof.Rows
section
variable {X : Cx} {tg : Expr}
noncomputable def iList (K : PySem.W.Frag) (tl : TE) : TI := fun σ H R => tl σ H fun x H1 => ∃ a, x = .ref a ∧ (∃ xs, SqL K H1 a xs) ∧ R (Itl K a) H1
private theorem pi_list {l : Expr} {tl : TE} (hl : PE X l tl) : PI X tg l (iList X.K tl) := by
  intro pins s σ H R I h
  refine thn (hl pins s σ H _ I h) fun v s1 zz35 => e23 zz35 fun x H1 I1 r1 q1 => ?_
  obtain ⟨a, e, ⟨xs, hq⟩, q⟩ := q1
  subst e
  cases r1
  obtain ⟨its, rv, p, hz⟩ := I1.list hq
  refine wpAny_pyIter_list p.isList ?_
  refine ⟨s1.heap.objs.size, [s1.heap.objs.size], _, _, H1, rfl, I1.kept (t' := s1.toks) fun b o e => Heap.get?_push_of_some _ e, turn_list a _, ⟨_, Heap.get?_push_size _ rfl, rfl, rfl⟩, fun b hb => ?_, q⟩
  have e : b = s1.heap.objs.size := by simpa using hb
  subst e
  exact I1.fpOk (Nat.le_refl _) (I1.hok.fresh (Nat.le_refl _))
private theorem range_it {pins : List (Addr × Obj)} {σ : St} {H : Hp} {s : Shared} {R : It → Hp → Prop} {E : Value → Shared → Prop} {lo hi : Int} {t u v : Tok} {tk : Nat} (I : Inv X pins σ H s) (h1 : -(2 ^ 62) ≤ lo) (h2 : lo < 2 ^ 62) (h3 : -(2 ^ 62) ≤ hi) (h4 : hi < 2 ^ 62)
    (q : R (Itr lo (hi - lo).toNat) H) : wpAny (model X.prog X.w) X.A (pyIter (.ref s.heap.objs.size)) (PIE X pins σ tg R) E { s with heap := s.heap.push { cls := .type "range", data := .fields #[.int lo t, .int hi u, .int 1 v] }, toks := tk } := by
  refine wpAny_pyIter_range (IsRange.new ..) (small_one h1 h2 h3 h4) ?_
  have I1 : Inv X pins σ H { s with heap := s.heap.push { cls := .type "range", data := .fields #[.int lo t, .int hi u, .int 1 v] }, toks := tk } := I.kept fun b o e => Heap.get?_push_of_some _ e
  refine ⟨(s.heap.push { cls := .type "range", data := .fields #[.int lo t, .int hi u, .int 1 v] }).objs.size, [(s.heap.push { cls := .type "range", data := .fields #[.int lo t, .int hi u, .int 1 v] }).objs.size], _, _, H, rfl,
    I1.kept (t' := tk) fun b o e => Heap.get?_push_of_some _ e, turn_range _ lo (hi - lo).toNat, ?_, fun b hb => ?_, q⟩
  · have e1 : lo + ((0 : Nat) : Int) * 1 = lo := by simp
    have e2 : (((hi - lo).toNat : Nat) : Int) - ((0 : Nat) : Int) = Builtin.Range.rangeSize lo hi 1 := by rw [rangeSize_one]; split <;> omega
    show IsRangeIter _ _ (lo + ((0 : Nat) : Int) * 1) ((((hi - lo).toNat : Nat) : Int) - ((0 : Nat) : Int)) 1
    rw [e1, e2]
    exact Heap.get?_push_size _ rfl
  · have e : b = (s.heap.push { cls := .type "range", data := .fields #[.int lo t, .int hi u, .int 1 v] }).objs.size := by simpa using hb
    subst e
    exact I1.fpOk (Nat.le_refl _) (I1.hok.fresh (Nat.le_refl _))
noncomputable def iRng1 (ta : TA) : TI := fun σ H R => ta σ H fun vs H1 => ∃ j : Int, vs = [.int j] ∧ -(2 ^ 62) ≤ j ∧ j < 2 ^ 62 ∧ R (Itr 0 j.toNat) H1
noncomputable def iRng2 (ta : TA) : TI := fun σ H R => ta σ H fun vs H1 => ∃ i j : Int, vs = [.int i, .int j] ∧ (-(2 ^ 62) ≤ i ∧ i < 2 ^ 62 ∧ -(2 ^ 62) ≤ j ∧ j < 2 ^ 62) ∧ R (Itr i (j - i).toNat) H1
private theorem pi_range1 {a : Expr} {ta : TA} {p pos : Pos} (hg : Gl X "range") (hm : X.mg "range" = none) (ha : PA X [a] ta) (hs : starEach [a] X.env = [(false, eval a X.env)] := by rfl) : PI X tg (.Call (.Name "range" p) [a] [] pos) (iRng1 ta) := by
  intro pins s σ H R I h
  refine Call_ (ld_blt I hg hm boot_range (PyProof.Rows.callWith_type1 (thn (ha pos pins s σ H _ I h) fun us s1 zz37 => e23 zz37 fun vs H1 I1 r1 q1 => ?_) hs rfl))
  obtain ⟨j, e, q1, q2, q⟩ := q1
  subst e
  cases r1 with
  | cons r rr =>
    cases rr
    obtain ⟨t, rfl⟩ := r
    exact call_range_1 (range_it I1 (by omega) (by omega) q1 q2 (by simpa using q))
private theorem pi_range2 {a b : Expr} {ta : TA} {p pos : Pos} (hg : Gl X "range") (hm : X.mg "range" = none) (ha : PA X [a, b] ta) (hs : starEach [a, b] X.env = [(false, eval a X.env), (false, eval b X.env)] := by rfl) (hs2 : starEach [b] X.env = [(false, eval b X.env)] := by rfl) :
    PI X tg (.Call (.Name "range" p) [a, b] [] pos) (iRng2 ta) := by
  intro pins s σ H R I h
  refine Call_ (ld_blt I hg hm boot_range (PyProof.Rows.callWith_type1 (thn (ha pos pins s σ H _ I h) fun us s1 zz38 => e23 zz38 fun vs H1 I1 r1 q1 => ?_) (by rw [hs, hs2]) (by rw [hs2]; rfl)))
  obtain ⟨i, j, e, ⟨q1, q2, q3, q4⟩, q⟩ := q1
  subst e
  cases r1 with
  | cons r rr =>
    cases rr with
    | cons r' rr =>
      cases rr
      obtain ⟨t, rfl⟩ := r
      obtain ⟨t', rfl⟩ := r'
      exact call_range_2 (range_it I1 q1 q2 q3 q4 q)
noncomputable def tFor (wi : TI) (g : TG) (tb : TS) : TS := fun D σ H => wi σ H fun J H1 => ∃ W : Nat → Nat → St → Hp → Prop, (∃ m, W 0 m σ H1) ∧ ∀ i m σ H, W i m σ H →
  (J.stop i H ∧ D.nx σ H) ∨ (J.go i H ∧ ∃ N : St → Hp → Prop, (∀ σ' H', N σ' H' → ∃ m', m' < m ∧ W (i + 1) m' σ' H') ∧ ∀ x H', J.yld i H x H' → g x σ H' fun σ2 H2 => tb { D with nx := N, ct := N, bk := D.nx } σ2 H2)
noncomputable def pinsAt (fp : List Addr) (h : Heap) : List (Addr × Obj) := fp.filterMap fun b => (h.get? b).map fun o => (b, o)
private theorem mem_pinsAt {fp : List Addr} {h : Heap} {b : Addr} {o : Obj} (hb : b ∈ fp) (e : h.get? b = some o) : (b, o) ∈ pinsAt fp h := List.mem_filterMap.mpr ⟨b, hb, by rw [e]; rfl⟩
private theorem of_pinsAt {fp : List Addr} {h : Heap} {p : Addr × Obj} (hp : p ∈ pinsAt fp h) : p.1 ∈ fp ∧ h.get? p.1 = some p.2 := by
  obtain ⟨b, hb, e⟩ := List.mem_filterMap.mp hp
  cases q : h.get? b with
  | none => rw [q] at e; cases e
  | some o =>
    rw [q] at e
    have e' : (b, o) = p := Option.some.inj e
    subst e'
    exact ⟨hb, q⟩
private theorem Inv.pinned {pins : List (Addr × Obj)} {σ : St} {H : Hp} {s : Shared} {fp : List Addr} (I : Inv X pins σ H s) (hf : ∀ b ∈ fp, FpOk X pins H b) (ho : ∀ b ∈ fp, ∃ o, s.heap.get? b = some o ∧ ∀ v, o.data ≠ .cell v) : Inv X (pins ++ pinsAt fp s.heap) σ H s :=
  I.pins_of fun p hp => (List.mem_append.mp hp).elim (fun z => I.pin p (List.mem_append_right _ z)) fun z => by
    obtain ⟨hb, e⟩ := of_pinsAt z
    obtain ⟨f0, f1, f2, _⟩ := hf p.1 hb
    obtain ⟨o, e', d⟩ := ho p.1 hb
    rw [e] at e'; cases e'
    exact ⟨e, f0, f1, f2, d⟩
private theorem Inv.unpinned {pins pl : List (Addr × Obj)} {σ : St} {H : Hp} {s : Shared} (I : Inv X (pins ++ pl) σ H s) : Inv X pins σ H s := I.pins_of fun p hp => I.pin p (List.mem_append_right _ (List.mem_append_left _ hp))
private theorem ps_for {iter : Expr} {body : List Stmt} {wi : TI} {g : TG} {tb : TS} {pos : Pos} (hp : PassesOwn (model X.prog X.w) X.A X.env X.xe) (hc : X.calm = true) (hi : PI X tg iter wi) (hg : PG X tg g) (hb : PSs X body tb)
    (hs : ∀ x, foldedSetIterable iter X.env x = pure x := by intro _; rfl) : PS X (.For tg iter body [] pos) (tFor wi g tb) := by
  intro pins s σ H D I h
  refine wpAny_For (thn (hi pins s σ H _ I h) fun v s1 h1 => thn h1 fun itv s2 h2 => ?_) hs
  obtain ⟨it, fp, tn, J, H2, e, I2, T, st2, f2, W, ⟨m0, w0⟩, turn⟩ := h2
  subst e
  -- what stays true of the iterator's objects through the loop
  have stat : ∀ {H' : Hp}, (∀ b ∈ fp, H' b = none) → ∀ b ∈ fp, FpOk X pins H' b := fun hn b hb => ⟨hn b hb, (f2 b hb).2⟩
  refine codeAny_forLoop_any (fun n s' => ∃ i σ' H', Inv X pins σ' H' s' ∧ tn i s'.heap ∧ (∀ b ∈ fp, H' b = none) ∧ W i n σ' H') ?_ m0 ⟨0, σ, H2, I2, st2, fun b hb => (f2 b hb).1, w0⟩
  rintro n s3 ⟨i, σ3, H3, I3, st3, fr3, w3⟩
  rcases turn i n σ3 H3 w3 with ⟨stop, qn⟩ | ⟨go, N, hN, step⟩
  · refine wpAny_passesOwn hp (thn (T.done X rfl rfl rfl hc i pins s3 σ3 H3 X.xe I3 (stat fr3) st3 stop) fun r s4 ⟨hr, I4⟩ => ?_)
    subst hr
    exact wpAny_execs_nil ⟨σ3, H3, I4, qn⟩
  · refine wpAny_passesOwn hp (thn (T.item X rfl rfl rfl hc i pins s3 σ3 H3 X.xe I3 (stat fr3) st3 go) fun r s4 ⟨u, hr, h4⟩ => ?_)
    subst hr
    refine wpAny_passesOwn hp (thn h4 fun _ s5 ⟨x, H5, I5, r5, y5, st5, fr5⟩ => ?_)
    have I5' := I5.pinned (stat fr5) (T.obj _ _ st5)
    refine wpAny_passesOwn hp (thn (hg _ s5 σ3 H5 x u _ I5' r5 (step x H5 y5)) fun _ s6 zz42 => e22 zz42 fun σ6 H6 I6 q6 => ?_)
    refine wpAny_passesOwn hp (thn (hb _ s6 σ6 H6 _ I6 q6) fun f s7 q7 => ?_)
    have again : ∀ {σ7 : St} {H7 : Hp}, Inv X (pins ++ pinsAt fp s5.heap) σ7 H7 s7 → N σ7 H7 → ∃ m, m < n ∧ ∃ i σ' H', Inv X pins σ' H' s7 ∧ tn i s7.heap ∧ (∀ b ∈ fp, H' b = none) ∧ W i m σ' H' := fun {σ7 H7} I7 n7 => by
      obtain ⟨m', hm, w7⟩ := hN σ7 H7 n7
      refine ⟨m', hm, i + 1, σ7, H7, I7.unpinned, T.keep _ _ _ st5 fun b hb o e => (I7.pin (b, o) (List.mem_append_right _ (List.mem_append_right _ (mem_pinsAt hb e)))).1, fun b hb => ?_, w7⟩
      obtain ⟨o, e, d⟩ := T.obj _ _ st5 b hb
      exact (I7.pin (b, o) (List.mem_append_right _ (List.mem_append_right _ (mem_pinsAt hb e)))).2.1
    cases f with
    | next => obtain ⟨σ7, H7, I7, n7⟩ := q7; exact again I7 n7
    | cont => obtain ⟨σ7, H7, I7, n7⟩ := q7; exact again I7 n7
    | brk => obtain ⟨σ7, H7, I7, q7⟩ := q7; exact ⟨σ7, H7, I7.unpinned, q7⟩
    | ret v => obtain ⟨x7, σ7, H7, I7, r7, q7⟩ := q7; exact ⟨x7, σ7, H7, I7.unpinned, r7, q7⟩
end
end L2
namespace L2
open PySem PySem.Spec PyProof.Rows
noncomputable abbrev R2 := V → V → Hp → VK → Prop
noncomputable def OpR (X : Cx) (f : Value → Value → Sem Value) (r : R2) : Prop :=
  ∀ (pins : List (Addr × Obj)) (s : Shared) (σ : St) (H : Hp) (x y : V) (v u : Value) (Q : VK), Inv X pins σ H s → RelV x v → RelV y u → r x y H Q →
    wpAny (model X.prog X.w) X.A (f v u) (EP X pins σ Q) X.xe s
noncomputable def UnR (X : Cx) (f : Value → Sem Value) (r : V → Hp → VK → Prop) : Prop :=
  ∀ (pins : List (Addr × Obj)) (s : Shared) (σ : St) (H : Hp) (x : V) (v : Value) (Q : VK), Inv X pins σ H s → RelV x v → r x H Q →
    wpAny (model X.prog X.w) X.A (f v) (EP X pins σ Q) X.xe s
noncomputable def CallR (X : Cx) (f : Value) (r : List V → Hp → VK → Prop) : Prop :=
  ∀ (pins : List (Addr × Obj)) (s : Shared) (σ : St) (H : Hp) (xs : List V) (us : List Value) (Q : VK), Inv X pins σ H s → Vals xs us → r xs H Q →
    wpAny (model X.prog X.w) X.A (call f us) (EP X pins σ Q) X.xe s
noncomputable def tOp (r : R2) (ta tb : TE) : TE := fun σ H Q => ta σ H fun x H1 => tb σ H1 fun y H2 => r x y H2 Q
noncomputable def tUn (r : V → Hp → VK → Prop) (ta : TE) : TE := fun σ H Q => ta σ H fun x H1 => r x H1 Q
noncomputable def rI (C : Int → Int → Prop) (g : Int → Int → V) : R2 := fun x y H Q => ∃ i j, x = .int i ∧ y = .int j ∧ C i j ∧ Q (g i j) H
noncomputable def rI0 (g : Int → Int → V) : R2 := fun x y H Q => ∃ i j, x = .int i ∧ y = .int j ∧ Q (g i j) H
noncomputable def rU (g : Int → V) : V → Hp → VK → Prop := fun x H Q => ∃ i, x = .int i ∧ Q (g i) H
section
variable {X : Cx} {a b c : Expr} {ta tb tc : TE} {pos : Pos}
private theorem binT (ha : PE X a ta) (hb : PE X b tb) {pins : List (Addr × Obj)} {s : Shared} {σ : St} {H : Hp} {R : V → V → Hp → Prop} (I : Inv X pins σ H s)
    (h : ta σ H fun x H1 => tb σ H1 fun y H2 => R x y H2) {Q : Value → Shared → Prop} {f : Value → Value → Sem Value}
    (hf : ∀ v u s2 x y H2, Inv X pins σ H2 s2 → RelV x v → RelV y u → R x y H2 → wpAny (model X.prog X.w) X.A (f v u) Q X.xe s2) :
    wpAny (model X.prog X.w) X.A (eval a X.env) (fun v s₁ => wpAny (model X.prog X.w) X.A (eval b X.env) (fun u s₂ => wpAny (model X.prog X.w) X.A (f v u) Q X.xe s₂) X.xe s₁) X.xe s := by
  refine thn (ha pins s σ H _ I h) fun v s1 zz44 => e23 zz44 fun x H1 I1 r1 q1 => ?_
  refine thn (hb pins s1 σ H1 _ I1 q1) fun u s2 zz45 => e23 zz45 fun y H2 I2 r2 q2 => ?_
  exact hf v u s2 x y H2 I2 r1 r2 q2
private theorem pe_op {op : Operator} {r : R2} (ho : OpR X (binaryOp op) r) (ha : PE X a ta) (hb : PE X b tb) : PE X (.BinOp a op b pos) (tOp r ta tb) := by
  intro pins s σ H Q I h
  exact wpAny_BinOp (binT ha hb I h fun v u s2 x y H2 I2 rx ry q => ho pins s2 σ H2 x y v u Q I2 rx ry q)
private theorem pe_un {op : UnaryOp} {r : V → Hp → VK → Prop} (ho : UnR X (unaryOp op) r) (ha : PE X a ta) : PE X (.UnaryOp op a pos) (tUn r ta) := by
  intro pins s σ H Q I h
  exact UnaryOp_ (thn (ha pins s σ H _ I h) fun v s1 zz46 => e23 zz46 fun x H1 I1 r1 q1 => ho pins s1 σ H1 x v Q I1 r1 q1)
private theorem opI {f : Value → Value → Sem Value} {C : Int → Int → Prop} {g : Int → Int → Int}
    (rule : ∀ (i j : Int) (t u : Tok) (s : Shared) (Q : Value → Shared → Prop) (E : Value → Shared → Prop), C i j → Q (.int (g i j) s.toks) { s with toks := s.toks + 1 } → wpAny (model X.prog X.w) X.A (f (.int i t) (.int j u)) Q E s) :
    OpR X f (rI C fun i j => .int (g i j)) := by
  intro pins s σ H x y v u Q I rx ry h
  obtain ⟨i, j, rfl, rfl, hc, q⟩ := h
  obtain ⟨t, rfl⟩ := rx
  obtain ⟨t', rfl⟩ := ry
  exact rule i j t t' s _ _ hc ⟨.int (g i j), H, I.tok _, ⟨_, rfl⟩, q⟩
private theorem opI0 {f : Value → Value → Sem Value} {g : Int → Int → Int}
    (rule : ∀ (i j : Int) (t u : Tok) (s : Shared) (Q : Value → Shared → Prop) (E : Value → Shared → Prop), Q (.int (g i j) s.toks) { s with toks := s.toks + 1 } → wpAny (model X.prog X.w) X.A (f (.int i t) (.int j u)) Q E s) :
    OpR X f (rI0 fun i j => .int (g i j)) := by
  intro pins s σ H x y v u Q I rx ry h
  obtain ⟨i, j, rfl, rfl, q⟩ := h
  obtain ⟨t, rfl⟩ := rx
  obtain ⟨t', rfl⟩ := ry
  exact rule i j t t' s _ _ ⟨.int (g i j), H, I.tok _, ⟨_, rfl⟩, q⟩
private theorem opB0 {f : Value → Value → Sem Value} {g : Int → Int → Bool}
    (rule : ∀ (i j : Int) (t u : Tok) (s : Shared) (Q : Value → Shared → Prop) (E : Value → Shared → Prop), Q (.bool (g i j)) s → wpAny (model X.prog X.w) X.A (f (.int i t) (.int j u)) Q E s) :
    OpR X f (rI0 fun i j => .bl (g i j)) := by
  intro pins s σ H x y v u Q I rx ry h
  obtain ⟨i, j, rfl, rfl, q⟩ := h
  obtain ⟨t, rfl⟩ := rx
  obtain ⟨t', rfl⟩ := ry
  exact rule i j t t' s _ _ ⟨.bl (g i j), H, I, rfl, q⟩
noncomputable def CPow (i j : Int) : Prop := 0 ≤ j ∧ j ≤ 1000000 ∧ i.natAbs < 2 ^ 64
noncomputable def CMul (i j : Int) : Prop := (-(2 ^ 64) < i ∧ i < 2 ^ 64) ∨ (-(2 ^ 64) < j ∧ j < 2 ^ 64)
private theorem CMul.ok {i j : Int} (h : CMul i j) : IntMulOk i j := by
  rcases h with ⟨h1, h2⟩ | ⟨h1, h2⟩
  · exact .of_left (intBits_le_64 h1 h2)
  · exact .of_right (intBits_le_64 h1 h2)
private theorem op_add : OpR X (binaryOp .Add) (rI0 fun i j => .int (i + j)) := opI0 fun _ _ _ _ _ _ _ q => add_int q
private theorem op_sub : OpR X (binaryOp .Sub) (rI0 fun i j => .int (i - j)) := opI0 fun _ _ _ _ _ _ _ q => sub_int q
private theorem op_mul : OpR X (binaryOp .Mult) (rI CMul fun i j => .int (i * j)) := opI fun _ _ _ _ _ _ _ hc q => mul_int q hc.ok
private theorem op_modN : OpR X (binaryOp .Mod) (rI (fun _ j => j ≠ 0) fun i j => .int (i.fmod j)) := opI fun _ _ _ _ _ _ _ hc q => mod_int' hc q
private theorem op_pow : OpR X (binaryOp .Pow) (rI CPow fun i j => .int (i ^ j.toNat)) := opI fun _ _ _ _ _ _ _ hc q => pow_int_small hc.1 hc.2.1 hc.2.2 q
private theorem unI {f : Value → Sem Value} {g : Int → Int}
    (rule : ∀ (i : Int) (t : Tok) (s : Shared) (Q : Value → Shared → Prop) (E : Value → Shared → Prop), Q (.int (g i) s.toks) { s with toks := s.toks + 1 } → wpAny (model X.prog X.w) X.A (f (.int i t)) Q E s) :
    UnR X f (rU fun i => .int (g i)) := by
  intro pins s σ H x v Q I rx h
  obtain ⟨i, rfl, q⟩ := h
  obtain ⟨t, rfl⟩ := rx
  exact rule i t s _ _ ⟨.int (g i), H, I.tok _, ⟨_, rfl⟩, q⟩
private theorem un_neg : UnR X (unaryOp .USub) (rU fun i => .int (-i)) := unI fun _ _ _ _ _ q => neg_int q
end
section
variable {X : Cx} {a b c : Expr} {ta tb tc : TE} {pos : Pos}
private theorem op_lt : OpR X (compareOp .Lt) (rI0 fun i j => .bl (decide (i < j))) := opB0 fun _ _ _ _ _ _ _ q => lt_int q
private theorem op_gt : OpR X (compareOp .Gt) (rI0 fun i j => .bl (decide (j < i))) := opB0 fun _ _ _ _ _ _ _ q => gt_int q
private theorem nomark (b : Expr) {op : CmpOp} (h : op ≠ .In := by decide) (h2 : op ≠ .NotIn := by decide) : behindInMarks op b = false := by
  have e1 : (op == CmpOp.In) = false := by cases op <;> first | rfl | exact absurd rfl h
  have e2 : (op == CmpOp.NotIn) = false := by cases op <;> first | rfl | exact absurd rfl h2
  cases b <;> simp [behindInMarks, e1, e2]
private theorem pe_cmpR {op : CmpOp} {r : R2} (ho : OpR X (compareOp op) r) (ha : PE X a ta) (hb : PE X b tb) (hm : behindInMarks op b = false) : PE X (.Compare a [op] [b] pos) (tOp r ta tb) := by
  intro pins s σ H Q I h
  exact wpAny_Compare1 (binT ha hb I h fun v u s2 x y H2 I2 rx ry q => ho pins s2 σ H2 x y v u Q I2 rx ry q) hm
noncomputable def tTest (t : TE) : TT := fun σ H Q => t σ H fun x H' => ∃ k, x = .bl k ∧ Q k H'
private theorem pt_cmpR {op : CmpOp} {r : R2} (ho : OpR X (compareOp op) r) (ha : PE X a ta) (hb : PE X b tb) (hm : behindInMarks op b = false) : PT X (.Compare a [op] [b] pos) (tTest (tOp r ta tb)) := by
  intro pins s σ H Q I h
  refine wpAny_isTrue_Compare1 (thn (ha pins s σ H _ I h) fun v s1 zz47 => e23 zz47 fun x H1 I1 r1 q1 => thn (hb pins s1 σ H1 _ I1 q1) fun u s2 zz48 => e23 zz48 fun y H2 I2 r2 q2 =>
    thn (ho pins s2 σ H2 x y v u _ I2 r1 r2 q2) fun c s3 ⟨z, H3, I3, r3, k, e, q3⟩ => ?_) hm
  subst e
  cases r3
  exact wpAny_truthy_bool ⟨H3, I3, q3⟩
private theorem line63 : (sizeLine : Nat) < 2 ^ 63 := by rw [sizeLine_eq]; decide
private theorem vals1 {x : V} {us : List Value} (r : Vals [x] us) : ∃ u, us = [u] ∧ RelV x u := by
  cases r with
  | cons r1 r2 => cases r2; exact ⟨_, rfl, r1⟩
private theorem vals2 {x y : V} {us : List Value} (r : Vals [x, y] us) : ∃ u w', us = [u, w'] ∧ RelV x u ∧ RelV y w' := by
  cases r with
  | cons r1 r2 =>
    cases r2 with
    | cons r3 r4 => cases r4; exact ⟨_, _, rfl, r1, r3⟩
private theorem call_abs : CallR X (.builtin "abs") (fun xs H Q => ∃ i, xs = [.int i] ∧ Q (.int (if i < 0 then -i else i)) H) := by
  intro pins s σ H xs us Q I r h
  obtain ⟨i, rfl, q⟩ := h
  obtain ⟨u, rfl, t, rfl⟩ := vals1 r
  exact call_abs_int fun u tk => ⟨.int (if i < 0 then -i else i), H, I.tok _, ⟨_, rfl⟩, q⟩
private theorem call_max2 (hc : X.calm = true) : CallR X (.builtin "max") (fun xs H Q => ∃ i j, xs = [.int i, .int j] ∧ Q (.int (if j > i then j else i)) H) := by
  intro pins s σ H xs us Q I r h
  obtain ⟨i, j, rfl, q⟩ := h
  obtain ⟨u, w', rfl, ⟨t, rfl⟩, ⟨t', rfl⟩⟩ := vals2 r
  refine max_two_ints (I.ok.hd hc) fun h' tk k => ⟨_, H, I.kept k, ?_, q⟩
  by_cases hj : j > i
  · rw [if_pos hj, if_pos hj]; exact ⟨_, rfl⟩
  · rw [if_neg hj, if_neg hj]; exact ⟨_, rfl⟩
private theorem call_min2 (hc : X.calm = true) : CallR X (.builtin "min") (fun xs H Q => ∃ i j, xs = [.int i, .int j] ∧ Q (.int (if j < i then j else i)) H) := by
  intro pins s σ H xs us Q I r h
  obtain ⟨i, j, rfl, q⟩ := h
  obtain ⟨u, w', rfl, ⟨t, rfl⟩, ⟨t', rfl⟩⟩ := vals2 r
  refine min_two_ints (I.ok.hd hc) fun h' tk k => ⟨_, H, I.kept k, ?_, q⟩
  by_cases hj : j < i
  · rw [if_pos hj, if_pos hj]; exact ⟨_, rfl⟩
  · rw [if_neg hj, if_neg hj]; exact ⟨_, rfl⟩
private theorem call_int1 : CallR X (.type "int") (fun xs H Q => (∃ i, xs = [.int i] ∧ Q (.int i) H) ∨ ∃ k, xs = [.bl k] ∧ Q (.int (if k then 1 else 0)) H) := by
  intro pins s σ H xs us Q I r h
  rcases h with ⟨i, rfl, q⟩ | ⟨k, rfl, q⟩
  · obtain ⟨u, rfl, t, rfl⟩ := vals1 r
    exact call_int_int ⟨.int i, H, I, ⟨_, rfl⟩, q⟩
  · obtain ⟨u, rfl, r1⟩ := vals1 r
    cases r1
    exact call_int_bool ⟨.int (if k then 1 else 0), H, I.tok _, ⟨_, rfl⟩, q⟩
end
end L2
namespace L2
open PySem PySem.Spec PyProof.Rows
section
variable {prog : Program} {w : World} {A : Around} {E : Value → Shared → Prop} {s : Shared} {K : PySem.W.Frag} {x dx C f : Addr} {mA : Str → Option Value} {name : Str} {v : Value}
end
private theorem RelO.some_of {v : V} {o : Option Value} (r : RelO (some v) o) : ∃ u, o = some u ∧ RelV v u := by
  cases o with
  | none => exact (show False from r).elim
  | some u => exact ⟨u, rfl, r⟩
section
variable {P : Program} {w : World} {H H' : Hp} {h h' : Heap} {a C dx : Addr} {fs fs' : List (Str × V)}
end
section
variable {X : Cx} {pins : List (Addr × Obj)} {σ : St} {H : Hp} {s : Shared} {a C dx : Addr} {fs : List (Str × V)} {f : Str} {v : V} {A : Around} {E : Value → Shared → Prop}
end
section
variable {X : Cx} {o e value : Expr} {f : Str} {pos pos' tpos : Pos} {ta tv : TE}
end
section
variable {X : Cx} {pins : List (Addr × Obj)} {σ : St} {H : Hp} {s : Shared} {A : Around} {E : Value → Shared → Prop} {Q : Value → Shared → Prop} {c : Value} {b : Bool}
end
end L2
namespace L2
open PySem PySem.Spec PyProof.Rows
structure Room (k : Nat) (A : Around) : Prop where
  hd : A.handled = none
  dp : A.depth + 3 * k + 5 < recursionLimit
  un : A.units + 16 * k + 200 < cLine
private theorem Room.mono {j k : Nat} {A : Around} (r : Room k A) (h : j ≤ k) : Room j A := ⟨r.hd, by have := r.dp; omega, by have := r.un; omega⟩
private theorem Room.deeper {k : Nat} {A : Around} (r : Room (k + 1) A) (env : Env) : Room k (A.deeper env) :=
  ⟨r.hd, by have := r.dp; show A.depth + 1 + 3 * k + 5 < _; omega, by have := r.un; show A.units + 3 + 16 * k + 200 < _; omega⟩
private theorem Room.depth {k : Nat} {A : Around} (r : Room k A) : A.depth < recursionLimit := by have := r.dp; omega
noncomputable def tNil : TA := fun _ H Q => Q [] H
noncomputable def tCons (ta : TE) (tr : TA) : TA := fun σ H Q => ta σ H fun x H1 => tr σ H1 fun xs H2 => Q (x :: xs) H2
section
variable {X : Cx} {e : Expr} {es : List Expr} {te : TE} {t : TA} {pos : Pos}
private theorem pa_nil : PA X [] tNil := fun _ _ _ _ H Q I h => Calls.spliced_nil ⟨[], H, I, .nil, h⟩
private theorem pa_cons (ha : PE X e te) (hr : PA X es t) (hs : starEach (e :: es) X.env = (false, eval e X.env) :: starEach es X.env := by rfl) : PA X (e :: es) (tCons te t) := by
  intro pos pins s σ H Q I h
  rw [hs]
  show wpAny _ _ (spliced ((false, eval e X.env) :: backTo pos (starEach es X.env))) _ _ s
  refine Calls.spliced_cons (thn (ha pins s σ H _ I h) fun u s1 zz68 => e23 zz68 fun x H1 I1 r1 q1 => ?_)
  exact thn (hr pos pins s1 σ H1 _ I1 q1) fun us s2 zz69 => e23 zz69 fun xs H2 I2 r2 q2 => ⟨x :: xs, H2, I2, .cons r1 r2, q2⟩
noncomputable def tTup (t : TA) : TE := fun σ H Q => t σ H fun xs H1 => xs.length ≤ sizeLine ∧ ∀ p, H1 p = none → Q (.ref p) (upd H1 p (.tup xs))
noncomputable def tLst (t : TA) : TE := fun σ H Q => t σ H fun xs H1 => xs.length ≤ sizeLine ∧ ∀ p, H1 p = none → Q (.ref p) (upd H1 p (.lst xs))
private theorem pe_tup {x1} (h : PA X es t) : PE X (.Tuple es x1 pos) (tTup t) := by
  intro pins s σ H Q I hq
  refine wpAny_Tuple_spliced (thn (h pos pins s σ H _ I hq) fun us s1 zz70 => e24 zz70 fun xs H1 I1 r z q => ⟨by rw [← r.length]; exact z, ?_⟩)
  have hf : H1 s1.heap.objs.size = none := I1.hok.fresh (Nat.le_refl _)
  refine ⟨.ref s1.heap.objs.size, upd H1 s1.heap.objs.size (.tup xs), I1.laid (t' := s1.toks) (fun b u e => Heap.get?_push_of_some _ e) (Nat.le_refl _) ?_, rfl, q _ hf⟩
  exact ⟨z, us, r, ⟨_, Heap.get?_push_size _ rfl, rfl, _, rfl⟩⟩
private theorem pe_lst (h : PA X es t) : PE X (.List es pos) (tLst t) := by
  intro pins s σ H Q I hq
  refine wpAny_List_spliced (thn (h pos pins s σ H _ I hq) fun us s1 zz71 => e24 zz71 fun xs H1 I1 r z q => ⟨by rw [← r.length]; exact z, ?_⟩)
  have hf : H1 s1.heap.objs.size = none := I1.hok.fresh (Nat.le_refl _)
  refine ⟨.ref s1.heap.objs.size, upd H1 s1.heap.objs.size (.lst xs), I1.laid (t' := s1.toks) (fun b u e => Heap.get?_push_of_some _ e) (Nat.le_refl _) ?_, rfl, q _ hf⟩
  exact ⟨z, us, 0, r, Heap.get?_push_size _ rfl⟩
end
noncomputable abbrev Sp := List V → Hp → VK → XK → Prop
noncomputable abbrev CXT := List Env → Hp → Shared → XK → Value → Shared → Prop
structure Env0 (P : Program) (w : World) (K : PySem.W.Frag) (mg : Str → Option Value) (base : Heap) (A : Around) (outer : List Env) (s : Shared) (H : Hp) : Prop where
  frames : A.frames = some outer
  mod : Mod K mg base
  bs : ∀ b o, base.get? b = some o → s.heap.get? b = some o ∧ H b = none
  bsz : base.objs.size ≤ s.heap.objs.size
  funs : s.heap.FunFrames base outer
  frf : ∀ b ∈ frs outer, H b = none
  hok : HOk P w H s.heap
  bare : AllBare s.gens
noncomputable def CE (outer : List Env) (P : Program) (w : World) (H : Hp) (s : Shared) (Q : VK) (u : Value) (s' : Shared) : Prop :=
  ∃ v H', s'.os = s.os ∧ AllBare s'.gens ∧ Un (frs outer) [] H H' s.heap s'.heap ∧ HOk P w H' s'.heap ∧ RelV v u ∧ Q v H'
noncomputable def CR (CX : CXT) (outer : List Env) (P : Program) (w : World) (H : Hp) (s : Shared) (Q : VK) (E : XK) (r : Result) (s' : Shared) : Prop :=
  match r with
  | .ok (.ret u) => CE outer P w H s Q u s'
  | .ok _ => False
  | .error e => CX outer H s E e s'
structure FnOk (P : Program) (w : World) (K : PySem.W.Frag) (mg : Str → Option Value) (base : Heap) (CX : CXT) (k : Nat) (f : Addr) (fd : FuncData) (ps : List Str) (sp : Sp) : Prop where
  len : ∀ vs H Q E, sp vs H Q E → vs.length = ps.length
  run : ∀ (A : Around) (outer : List Env) (s : Shared) (H : Hp) (args : Args) (us : List Value) (vs : List V) (Q : VK) (E : XK), Room k A → Env0 P w K mg base A outer s H → BindsTo s fd args (ps.zip us) → Vals vs us → sp vs H Q E →
    codeAny (model P w) A (.call (.ref f) args) (CR CX outer P w H s Q E) s
private theorem FnOk.imp {P : Program} {w : World} {K : PySem.W.Frag} {mg : Str → Option Value} {base : Heap} {CX : CXT} {k : Nat} {f : Addr} {fd : FuncData} {ps : List Str} {sp sp' : Sp} (F : FnOk P w K mg base CX k f fd ps sp)
    (h : ∀ vs H Q E, sp' vs H Q E → sp vs H Q E) : FnOk P w K mg base CX k f fd ps sp' :=
  ⟨fun vs H Q E q => F.len vs H Q E (h _ _ _ _ q), fun A outer s H args us vs Q E hr he hb hv hs => F.run A outer s H args us vs Q E hr he hb hv (h _ _ _ _ hs)⟩
section
variable {X : Cx} {pins : List (Addr × Obj)} {σ : St} {H : Hp} {s s' : Shared}
private theorem Inv.env0 (I : Inv X pins σ H s) : Env0 X.prog X.w X.K X.mg X.base X.A X.stack s H :=
  ⟨I.ok.frames, I.ok.mod, I.bs, Nat.le_trans I.ok.bsz I.sz, I.stack, I.stkFree, I.hok, I.bare⟩
private theorem Inv.after {Q : VK} {u : Value} (I : Inv X pins σ H s) (h : CE X.stack X.prog X.w H s Q u s') : EP X pins σ Q u s' := by
  obtain ⟨v, H', os, bare, un, hok, r, q⟩ := h
  obtain ⟨hh, g, d, t, os'⟩ := s'
  obtain rfl : os' = s.os := os
  exact ⟨v, H', I.call (h' := hh) (g' := g) (d' := d) (t' := t) (ch := []) un hok bare (fun b z => absurd z (by simp)), r, q⟩
end
noncomputable def tCall (sp : Sp) (dvs : List V) (E : XK) (t : TA) : TE := fun σ H Q => t σ H fun vs H1 => sp (vs ++ dvs) H1 Q E
noncomputable def Binds (K : PySem.W.Frag) (fd : FuncData) (ps : List Str) (ds : List Value) : Prop :=
  ∀ (s : Shared) (us : List Value), K.In s.heap → (us ++ ds).length = ps.length → BindsTo s fd ⟨us, []⟩ (ps.zip (us ++ ds))
private theorem Binds.all {K : PySem.W.Frag} {fd : FuncData} {ps : List Str} (h : ∀ us : List Value, us.length = ps.length → bindArgs fd ⟨us, []⟩ = pure (ps.zip us)) : Binds K fd ps [] := fun s us _ hl => by
  rw [List.append_nil] at hl ⊢
  exact .of_eq (h us hl)
noncomputable def Passes (CX : CXT) (X : Cx) (E : XK) : Prop := ∀ (pins : List (Addr × Obj)) (σ : St) (H : Hp) (s : Shared) (e : Value) (s' : Shared), Inv X pins σ H s → CX X.stack H s E e s' → X.xe e s'
section
variable {X : Cx} {CX : CXT} {k : Nat} {f C : Addr} {fd : FuncData} {ps : List Str} {sp : Sp} {dvs : List V} {ds : List Value} {E : XK} {x m : Str} {p pos apos : Pos} {e o : Expr} {es : List Expr} {ta : TE} {t : TA}
private theorem run_fn {pins : List (Addr × Obj)} {σ : St} {H : Hp} {s : Shared} {Q : VK} {us : List Value} {vs : List V} (F : FnOk X.prog X.w X.K X.mg X.base CX k f fd ps sp) (hr : Room k X.A) (hb : Binds X.K fd ps ds) (hd : Vals dvs ds) (hx : Passes CX X E)
    (I : Inv X pins σ H s) (r : Vals vs us) (h : sp (vs ++ dvs) H Q E) : wpAny (model X.prog X.w) X.A (call (.ref f) us) (EP X pins σ Q) X.xe s := by
  have r2 : Vals (vs ++ dvs) (us ++ ds) := r.append hd
  have hl : (us ++ ds).length = ps.length := by rw [← r2.length]; exact F.len _ _ _ _ h
  refine wpAny_call (codeAny_mono (F.run X.A X.stack s H ⟨us, []⟩ (us ++ ds) (vs ++ dvs) Q E hr I.env0 (hb s us I.kIn hl) r2 h) fun r s' hq => ?_)
  cases r with
  | error e => exact hx pins σ H s e s' I hq
  | ok fl =>
    cases fl with
    | ret u => exact I.after hq
    | next => exact False.elim hq
    | brk => exact False.elim hq
    | cont => exact False.elim hq
private theorem pe_call (F : FnOk X.prog X.w X.K X.mg X.base CX k f fd ps sp) (hr : Room k X.A) (hg : Gl X x) (hm : X.mg x = some (.ref f)) (hk : PySem.W.keepIn X.K (.ref f) = true) (hb : Binds X.K fd ps ds) (hd : Vals dvs ds) (hx : Passes CX X E)
    (ha : PA X (e :: es) t) (hdb : (x == ("__debug__" : Str)) = false := by decide) (he : starEach (e :: es) X.env = (false, eval e X.env) :: starEach es X.env := by rfl) (hpl : (backTo pos (starEach es X.env)).any (·.1) = false := by rfl) :
    PE X (.Call (.Name x p) (e :: es) [] pos) (tCall sp dvs E t) := by
  intro pins s σ H Q I h
  refine wpAny_Call_Name_kw (ld_glob I hg hm ?_ hdb)
  refine PySem.W.callWith_K (h₀ := X.base) I.ok.mod.kin hk (thn (ha pos pins s σ H _ I h) fun us s1 zz72 => e23 zz72 fun vs H1 I1 r q => ⟨I1.kIn, ?_⟩) he hpl
  exact run_fn F hr hb hd hx I1 r q
end
section
variable {X : Cx} {CX : CXT} {k : Nat} {f C : Addr} {fd : FuncData} {ps ks : List Str} {sp : Sp} {E : XK} {x m : Str} {p pos apos kpos : Pos} {e o : Expr} {es : List Expr} {kws : List Keyword} {te ta : TE} {t tk : TA} {nm : Option Str}
variable {g : List Value → List Value → List Value} {gV : List V → List V → List V}
end
structure FnScope (N P : List Str) (sc : Scope) : Prop where
  kind : sc.kind = .function
  co : sc.isCoroutine = false
  gen : sc.isGenerator = false
  nd : N.Nodup
  pre : N.take P.length = P
  par : ∀ x ∈ P, sc.names.lookup x = some .local ∨ sc.names.lookup x = some .cell
  nofree : ∀ y ∈ sc.names, y.2 ≠ .free
private theorem bindL_out {kindOf : Str → Option NameKind} {x : Str} : ∀ {binds : List (Str × Value)} {m : Str → Option Value}, (∀ v, (x, v) ∉ binds) → bindL kindOf binds m x = m x
  | [], _, _ => rfl
  | (n, v) :: r, m, h => by
    unfold bindL
    rw [bindL_out fun w hw => h w (List.mem_cons_of_mem _ hw)]
    split
    · have : x ≠ n := by rintro rfl; exact h v List.mem_cons_self
      simp [this]
    · rfl
private theorem bindC_out {kindOf : Str → Option NameKind} {x : Str} : ∀ {binds : List (Str × Value)} {m : Str → Option Value}, (∀ v, (x, v) ∉ binds) → bindC kindOf binds m x = m x
  | [], _, _ => rfl
  | (n, v) :: r, m, h => by
    unfold bindC
    rw [bindC_out fun w hw => h w (List.mem_cons_of_mem _ hw)]
    split
    · rfl
    · have : x ≠ n := by rintro rfl; exact h v List.mem_cons_self
      simp [this]
private theorem bindL_get {kindOf : Str → Option NameKind} {x : Str} {v : Value} : ∀ {P : List Str} {vs : List Value} {i : Nat} {m : Str → Option Value}, P.Nodup → P[i]? = some x → vs[i]? = some v → kindOf x = some .local →
    bindL kindOf (P.zip vs) m x = some v
  | [], _, _, _, _, h, _, _ => by simp at h
  | _ :: _, [], _, _, _, _, h, _ => by simp at h
  | p :: P, w :: vs, 0, m, nd, h1, h2, hk => by
    simp at h1 h2; subst h1; subst h2
    show bindL kindOf ((p, w) :: P.zip vs) m p = _
    unfold bindL
    rw [bindL_out fun v hv => (List.nodup_cons.mp nd).1 (List.of_mem_zip hv).1, if_pos hk]
    simp
  | p :: P, w :: vs, i + 1, m, nd, h1, h2, hk => by
    show bindL kindOf ((p, w) :: P.zip vs) m x = _
    unfold bindL
    exact bindL_get (i := i) (List.nodup_cons.mp nd).2 (by simpa using h1) (by simpa using h2) hk
private theorem bindC_get {kindOf : Str → Option NameKind} {x : Str} {v : Value} : ∀ {P : List Str} {vs : List Value} {i : Nat} {m : Str → Option Value}, P.Nodup → P[i]? = some x → vs[i]? = some v → kindOf x ≠ some .local →
    bindC kindOf (P.zip vs) m x = some v
  | [], _, _, _, _, h, _, _ => by simp at h
  | _ :: _, [], _, _, _, _, h, _ => by simp at h
  | p :: P, w :: vs, 0, m, nd, h1, h2, hk => by
    simp at h1 h2; subst h1; subst h2
    show bindC kindOf ((p, w) :: P.zip vs) m p = _
    unfold bindC
    rw [bindC_out fun v hv => (List.nodup_cons.mp nd).1 (List.of_mem_zip hv).1, if_neg hk]
    simp
  | p :: P, w :: vs, i + 1, m, nd, h1, h2, hk => by
    show bindC kindOf ((p, w) :: P.zip vs) m x = _
    unfold bindC
    exact bindC_get (i := i) (List.nodup_cons.mp nd).2 (by simpa using h1) (by simpa using h2) hk
noncomputable def start (N : List Str) (vs : List V) : St := vs.map some ++ List.replicate (N.length - vs.length) none
noncomputable def cxOf (CX : CXT) (P : Program) (w : World) (K : PySem.W.Frag) (mg : Str → Option Value) (base : Heap) (N : List Str) (qual : Str) (scope : Scope) (f : Addr) (cd : Value) (A : Around) (outer : List Env) (s : Shared) (H : Hp) (E : XK) : Cx where
  prog := P
  w := w
  K := K
  mg := mg
  base := base
  A := A.deeper (envOfC qual scope s.heap.objs.size f cd)
  N := N
  s₀ := s
  H₀ := H
  env := envOfC qual scope s.heap.objs.size f cd
  outer := outer
  stack := envOfC qual scope s.heap.objs.size f cd :: outer
  ex := []
  calm := true
  fn := fun _ => true
  pn := []
  xe := fun e s' => wpAny (model P w) (A.deeper (envOfC qual scope s.heap.objs.size f cd)) (leaving (envOfC qual scope s.heap.objs.size f cd) e) (fun _ s'' => CX outer H s E e s'') (fun e' s'' => CX outer H s E e' s'') s'
private theorem cell_has {sc : Scope} {n : Nat} {x : Str} (h : sc.names.lookup x = some .cell) : ∃ c, (cellsFrom n sc.names []).lookup x = some c := by
  have q := PySem.W.cellsFrom_some sc.names n [] (.inl h)
  exact Option.isSome_iff_exists.mp q
private theorem inv_start {CX : CXT} {P : Program} {w : World} {K : PySem.W.Frag} {mg : Str → Option Value} {base : Heap} {N ps : List Str} {qual : Str} {scope : Scope} {f : Addr} {cd : Value} {A : Around} {outer : List Env} {s s1 : Shared} {H : Hp} {E : XK} {us : List Value} {vs : List V}
    (S : FnScope N ps scope) (hd : A.handled = none) (e0 : Env0 P w K mg base A outer s H) (hl : vs.length = ps.length) (r : Vals vs us)
    (x : InCallC s s.heap.objs.size (bindL (envOfC qual scope s.heap.objs.size f cd).kindOf (ps.zip us) fun _ => none) (cellsFrom (s.heap.objs.size + 1) scope.names []) (bindC (envOfC qual scope s.heap.objs.size f cd).kindOf (ps.zip us) fun _ => none) s1) :
    Inv (cxOf CX P w K mg base N qual scope f cd A outer s H E) [] (start N vs) H s1 := by
  have hpl : ps.length ≤ N.length := by have := congrArg List.length S.pre; rw [List.length_take] at this; omega
  obtain ⟨h1, tk, rfl, hk⟩ := x.done
  have noA : ∀ b : Addr, b ∉ (cxOf CX P w K mg base N qual scope f cd A outer s H E).ex := fun b z => absurd (show b ∈ ([] : List Addr) from z) (by simp)
  refine ⟨⟨e0.mod, S.kind, rfl, rfl, Nat.le_refl _, fun y z c h1 h2 => ?_, fun y hy => ?_, fun y c _ h => ?_, fun _ => hd, Around.frames_deeper e0.frames, .inr ⟨rfl, rfl⟩, fun b z => absurd z (noA b), e0.bs, e0.bsz, fun b _ _ => noA b, fun b z => absurd z (noA b), e0.funs, e0.frf⟩,
    rfl, e0.bare, Un.kept hk, ⟨_, x.toInCall.ns, fun i y v h1 h2 h3 => ?_⟩, fun y c h => ⟨_, x.cell y c h⟩, e0.hok.fresh (Nat.le_refl _), fun y c h => ?_, fun p hp => absurd (show p ∈ ([] : List (Addr × Obj)) from hp) (by simp), e0.hok.kept hk, ?_⟩
  · exact name_of_addr x.apart (PySem.mem_of_lookup h1) (PySem.mem_of_lookup h2)
  · have hy : scope.names.lookup y = some .cell ∨ scope.names.lookup y = some .free := hy
    rcases hy with hy | hy
    · exact cell_has hy
    · exact absurd rfl (S.nofree _ (PySem.mem_of_lookup hy))
  · exact Nat.le_of_lt (x.above y c (PySem.mem_of_lookup h))
  · have hi : i < vs.length := by
      unfold start at h2
      by_cases hi : i < vs.length
      · exact hi
      · rw [List.getElem?_append_right (by simpa using hi)] at h2
        rw [List.getElem?_replicate] at h2
        split at h2 <;> cases h2
    have ha : vs[i]? = some v := by
      unfold start at h2
      rw [List.getElem?_append_left (by simpa using hi), List.getElem?_map] at h2
      cases e : vs[i]? with
      | none => rw [e] at h2; cases h2
      | some a => rw [e] at h2; cases h2; rfl
    obtain ⟨u, hu, rv⟩ := r.get ha
    have hp : ps[i]? = some y := by
      rw [← S.pre, List.getElem?_take_of_lt (by omega)]; exact h1
    have ndP : ps.Nodup := by rw [← S.pre]; exact S.nd.sublist (List.take_sublist _ _)
    refine ⟨u, rv, ?_⟩
    rcases S.par y (List.mem_of_getElem? hp) with k | k
    · exact .inl ⟨k, bindL_get ndP hp hu k⟩
    · obtain ⟨c, e⟩ := cell_has (n := s.heap.objs.size + 1) k
      refine .inr ⟨.inl k, c, e, ?_⟩
      have q := x.cell y c e
      rw [bindC_get ndP hp hu (by show scope.names.lookup y ≠ _; rw [k]; decide)] at q
      exact q
  · exact e0.hok.fresh (Nat.le_of_lt (x.above y c (PySem.mem_of_lookup h)))
  · unfold start
    show _ = N.length
    rw [List.length_append, List.length_map, List.length_replicate]
    omega
private theorem fn_of {CX : CXT} {P : Program} {w : World} {K : PySem.W.Frag} {mg : Str → Option Value} {base : Heap} {k : Nat} {f : Addr} {name qual : Str} {params : Arguments} {body : List Stmt} {scope : Scope} {dV kV doc pm cdv ct oc : Value} {an od : Option Addr}
    {osl : Array (Option Value)} {N ps : List Str} {sp : Sp} (lk : K.lookup f = some ⟨oc, od, .func (PySem.W.fnOf name qual params body scope dV kV doc pm an cdv ct), osl⟩) (hcd : PySem.W.codeIn K cdv qual = true) (S : FnScope N ps scope)
    (len : ∀ vs H Q E, sp vs H Q E → vs.length = ps.length)
    (hbody : ∀ (A : Around) (outer : List Env) (s : Shared) (H : Hp) (vs : List V) (Q : VK) (E : XK), Room k (A.deeper (envOfC qual scope s.heap.objs.size f cdv)) → sp vs H Q E →
      ∃ t, PSs (cxOf CX P w K mg base N qual scope f cdv A outer s H E) body t ∧ t { nx := fun _ H' => Q .non H', rt := Q } (start N vs) H) :
    FnOk P w K mg base CX (k + 1) f (PySem.W.fnOf name qual params body scope dV kV doc pm an cdv ct) ps sp := by
  refine ⟨len, fun A outer s H args us vs Q E hr e0 hb r hsp => ?_⟩
  have hl := len _ _ _ _ hsp
  have KX : K.In s.heap := e0.mod.kin.keeps fun b o e => (e0.bs b o e).1
  have lim : s.heap.NoLimit := e0.mod.nolimit.keeps fun b o e => (e0.bs b o e).1
  have hkind : ∀ y ∈ ps.zip us, scope.names.lookup y.1 = some .local ∨ (scope.names.lookup y.1 = some .cell ∧ ((cellsFrom (s.heap.objs.size + 1) scope.names []).lookup y.1).isSome = true) := fun ⟨n, v⟩ hy => by
    rcases S.par n (List.of_mem_zip hy).1 with q | q
    · exact .inl q
    · exact .inr ⟨q, PySem.W.cellsFrom_some _ _ _ (.inl q)⟩
  refine codeAny_call_function hr.depth (KX _ _ lk) rfl S.co S.gen rfl (PySem.W.codeRec_of KX hcd) (hb _ _ _ _ ?_)
  refine wpAny_newFunctionEnv_cells S.kind hkind fun env he s1 x => ?_
  subst he
  refine ⟨lim.keeps x.toInCall.keep, codeAny_func ?_⟩
  obtain ⟨t, ht, hq⟩ := hbody A outer s H vs Q E (hr.deeper _) hsp
  have I : Inv (cxOf CX P w K mg base N qual scope f cdv A outer s H E) [] (start N vs) H s1 := inv_start S hr.hd e0 hl r x
  refine wpAny_mono (ht [] s1 (start N vs) H _ I hq) (fun fl s' hs => ?_) fun e s' hs => hs
  have fin : ∀ {σ' : St} {H' : Hp} {v : V} {u : Value}, Inv (cxOf CX P w K mg base N qual scope f cdv A outer s H E) [] σ' H' s' → RelV v u → Q v H' → CE outer P w H s Q u s' :=
    fun {σ' H' v u} J rv q => ⟨v, H', J.os, J.bare, J.base, J.hok, rv, q⟩
  cases fl with
  | ret u =>
    obtain ⟨v, σ', H', J, rv, q⟩ := hs
    exact fin J rv q
  | next =>
    obtain ⟨σ', H', J, q⟩ := hs
    exact fin (v := V.non) (u := Value.none) J rfl q
  | brk =>
    obtain ⟨_, _, _, q⟩ := hs
    exact False.elim q
  | cont =>
    obtain ⟨_, _, _, q⟩ := hs
    exact False.elim q
end L2
namespace L2
open PySem PySem.Spec PyProof.Rows
section
variable {X : Cx} {x : Str} {p pos : Pos} {e : Expr} {es : List Expr} {t : TA} {id T : String} {r : List V → Hp → VK → Prop}
noncomputable def tCB (r : List V → Hp → VK → Prop) (t : TA) : TE := fun σ H Q => t σ H fun vs H1 => r vs H1 Q
private theorem pe_callB (hc : CallR X (.builtin id) r) (hg : Gl X x) (hm : X.mg x = none) (hv : bootBuiltins x = some (.builtin id)) (ha : PA X (e :: es) t) (hn : x ≠ "__name__" := by decide) (hdb : (x == ("__debug__" : Str)) = false := by decide)
    (he : starEach (e :: es) X.env = (false, eval e X.env) :: starEach es X.env := by rfl) (hpl : (backTo pos (starEach es X.env)).any (·.1) = false := by rfl) : PE X (.Call (.Name x p) (e :: es) [] pos) (tCB r t) := by
  intro pins s σ H Q I h
  refine wpAny_Call_Name_kw (ld_blt I hg hm hv ?_ hn hdb)
  exact PyProof.Rows.callWith_builtin1 (thn (ha pos pins s σ H _ I h) fun us s1 zz81 => e23 zz81 fun vs H1 I1 r1 q1 => hc pins s1 σ H1 vs us Q I1 r1 q1) he hpl
private theorem pe_callTy (hc : CallR X (.type T) r) (hg : Gl X x) (hm : X.mg x = none) (hv : bootBuiltins x = some (.type T)) (ha : PA X (e :: es) t) (hn : x ≠ "__name__" := by decide) (hdb : (x == ("__debug__" : Str)) = false := by decide)
    (he : starEach (e :: es) X.env = (false, eval e X.env) :: starEach es X.env := by rfl) (hpl : (backTo pos (starEach es X.env)).any (·.1) = false := by rfl) : PE X (.Call (.Name x p) (e :: es) [] pos) (tCB r t) := by
  intro pins s σ H Q I h
  refine wpAny_Call_Name_kw (ld_blt I hg hm hv ?_ hn hdb)
  exact PyProof.Rows.callWith_type1 (thn (ha pos pins s σ H _ I h) fun us s1 zz82 => e23 zz82 fun vs H1 I1 r1 q1 => hc pins s1 σ H1 vs us Q I1 r1 q1) he hpl
end
end L2
namespace HT
open PySem PyProof.Rows
section
open PySem.SeqAt
open PySem.AutoSeq1 (wpAny_loadPart')
open PySem.MeetsSeq PySem.MeetsSeq2 PySem.MeetsSeq3
end
section
variable {prog : Program} {w : World} {A : Around} {E : Value → Shared → Prop} {s : Shared}
noncomputable def sIx (n d : Nat) : Option Int → Nat
  | none => d
  | some v => if v < 0 then (v + (n : Int)).toNat else min v.toNat n
end
end HT
namespace L2
open PySem PySem.Spec PyProof.Rows
noncomputable abbrev TO := St → Hp → (Option Int → Hp → Prop) → Prop
noncomputable def PO (X : Cx) (e : Option Expr) (t : TO) : Prop :=
  ∀ (pins : List (Addr × Obj)) (s : Shared) (σ : St) (H : Hp) (Q : Option Int → Hp → Prop), Inv X pins σ H s → t σ H Q →
    wpAny (model X.prog X.w) X.A (evalPart e X.env) (fun u s' => ∃ o H', Inv X pins σ H' s' ∧ IsPart u o ∧ Q o H') X.xe s
noncomputable def tNoPart : TO := fun _ H Q => Q none H
noncomputable def tPart (t : TE) : TO := fun σ H Q => t σ H fun x H1 => ∃ i, x = .int i ∧ Q (some i) H1
section
variable {X : Cx} {e : Expr} {te : TE} {lo hi : Option Expr} {tl th : TO} {pos p2 : Pos}
private theorem po_none : PO X none tNoPart := by
  intro pins s σ H Q I h
  rw [evalPart_none]
  exact wpAny_pure ⟨none, H, I, .none, h⟩
private theorem po_some (h : PE X e te) : PO X (some e) (tPart te) := by
  intro pins s σ H Q I hw
  rw [evalPart_some]
  refine thn (h pins s σ H _ I hw) fun u s1 zz83 => e23 zz83 fun x H1 I1 r1 q1 => ?_
  obtain ⟨i, rfl, q⟩ := q1
  obtain ⟨t, rfl⟩ := r1
  exact ⟨some i, H1, I1, .int i t, q⟩
noncomputable def SlR (X : Cx) (r : V → Option Int → Option Int → Hp → VK → Prop) : Prop :=
  ∀ (pins : List (Addr × Obj)) (s : Shared) (σ : St) (H : Hp) (x : V) (v vl vu : Value) (lo hi : Option Int) (sl : Addr) (Q : VK), Inv X pins σ H s → RelV x v → s.heap.IsSliceOf sl vl vu .none → IsPart vl lo → IsPart vu hi → r x lo hi H Q →
    ∃ T id, typeLookup (.type T) "__getitem__" = pure (some (.builtin id)) ∧ s.TypeIs v T ∧ wpAny (model X.prog X.w) X.A (getItem v (.ref sl)) (EP X pins σ Q) X.xe s
noncomputable def tSl (r : V → Option Int → Option Int → Hp → VK → Prop) (te : TE) (tl th : TO) : TE := fun σ H Q => te σ H fun x H1 => tl σ H1 fun l H2 => th σ H2 fun u H3 => r x l u H3 Q
private theorem pe_slice {r : V → Option Int → Option Int → Hp → VK → Prop} (hr : SlR X r) (he : PE X e te) (hl : PO X lo tl) (hu : PO X hi th) : PE X (.Subscript e (.Slice lo hi none p2) pos) (tSl r te tl th) := by
  intro pins s σ H Q I h
  refine Subscript_ (thn (he pins s σ H _ I h) fun v s1 zz84 => e23 zz84 fun x H1 I1 r1 q1 => ?_)
  refine wpAny_Slice (thn (hl pins s1 σ H1 _ I1 q1) fun vl s2 zz85 => e23 zz85 fun l H2 I2 pl q2 => thn (hu pins s2 σ H2 _ I2 q2) fun vu s3 zz86 => e23 zz86 fun u H3 I3 pu q3 => ?_)
  rw [evalPart_none]
  refine wpAny_pure ?_
  have I4 : Inv X pins σ H3 { s3 with heap := s3.heap.push { cls := .type "slice", data := .fields #[vl, vu, .none] } } := I3.kept (t' := s3.toks) fun b ob q => Heap.get?_push_of_some _ q
  obtain ⟨T, id, hT, ht, hg⟩ := hr pins { s3 with heap := s3.heap.push { cls := .type "slice", data := .fields #[vl, vu, .none] } } σ H3 x v vl vu l u s3.heap.objs.size Q I4 r1 (Heap.IsSliceOf.new ..) pl pu q3
  show wpAny (model X.prog X.w) X.A (subscriptTail e (.Slice lo hi none p2) v (.ref s3.heap.objs.size)) (EP X pins σ Q) X.xe { s3 with heap := s3.heap.push { cls := .type "slice", data := .fields #[vl, vu, .none] } }
  exact tail_any (ops := [.ref s3.heap.objs.size, v]) ht hT hg (by with_unfolding_all rfl)
noncomputable def cutV (xs : List V) (lo hi : Option Int) : List V := (xs.drop (HT.sIx xs.length 0 lo)).take (HT.sIx xs.length xs.length hi - HT.sIx xs.length 0 lo)
private theorem cutV_length (xs : List V) (lo hi : Option Int) : (cutV xs lo hi).length ≤ xs.length := by
  unfold cutV
  rw [List.length_take, List.length_drop]
  omega
end
end L2
namespace L2
open PySem PySem.Spec PyProof.Rows
noncomputable def ixN (n : Nat) (i : Int) : Option Nat := if 0 ≤ i then (if i < n then some i.toNat else none) else if -(n : Int) ≤ i then some (i + n).toNat else none
noncomputable def atI {α : Type} (xs : List α) (i : Int) : Option α := (ixN xs.length i).bind fun j => xs[j]?
private theorem ixN_seq {n : Nat} {i : Int} {j : Nat} (h : ixN n i = some j) : seqIndex? i n = some j ∧ j < n ∧ -(n : Int) ≤ i ∧ i < n := by
  unfold ixN at h
  by_cases h0 : 0 ≤ i
  · rw [if_pos h0] at h
    by_cases h1 : i < n
    · rw [if_pos h1] at h
      have e : i.toNat = j := Option.some.inj h
      exact ⟨by rw [seqIndex_of h0 h1, e], by omega, by omega, h1⟩
    · rw [if_neg h1] at h; cases h
  · rw [if_neg h0] at h
    by_cases h1 : -(n : Int) ≤ i
    · rw [if_pos h1] at h
      have e : (i + n).toNat = j := Option.some.inj h
      exact ⟨by rw [seqIndex_neg (by omega) h1, e], by omega, h1, by omega⟩
    · rw [if_neg h1] at h; cases h
private theorem atI_get {α : Type} {xs : List α} {i : Int} {v : α} (h : atI xs i = some v) : ∃ j, seqIndex? i xs.length = some j ∧ xs[j]? = some v ∧ j < xs.length ∧ -(xs.length : Int) ≤ i ∧ i < xs.length := by
  unfold atI at h
  cases e : ixN xs.length i with
  | none => rw [e] at h; cases h
  | some j =>
    rw [e] at h
    obtain ⟨h1, h2, h3, h4⟩ := ixN_seq e
    exact ⟨j, h1, h, h2, h3, h4⟩
noncomputable def PlainIx (b : Expr) : Prop := ∀ o i, subscripted b false o i = operate [o, i] (getItem o i)
noncomputable def IxR (X : Cx) (r : R2) : Prop :=
  ∀ (value slice : Expr) (pins : List (Addr × Obj)) (s : Shared) (σ : St) (H : Hp) (x y : V) (v u : Value) (Q : VK), Inv X pins σ H s → RelV x v → RelV y u → r x y H Q →
    subscripted slice false v u = operate [v, u] (getItem v u) → wpAny (model X.prog X.w) X.A (subscriptTail value slice v u) (EP X pins σ Q) X.xe s
noncomputable def MtR (X : Cx) (id : String) (r : V → List V → Hp → VK → Prop) : Prop :=
  ∀ (pins : List (Addr × Obj)) (s : Shared) (σ : St) (H : Hp) (x : V) (xs : List V) (v : Value) (us : List Value) (Q : VK), Inv X pins σ H s → RelV x v → Vals xs us → r x xs H Q →
    wpAny (model X.prog X.w) X.A (call (.builtin id) (v :: us)) (EP X pins σ Q) X.xe s
section
variable {X : Cx} {a b : Expr} {ta tb : TE} {pos : Pos}
private theorem IxR.or {r r' : R2} (h : IxR X r) (h' : IxR X r') : IxR X (fun x y H Q => r x y H Q ∨ r' x y H Q) := by
  intro value slice pins s σ H x y v u Q I rx ry q hs
  rcases q with q | q
  · exact h value slice pins s σ H x y v u Q I rx ry q hs
  · exact h' value slice pins s σ H x y v u Q I rx ry q hs
private theorem pe_ix {r : R2} (hr : IxR X r) (ha : PE X a ta) (hb : PE X b tb) (hs : PlainIx b) : PE X (.Subscript a b pos) (tOp r ta tb) := by
  intro pins s σ H Q I h
  exact Subscript_ (binT ha hb I h fun v u s2 x y H2 I2 rx ry q => hr a b pins s2 σ H2 x y v u Q I2 rx ry q (hs _ _))
noncomputable def rIxL (K : PySem.W.Frag) : R2 := fun x y H Q => ∃ p xs i v, x = .ref p ∧ y = .int i ∧ SqL K H p xs ∧ atI xs i = some v ∧ Q v H
noncomputable def rIxT (K : PySem.W.Frag) : R2 := fun x y H Q => ∃ p xs i v, x = .ref p ∧ y = .int i ∧ SqT K H p xs ∧ atI xs i = some v ∧ Q v H
noncomputable def rIxS : R2 := fun x y H Q => ∃ z i c, x = .str z ∧ y = .int i ∧ z.length ≤ sizeLine ∧ atI z.cps.toList i = some c ∧ Q (.str ⟨#[c]⟩) H
private theorem ix_list : IxR X (rIxL X.K) := by
  intro value slice pins s σ H x y v u Q I rx ry h hs
  obtain ⟨p, xs, i, z, rfl, rfl, hq, he, q⟩ := h
  cases rx
  obtain ⟨t, rfl⟩ := ry
  obtain ⟨its, r, pl, hz⟩ := I.list hq
  obtain ⟨j, h1, h2, h3, h4, h5⟩ := atI_get he
  obtain ⟨w, ew, rw'⟩ := r.get h2
  have hl := r.length
  have hn := line63
  have fin : EP X pins σ Q w s := ⟨z, H, I, rw', q⟩
  by_cases h0 : 0 ≤ i
  · have hj : i.toNat = j := by
      rw [seqIndex_of h0 h5] at h1
      exact Option.some.inj h1
    exact item_listR pl.isList h0 (by omega) (by rw [hj]; simpa using ew) fin hs
  · have hj : (i + (its.toArray.size : Int)).toNat = j := by
      rw [seqIndex_neg (by omega) h4] at h1
      rw [List.size_toArray, ← hl]
      exact Option.some.inj h1
    exact subscriptTail_builtinR (x := w) pl.isList.typeIs slot_list_getitem.lookup
      (wpAny_getItem_list_neg (Q := fun r s' => r = w ∧ EP X pins σ Q r s') pl.isList (by omega) (by rw [List.size_toArray] <;> omega) (by omega) (by rw [hj]; simpa using ew) ⟨rfl, fin⟩) hs
private theorem ix_tup : IxR X (rIxT X.K) := by
  intro value slice pins s σ H x y v u Q I rx ry h hs
  obtain ⟨p, xs, i, z, rfl, rfl, hq, he, q⟩ := h
  cases rx
  obtain ⟨t, rfl⟩ := ry
  obtain ⟨its, r, pl, hz⟩ := I.tuple hq
  obtain ⟨j, h1, h2, h3, h4, h5⟩ := atI_get he
  obtain ⟨w, ew, rw'⟩ := r.get h2
  have hl := r.length
  have hn := line63
  have fin : EP X pins σ Q w s := ⟨z, H, I, rw', q⟩
  exact subscriptTail_builtinR (x := w) pl.typeIs slot_tuple_getitem.lookup
    (getItem_tuple (j := j) (Q := fun r s' => r = w ∧ EP X pins σ Q r s') pl (by omega) (by omega) (by rw [List.size_toArray, ← hl]; exact h1) (by simpa using ew) ⟨rfl, fin⟩) hs
private theorem ix_str : IxR X rIxS := by
  intro value slice pins s σ H x y v u Q I rx ry h hs
  obtain ⟨z, i, c, rfl, rfl, hz, he, q⟩ := h
  obtain ⟨t, rfl⟩ := rx
  obtain ⟨t', rfl⟩ := ry
  obtain ⟨j, h1, h2, h3, h4, h5⟩ := atI_get he
  have hl : z.cps.toList.length = z.length := by simp [Str.length]
  rw [hl] at h1 h4 h5
  have hn := line63
  exact tail_any (typeIs_str s z t) slot_str_getitem.lookup (getItem_str (c := c) (by
    have e1 : decide (i < -(2 ^ 63 : Int)) = false := decide_eq_false (by omega)
    have e2 : decide (i ≥ 2 ^ 63) = false := decide_eq_false (by omega)
    rw [e1, e2, Bool.or_false]) (by rw [h1]; simpa using h2) ⟨.str ⟨#[c]⟩, H, I.tok _, ⟨_, rfl⟩, q⟩) hs
noncomputable def rIx (K : PySem.W.Frag) : R2 := fun x y H Q => rIxL K x y H Q ∨ rIxT K x y H Q ∨ rIxS x y H Q
private theorem ix_seq : IxR X (rIx X.K) := ix_list.or (ix_tup.or ix_str)
private theorem mapSeq_set (its : List Value) (n j : Nat) (u : Value) : Obj.mapSeq (·.setIfInBounds j u) { cls := .type "list", data := .seq its.toArray n } = { cls := .type "list", data := .seq (its.set j u).toArray n } := by
  simp [Obj.mapSeq]
private theorem Inv.lst {pins : List (Addr × Obj)} {σ : St} {H : Hp} {s : Shared} {p : Addr} {xs : List V} (I : Inv X pins σ H s) (h : H p = some (.lst xs)) :
    ∃ (its : List Value) (n : Nat), Vals xs its ∧ s.heap.get? p = some { cls := .type "list", data := .seq its.toArray n } ∧ xs.length ≤ sizeLine := by
  obtain ⟨z, its, n, r, e⟩ := I.hok p _ h
  exact ⟨its, n, r, e, z⟩
private theorem Inv.lstUpd {pins : List (Addr × Obj)} {σ : St} {H : Hp} {s : Shared} {p : Addr} {xs ys : List V} {its its' : List Value} {n n' : Nat} {f : Obj → Obj} (I : Inv X pins σ H s) (h : H p = some (.lst xs))
    (ho : s.heap.get? p = some { cls := .type "list", data := .seq its.toArray n }) (hf : f { cls := .type "list", data := .seq its.toArray n } = { cls := .type "list", data := .seq its'.toArray n' }) (r : Vals ys its') (hz : ys.length ≤ sizeLine) (t : Nat) :
    Inv X pins σ (upd H p (.lst ys)) { s with heap := s.heap.update p f, toks := t } := by
  have e : (s.heap.update p f).get? p = some { cls := .type "list", data := .seq its'.toArray n' } := by
    rw [Heap.get?_update_self f ho (by rw [hf] <;> rfl), hf]
  refine I.write (x := p) (e := p) (by rw [h]; trivial) (.inl rfl) (fun b u hb q => (Heap.get?_update_other _ _ (Ne.symm hb)).trans q) ⟨_, e⟩ ?_
  exact ⟨hz, its', n', r, e⟩
noncomputable def rSetL : V → V → V → Hp → (Hp → Prop) → Prop := fun o i v H Q => ∃ p xs k j, o = .ref p ∧ i = .int k ∧ H p = some (.lst xs) ∧ ixN xs.length k = some j ∧ Q (upd H p (.lst (xs.set j v)))
private theorem set_list : PSet X rSetL := by
  intro pins s σ H o i v ov iv u Q I ro ri rv h
  obtain ⟨p, xs, k, j, rfl, rfl, hp, hj, q⟩ := h
  cases ro
  obtain ⟨t, rfl⟩ := ri
  obtain ⟨its, n, r, ho, hz⟩ := I.lst hp
  obtain ⟨h1, h2, h3, h4⟩ := ixN_seq hj
  have hl := r.length
  have hn := line63
  have I' : Inv X pins σ (upd H p (.lst (xs.set j v))) { s with heap := s.heap.update p (Obj.mapSeq (·.setIfInBounds j u)) } :=
    I.lstUpd hp ho (mapSeq_set its n j u) (r.set rv j) (by rw [List.length_set]; exact hz) s.toks
  by_cases h0 : 0 ≤ k
  · have hk : k.toNat = j := by
      rw [seqIndex_of h0 h4] at h1
      exact Option.some.inj h1
    exact PySem.W.ki_setAt ho h0 (by omega) (by rw [List.size_toArray, ← hl]; exact h4) (by rw [hk]; exact ⟨_, I', q⟩)
  · have hk : (k + (its.toArray.size : Int)).toNat = j := by
      rw [seqIndex_neg (by omega) h3] at h1
      rw [List.size_toArray, ← hl]
      exact Option.some.inj h1
    exact PySem.W.ki_setBack ho (by omega) (by rw [List.size_toArray, ← hl]; exact h3) (by omega) (by rw [hk]; exact ⟨_, I', q⟩)
private theorem slice_bounds (lo hi : Option Int) (n : Nat) : (sliceBounds lo hi none n).1 = ((HT.sIx n 0 lo : Nat) : Int) ∧ (sliceBounds lo hi none n).2.1 = ((HT.sIx n n hi : Nat) : Int) ∧ (sliceBounds lo hi none n).2.2 = 1 := by
  refine ⟨?_, ?_, rfl⟩
  · cases lo with
    | none => simp [sliceBounds, HT.sIx]
    | some i =>
      simp only [sliceBounds, HT.sIx, Option.getD_none, show (1 : Int) > 0 by decide, if_true]
      by_cases h : i < 0
      · simp only [h, if_true] <;> omega
      · simp only [h, if_false] <;> omega
  · cases hi with
    | none => simp [sliceBounds, HT.sIx]
    | some i =>
      simp only [sliceBounds, HT.sIx, Option.getD_none, show (1 : Int) > 0 by decide, if_true]
      by_cases h : i < 0
      · simp only [h, if_true] <;> omega
      · simp only [h, if_false] <;> omega
private theorem slicePick_cut (its : List Value) (lo hi : Option Int) : slicePick its.toArray lo hi none = ((its.drop (HT.sIx its.length 0 lo)).take (HT.sIx its.length its.length hi - HT.sIx its.length 0 lo)).toArray := by
  obtain ⟨h1, h2, h3⟩ := slice_bounds lo hi its.toArray.size
  unfold slicePick
  rw [h1, h2, h3]
  simp only [sliceRange_one, pick_run, List.size_toArray] <;> rfl
noncomputable def rSlL (K : PySem.W.Frag) : V → Option Int → Option Int → Hp → VK → Prop := fun x lo hi H Q => ∃ a xs, x = .ref a ∧ SqL K H a xs ∧ ∀ p, H p = none → Q (.ref p) (upd H p (.lst (cutV xs lo hi)))
private theorem sl_list : SlR X (rSlL X.K) := by
  intro pins s σ H x v vl vu lo hi sl Q I rx hs pl pu h
  obtain ⟨a, xs, rfl, hx, q⟩ := h
  cases rx
  obtain ⟨its, r, ht, hz⟩ := I.list hx
  have hlen := r.length
  refine ⟨"list", _, slot_list_getitem.lookup, ht.isList.typeIs, ?_⟩
  refine wpAny_getItem_list_slice ht.isList hs pl pu .none (by simp) ?_ (by rw [List.size_toArray] <;> omega)
  rw [slicePick_cut, ← hlen]
  refine ⟨.ref s.heap.objs.size, _, I.laid (t' := s.toks) (o := .lst (cutV xs lo hi)) (fun b ob q => Heap.get?_push_of_some _ q) (Nat.le_refl _) ?_, rfl, q _ (I.hok.fresh (Nat.le_refl _))⟩
  exact ⟨Nat.le_trans (cutV_length xs lo hi) hz, _, 0, (r.drop (HT.sIx xs.length 0 lo)).take (HT.sIx xs.length xs.length hi - HT.sIx xs.length 0 lo), Heap.get?_push_size _ rfl⟩
private theorem call_len_seq : CallR X (.builtin "len") (fun xs H Q => ∃ p ys, xs = [.ref p] ∧ (SqL X.K H p ys ∨ SqT X.K H p ys) ∧ Q (.int ys.length) H) := by
  intro pins s σ H xs us Q I r h
  obtain ⟨p, ys, rfl, hq, q⟩ := h
  obtain ⟨u, rfl, rx⟩ := vals1 r
  cases rx
  have hn := line63
  rcases hq with hq | hq
  · obtain ⟨its, r', pl, hz⟩ := I.list hq
    have hlen := r'.length
    exact Calls.call_len_list pl.isList (by simp only [List.size_toArray] <;> omega) ⟨.int ys.length, H, I.tok _, ⟨s.toks + 1, by rw [List.size_toArray, hlen]⟩, q⟩
  · obtain ⟨its, r', pl, hz⟩ := I.tuple hq
    have hlen := r'.length
    exact len_tuple pl (by simp only [List.size_toArray] <;> omega) ⟨.int ys.length, H, I.tok _, ⟨s.toks + 1, by rw [List.size_toArray, hlen]⟩, q⟩
private theorem call_list_of : CallR X (.type "list") (fun xs H Q => ∃ p ys, xs = [.ref p] ∧ (SqL X.K H p ys ∨ SqT X.K H p ys) ∧ ∀ l, H l = none → Q (.ref l) (upd H l (.lst ys))) := by
  intro pins s σ H xs us Q I r h
  obtain ⟨p, ys, rfl, hq, q⟩ := h
  obtain ⟨u, rfl, rx⟩ := vals1 r
  cases rx
  have fin : ∀ (its : List Value), Vals ys its → ys.length ≤ sizeLine → ∀ (h' : Heap) (c' : Nat), (∀ b o', s.heap.get? b = some o' → h'.get? b = some o') →
      h'.get? s.heap.objs.size = some { cls := .type "list", dict := none, data := .seq its.toArray c', slots := #[] } → EP X pins σ Q (.ref s.heap.objs.size) { s with heap := h' } := fun its r' hz h' c' kp e =>
    ⟨.ref s.heap.objs.size, _, I.laid (t' := s.toks) kp (Nat.le_refl _) (show ObjOk X.prog X.w _ h' _ (.lst ys) from ⟨hz, its, c', r', e⟩), rfl, q _ (I.hok.fresh (Nat.le_refl _))⟩
  rcases hq with hq | hq
  · obtain ⟨its, r', pl, hz⟩ := I.list hq
    have hlen := r'.length
    obtain ⟨o, ho, hc, n, hd⟩ := pl.isList
    exact call_list_seq p (.inl rfl) ho hc hd (fun h' c' kp e => fin its r' hz h' c' kp e) (by simp only [List.size_toArray] <;> omega)
  · obtain ⟨its, r', pl, hz⟩ := I.tuple hq
    have hlen := r'.length
    obtain ⟨o, ho, hc, n, hd⟩ := pl
    exact call_list_seq p (.inr rfl) ho hc hd (fun h' c' kp e => fin its r' hz h' c' kp e) (by simp only [List.size_toArray] <;> omega)
private theorem call_tuple_of : CallR X (.type "tuple") (fun xs H Q => ∃ p ys, xs = [.ref p] ∧ ((SqL X.K H p ys ∧ ∀ l, H l = none → Q (.ref l) (upd H l (.tup ys))) ∨ (SqT X.K H p ys ∧ Q (.ref p) H))) := by
  intro pins s σ H xs us Q I r h
  obtain ⟨p, ys, rfl, h⟩ := h
  obtain ⟨u, rfl, rx⟩ := vals1 r
  cases rx
  rcases h with ⟨hq, q⟩ | ⟨hq, q⟩
  · obtain ⟨its, r', pl, hz⟩ := I.list hq
    have hlen := r'.length
    refine call_tuple_list pl.isList (fun h' kp => ?_) (by simp only [List.size_toArray] <;> omega)
    have I1 : Inv X pins σ H { s with heap := h' } := I.kept (t' := s.toks) kp
    have I2 : Inv X pins σ (upd H h'.objs.size (.tup ys)) { s with heap := h'.push { cls := .type "tuple", data := .seq its.toArray } } :=
      I1.laid (t' := s.toks) (fun b o e => Heap.get?_push_of_some _ e) (Nat.le_refl _) (show ObjOk X.prog X.w _ _ _ (.tup ys) from ⟨hz, its, r', IsTup.new _ _⟩)
    exact ⟨.ref h'.objs.size, _, I2, rfl, q _ (I1.hok.fresh (Nat.le_refl _))⟩
  · obtain ⟨its, r', pl, hz⟩ := I.tuple hq
    exact call_tuple_same pl ⟨.ref p, H, I, rfl, q⟩
noncomputable def tyV (K : PySem.W.Frag) (T : String) (x : V) (H : Hp) : Prop := match x with
  | .str _ => T = "str"
  | .int _ => T = "int"
  | .ref p => (T = "list" ∧ ∃ xs, SqL K H p xs) ∨ (T = "tuple" ∧ ∃ o, K.lookup p = some o ∧ o.cls = .type "tuple" ∧ o.dict = none) ∨
      (T = "dict" ∧ ((∃ kvs, H p = some (.dK kvs)) ∨ ∃ kvs, H p = some (.dT kvs))) ∨ (T = "set" ∧ ∃ S n, H p = some (.set S n))
  | _ => False
private theorem tyV_is {pins : List (Addr × Obj)} {σ : St} {H : Hp} {s : Shared} {T : String} {x : V} {v : Value} (I : Inv X pins σ H s) (r : RelV x v) (ty : tyV X.K T x H) :
    s.TypeIs v T ∧ ∀ a, v = .ref a → ∃ ob, s.heap.get? a = some ob ∧ ob.dict = none := by
  cases x with
  | str z =>
    obtain ⟨t, rfl⟩ := r
    cases (show T = "str" from ty)
    exact ⟨typeIs_str s z t, fun _ e => nomatch e⟩
  | int i =>
    obtain ⟨t, rfl⟩ := r
    cases (show T = "int" from ty)
    exact ⟨typeIs_int s i t, fun _ e => nomatch e⟩
  | ref p =>
    cases r
    rcases ty with ⟨rfl, xs, hq⟩ | ⟨rfl, o, hk, hc, hd⟩ | ⟨rfl, hk⟩ | ⟨rfl, S, n, hk⟩
    · obtain ⟨its, _, pl, _⟩ := I.list hq
      refine ⟨pl.isList.typeIs, fun a e => ?_⟩
      cases e
      obtain ⟨o, n, e, c, hd, _⟩ := pl
      exact ⟨o, e, hd⟩
    · refine ⟨⟨o, I.kIn p o hk, hc⟩, fun a e => ?_⟩
      cases e
      exact ⟨o, I.kIn _ o hk, hd⟩
    · have z : ∃ o, s.heap.get? p = some o ∧ o.ExactDict := by
        rcases hk with ⟨kvs, hk⟩ | ⟨kvs, hk⟩
        · obtain ⟨_, _, _, _, o, _, _, e, ex, _⟩ := I.hok p _ hk
          exact ⟨o, e, ex⟩
        · obtain ⟨_, _, _, _, o, _, _, e, ex, _⟩ := I.hok p _ hk
          exact ⟨o, e, ex⟩
      obtain ⟨o, e, ex⟩ := z
      refine ⟨⟨o, e, ex.1⟩, fun a e2 => ?_⟩
      cases e2
      exact ⟨o, e, ex.2.1⟩
    · obtain ⟨o, _, _, _, e, ex, _⟩ := I.hok p _ hk
      refine ⟨⟨o, e, ex.1⟩, fun a e2 => ?_⟩
      cases e2
      exact ⟨o, e, ex.2.1⟩
  | _ => exact False.elim ty
noncomputable def tBM0 (K : PySem.W.Frag) (T : String) (r : V → List V → Hp → VK → Prop) (to : TE) : TE := fun σ H Q => to σ H fun x H1 => tyV K T x H1 ∧ r x [] H1 Q
noncomputable def tBM (K : PySem.W.Frag) (T : String) (r : V → List V → Hp → VK → Prop) (to : TE) (t : TA) : TE := fun σ H Q => to σ H fun x H1 => tyV K T x H1 ∧ t σ H1 fun xs H2 => r x xs H2 Q
variable {o e : Expr} {es : List Expr} {to : TE} {t : TA} {name : Str} {apos cpos : Pos} {T id : String} {r : V → List V → Hp → VK → Prop}
private theorem pe_bm0 (pa : PlainAttrs T) (slot : Slot T name id) (hty : typeOf (.builtin id) = pure (.type "method_descriptor")) (hm : MtR X id r) (ho : PE X o to)
    (hbase : attributeBase o name X.env (eval o X.env) = eval o X.env := by rfl) (hline : (apos.endLine == cpos.line) = true := by rfl) : PE X (.Call (.Attribute o name apos) [] [] cpos) (tBM0 X.K T r to) := by
  intro pins s σ H Q I h
  refine wpAny_Call_method0_late hbase hline (thn (ho pins s σ H _ I h) fun v s1 zz87 => e24 zz87 fun x H1 I1 r1 ty q1 => ?_)
  obtain ⟨h1, h2⟩ := tyV_is I1 r1 ty
  exact ⟨T, id, pa, slot, hty, h1, h2, Calls.callWith_builtin rfl (PySem.evalArgs_none (hm pins s1 σ H1 x [] v [] Q I1 r1 .nil q1))⟩
private theorem pe_bm (pa : PlainAttrs T) (slot : Slot T name id) (hty : typeOf (.builtin id) = pure (.type "method_descriptor")) (hm : MtR X id r) (ho : PE X o to) (ha : PA X (e :: es) t)
    (hbase : attributeBase o name X.env (eval o X.env) = eval o X.env := by rfl)
    (hfew : ((backTo cpos (starEach (e :: es) X.env)).all (fun x => !x.1) && (backToKw cpos (keywordEach [] X.env)).all (fun x => x.1.isSome)
      && decide ((e :: es).length + ([] : List Keyword).length + (if ([] : List Keyword).isEmpty then 0 else 1) < 30)) = true := by rfl)
    (hline : (apos.endLine == cpos.line) = true := by rfl) (hs : starEach (e :: es) X.env = (false, eval e X.env) :: starEach es X.env := by rfl) (hplain : (backTo cpos (starEach es X.env)).any (·.1) = false := by rfl) :
    PE X (.Call (.Attribute o name apos) (e :: es) [] cpos) (tBM X.K T r to t) := by
  intro pins s σ H Q I h
  refine wpAny_Call_method_late hbase hfew hline rfl (thn (ho pins s σ H _ I h) fun v s1 zz88 => e24 zz88 fun x H1 I1 r1 ty q1 => ?_)
  obtain ⟨h1, h2⟩ := tyV_is I1 r1 ty
  refine ⟨T, id, pa, slot, hty, h1, h2, ?_⟩
  have hA := ha cpos pins s1 σ H1 _ I1 q1
  rw [hs] at hA ⊢
  refine Calls.callWith_builtin (by show (false || (backTo cpos (starEach es X.env)).any (·.1)) = false; rw [hplain] <;> rfl) (Calls.evalArgs_plain ?_)
  exact thn hA fun us s2 zz89 => e23 zz89 fun vs H2 I2 r2 q2 => hm pins s2 σ H2 x vs v us Q I2 r1 r2 q2
/- xs.append(e), list.index on a module's tuple .. are MtR facts of 06m -/
end
end L2
namespace L2
open PySem PySem.Spec PyProof.Rows
noncomputable def MtM (X : Cx) (id : String) (r : V → List V → Hp → VK → Prop) : Prop :=
  ∀ (pins : List (Addr × Obj)) (s : Shared) (σ : St) (H : Hp) (x : V) (xs : List V) (v : Value) (us : List Value) (Q : VK), Inv X pins σ H s → RelV x v → Vals xs us → r x xs H Q →
    wpAny (model X.prog X.w) X.A (call (.builtin id) (v :: us)) (EP X pins σ Q) X.xe s
private theorem Vals.one : ∀ {x : V} {us : List Value}, Vals [x] us → ∃ u, us = [u] ∧ RelV x u
  | _, _, .cons r .nil => ⟨_, rfl, r⟩
private theorem Vals.zero : ∀ {us : List Value}, Vals [] us → us = []
  | _, .nil => rfl
private theorem Vals.reverse {xs : List V} {us : List Value} (h : Vals xs us) : Vals xs.reverse us.reverse := by
  induction h with
  | nil => exact .nil
  | cons r t ih => rw [List.reverse_cons, List.reverse_cons]; exact Vals.append ih (.cons r .nil)
private theorem Vals.rep {xs : List V} {us : List Value} (h : Vals xs us) : ∀ k : Nat, Vals (List.replicate k xs).flatten (List.replicate k us).flatten
  | 0 => .nil
  | k + 1 => by
    rw [List.replicate_succ, List.replicate_succ, List.flatten_cons, List.flatten_cons]
    exact Vals.append h (Vals.rep h k)
private theorem foldl_rep (its : List Value) : ∀ (k : Nat) (acc : List Value),
    List.foldl (fun x1 x2 => x1 ++ x2) acc.toArray (List.replicate k its.toArray) = (acc ++ (List.replicate k its).flatten).toArray
  | 0, acc => by simp
  | k + 1, acc => by
    have e : acc.toArray ++ its.toArray = (acc ++ its).toArray := by simp
    have e2 : (acc ++ its) ++ (List.replicate k its).flatten = acc ++ (List.replicate (k + 1) its).flatten := by
      rw [List.replicate_succ, List.flatten_cons, List.append_assoc]
    rw [← e2, ← foldl_rep its k (acc ++ its), ← e, List.replicate_succ, List.foldl_cons]
section
variable {X : Cx} {pins : List (Addr × Obj)} {σ : St} {H : Hp} {s : Shared} {l b : Addr} {xs ys zs : List V}
private theorem Inv.lset {its its' : List Value} {n : Nat} {f : Array Value → Array Value} {t' : Nat} (I : Inv X pins σ H s) (hH : H l = some (.lst xs))
    (e : s.heap.get? l = some { cls := .type "list", data := .seq its.toArray n }) (hf : f its.toArray = its'.toArray) (hv : Vals ys its') (hz : ys.length ≤ sizeLine) :
    Inv X pins σ (upd H l (.lst ys)) { s with heap := s.heap.update l (Obj.mapSeq f), toks := t' } := by
  have q := PySem.IsL.update e f
  rw [hf] at q
  refine I.write (x := l) (e := l) (by rw [hH]; exact trivial) (.inl rfl) (fun b' u hb hu => (Heap.get?_update_other s.heap (Obj.mapSeq f) (Ne.symm hb)).trans hu) ⟨_, q⟩ ?_
  exact ⟨hz, its', _, hv, q⟩
private theorem Inv.lnew {its : List Value} {t' : Nat} (I : Inv X pins σ H s) (hv : Vals ys its) (hz : ys.length ≤ sizeLine) :
    Inv X pins σ (upd H s.heap.objs.size (.lst ys)) { s with heap := s.heap.push { cls := .type "list", data := .seq its.toArray }, toks := t' } :=
  I.laid (fun _ _ q => Heap.get?_push_of_some _ q) (Nat.le_refl _) ⟨hz, its, 0, hv, Heap.get?_push_size _ rfl⟩
private theorem Inv.fresh (I : Inv X pins σ H s) : H s.heap.objs.size = none := I.hok.fresh (Nat.le_refl _)
private theorem Inv.lstM (I : Inv X pins σ H s) (hH : H l = some (.lst xs)) : xs.length ≤ sizeLine ∧ ∃ (its : List Value) (n : Nat), Vals xs its ∧ xs.length = its.length ∧ s.heap.get? l = some { cls := .type "list", data := .seq its.toArray n } := by
  obtain ⟨z, its, n, r, e⟩ := I.hok l _ hH
  exact ⟨z, its, n, r, r.length, e⟩
private theorem notLongL {n : Nat} (h : n ≤ sizeLine) : Builtin.List.listTooLong n = false := by
  unfold Builtin.List.listTooLong
  exact decide_eq_false (by omega)
end
section
variable {X : Cx}
noncomputable def rAppend : V → List V → Hp → VK → Prop := fun x vs H Q => ∃ l xs y, x = .ref l ∧ vs = [y] ∧ H l = some (.lst xs) ∧ xs.length < sizeLine ∧ Q .non (upd H l (.lst (xs ++ [y])))
private theorem mt_append : MtM X "list.append" rAppend := by
  intro pins s σ H x vs v us Q I rx rv h
  obtain ⟨l, xs, y, rfl, rfl, hH, hz, q⟩ := h
  cases rx
  obtain ⟨u, rfl, ru⟩ := rv.one
  obtain ⟨z, its, n, r, hl, e⟩ := I.lstM hH
  refine call_meets F.slot_list_append ⟨_, e, rfl⟩ F.entry_list_append (F.args_list_append_2 _ _) (PySem.list_append l its.toArray n u (by rw [List.size_toArray]; omega)) ⟨e, ?_⟩
  refine ⟨.non, _, I.lset (its' := its ++ [u]) hH e (by simp) (r.append (.cons ru .nil)) ?_, rfl, q⟩
  rw [List.length_append, List.length_singleton]
  omega
noncomputable def rExtend : V → List V → Hp → VK → Prop := fun x vs H Q => ∃ l b xs zs, x = .ref l ∧ vs = [.ref b] ∧ H l = some (.lst xs) ∧ H b = some (.lst zs) ∧ xs.length + zs.length ≤ sizeLine ∧ Q .non (upd H l (.lst (xs ++ zs)))
private theorem mt_extend : MtM X "list.extend" rExtend := by
  intro pins s σ H x vs v us Q I rx rv h
  obtain ⟨l, b, xs, zs, rfl, rfl, hH, hB, hz, q⟩ := h
  cases rx
  obtain ⟨u, rfl, ru⟩ := rv.one
  cases ru
  obtain ⟨z, its, n, r, hl, e⟩ := I.lstM hH
  obtain ⟨z2, its2, n2, r2, hl2, e2⟩ := I.lstM hB
  have hsz : its.toArray.size + its2.toArray.size ≤ sizeLine := by rw [List.size_toArray, List.size_toArray]; omega
  have hlong : ¬ (!its.toArray.isEmpty && Builtin.List.listTooLong (its.toArray.size + its2.toArray.size)) = true := by
    rw [notLongL hsz, Bool.and_false]
    exact Bool.false_ne_true
  refine call_meets F.slot_list_extend ⟨_, e, rfl⟩ F.entry_list_extend (F.args_list_extend_2 _ _)
    (AutoSeq1.list_extend_list_list_0 l its.toArray n b its2.toArray n2 hlong (by rw [List.size_toArray]; omega) (by omega)) ⟨e, e2, ?_⟩
  refine ⟨.non, _, I.lset (its' := its ++ its2) hH e (by simp) (r.append r2) ?_, rfl, q⟩
  rw [List.length_append]
  omega
noncomputable def rReverse : V → List V → Hp → VK → Prop := fun x vs H Q => ∃ l xs, x = .ref l ∧ vs = [] ∧ H l = some (.lst xs) ∧ Q .non (upd H l (.lst xs.reverse))
private theorem mt_reverse : MtM X "list.reverse" rReverse := by
  intro pins s σ H x vs v us Q I rx rv h
  obtain ⟨l, xs, rfl, rfl, hH, q⟩ := h
  cases rx
  have hus := rv.zero
  subst hus
  obtain ⟨z, its, n, r, hl, e⟩ := I.lstM hH
  refine call_meets F.slot_list_reverse ⟨_, e, rfl⟩ F.entry_list_reverse (F.args_list_reverse_1 _) (AutoSeq1.list_reverse_list_0 l its.toArray n (by rw [List.size_toArray]; omega)) ⟨e, ?_⟩
  refine ⟨.non, _, I.lset (its' := its.reverse) hH e (by simp) r.reverse ?_, rfl, q⟩
  rw [List.length_reverse]
  omega
noncomputable def rRep : R2 := fun x y H Q => ∃ l k xs, x = .ref l ∧ y = .int k ∧ H l = some (.lst xs) ∧ -(2 ^ 63) ≤ k ∧ k < 2 ^ 63 ∧ xs.length * k.toNat ≤ sizeLine ∧
  ∀ p, H p = none → Q (.ref p) (upd H p (.lst (List.replicate k.toNat xs).flatten))
private theorem len_rep {α : Type} (xs : List α) (k : Nat) : (List.replicate k xs).flatten.length = k * xs.length := by
  induction k with
  | zero => simp
  | succ k ih => rw [List.replicate_succ, List.flatten_cons, List.length_append, ih, Nat.succ_mul, Nat.add_comm]
private theorem op_rep : OpR X (binaryOp .Mult) rRep := by
  intro pins s σ H x y v u Q I rx ry h
  obtain ⟨l, k, xs, rfl, rfl, hH, h1, h2, hz, q⟩ := h
  cases rx
  obtain ⟨t, rfl⟩ := ry
  obtain ⟨z, its, n, r, hl, e⟩ := I.lstM hH
  have hlen : its.toArray.size * k.toNat ≤ sizeLine := by rw [List.size_toArray, ← hl]; exact hz
  have hcap : ¬ its.toArray.size * k.toNat > (2 ^ 63 - 1) / 8 := by
    have : (sizeLine : Nat) ≤ (2 ^ 63 - 1) / 8 := by decide
    omega
  have hfit : ¬ (!Builtin.List.listFitsIndex k) = true := by
    rw [fitsIndex_both h1 h2]
    exact Bool.false_ne_true
  have hlong : ¬ Builtin.List.listTooLong (its.toArray.size * k.toNat) = true := by
    rw [notLongL hlen]
    exact Bool.false_ne_true
  have hnew : List.foldl (fun x1 x2 => x1 ++ x2) #[] (List.replicate (if its.toArray.isEmpty = true then 0 else k.toNat) its.toArray) = (List.replicate k.toNat its).flatten.toArray := by
    have f0 : ∀ m : Nat, List.foldl (fun x1 x2 => x1 ++ x2) #[] (List.replicate m its.toArray) = (List.replicate m its).flatten.toArray := fun m => by
      have := foldl_rep its m []
      rw [List.nil_append] at this
      exact this
    rw [f0]
    cases its with
    | nil => simp
    | cons a r' => rw [if_neg (by simp)]
  refine wpAny_binaryOp_repeat_ref (T := "list") (U := "int") (by decide) ⟨_, e, rfl⟩ (fun s' => typeIs_int s' k t) noFill_list_mul F.fills_int_mul F.slot_int_rmul repeat_list F.slot_int_index.lookup
    (call_meets F.slot_int_rmul (typeIs_int s k t) F.entry_int_rmul (F.args_int_rmul_2 _ _) (int___rmul___int_list k t l its.toArray n)
      ⟨e, rfl, ⟨_, e, rfl⟩, call_meets F.slot_list_mul ⟨_, e, rfl⟩ F.entry_list_mul (F.args_list_mul_2 _ _) (AutoListH.list___mul___list_int_3 l its.toArray n k t hfit hcap hlong) ⟨e, ?_⟩⟩)
  rw [hnew]
  exact ⟨.ref _, _, I.lnew (t' := s.toks) (r.rep k.toNat) (by rw [len_rep, Nat.mul_comm]; exact hz), rfl, q _ I.fresh⟩
end
section
variable {prog : Program} {w : World} {A : Around} {E : Value → Shared → Prop} {s : Shared}
private theorem bounds_run {a c n : Nat} (hac : a ≤ c) (hc : c ≤ n) : sliceBounds (some (a : Int)) (some (c : Int)) none n = ((a : Int), (c : Int), 1) := by
  simp only [sliceBounds, Option.getD_none]
  have h1 : ¬ ((a : Int) < 0) := by omega
  have h2 : ¬ ((c : Int) < 0) := by omega
  simp only [h1, h2, if_false, show (1 : Int) > 0 by decide, if_true]
  congr 1
  · omega
  · congr 1; omega
end
section
variable {X : Cx}
end
end L2
namespace Att
open PySem PySem.W PySem.Calls PyProof.Rows
private theorem ints_of_wellAll {P : Params} {h : Heap} : ∀ (ns : List Int) (vs : List Value), WellAll P h vs (ns.map WData.int) → IntsAre vs ns := by
  intro ns
  induction ns with
  | nil =>
    intro vs w
    rw [List.map_nil] at w
    cases w
    exact .nil
  | cons n ns ih =>
    intro vs w
    rw [List.map_cons] at w
    cases w with
    | cons a b =>
      cases a
      exact .cons _ _ (ih _ b)
private theorem script_of {l : OpenLaw} {n : Nat} (hn : l.most = some n) {P : Params} {h : Heap} {args : List WData} {vals : List Value}
    (hpre : l.row.toRowW.claim.pre args = true) (hwl : WellAll P h vals args) :
    ∃ a vs ns, vals = [Value.ref a] ∧ args = [WData.list (ns.map WData.int)] ∧ h.get? a = some { cls := .type "list", data := .seq vs.toArray } ∧ IntsAre vs ns ∧ ns.length ≤ n := by
  have hsh : WShape.hasAll [] args [.list .int] = true := (pre_splitW hpre).1
  have hc : l.pre.holds [] { args := args } = true := (pre_splitW hpre).2
  obtain ⟨d, r, rfl, h1, h2⟩ := hasAllW_cons hsh
  obtain rfl := hasAllW_nil h2
  obtain ⟨xs, rfl, h3⟩ := hasW_list h1
  obtain ⟨ns, rfl⟩ := items_int h3
  have hlen : ns.length ≤ n := by
    unfold OpenLaw.pre at hc
    have h4 : (WTm.not (.lt (.lit (.int (n : Int))) (.len (.arg 0)))).holds [] { args := [.list (ns.map .int)] } = true := by
      have h4 := (holds_andW hc).1
      rw [hn] at h4
      exact h4
    have h5 := condW_of h4 (w_not (w_lt w_lit (w_len_list (w_arg rfl))))
    rw [List.length_map] at h5
    refine Nat.le_of_not_lt fun q => ?_
    have q' : (n : Int) < ((ns.length : Nat) : Int) := by omega
    first
      | (rw [decide_eq_true q'] at h5; exact absurd h5 (by decide))
      | (simp at h5; omega)
  cases hwl with
  | cons w1 w2 =>
    cases w2
    cases w1 with
    | list ho hall => exact ⟨_, _, ns, rfl, rfl, ho, ints_of_wellAll ns _ hall, hlen⟩
private theorem post_true (l : OpenLaw) (args : List WData) : l.row.toRowW.claim.post args (.bool true) args = true :=
  postW_of (r := l.row.toRowW) (X := (true == true))
    (show WShape.has [] (.bool true) .bool = true by first | rfl | decide | simp [WShape.has, WShape.arms, WShape.armsAll])
    (show (WTm.eq .res (.lit (.bool true))).value [] { args := args, res := some (.bool true), after := args } = some (.bool (true == true)) from w_eq_bool (w_res rfl) w_lit) rfl
private theorem attach_call {l : OpenLaw} {n : Nat} {q : Program} {loose : List Str} {XP : (Str → Option Value) → Heap → Prop} {YP : World → Heap → Prop} {d : DefRec}
    (hn : l.most = some n) (hdf : d.params.defaults = [])
    (call : ∀ (w : World) (s₀ s₁ : Shared) (mg mb : Str → Option Value) (fa : Addr) (o : Obj) (pm cd doc : Value) (a : Addr) (vs : List Value) (ns : List Int),
      Ground q loose [] XP w s₀ mg mb s₁.heap → YP w s₁.heap →
      s₁.heap.get? fa = some o → o.data = .func (docDef d.name d.params d.body d.scope pm cd doc) → s₁.heap.CodeRec cd d.name → mg d.name = some (.ref fa) →
      s₁.heap.get? a = some { cls := .type "list", data := .seq vs.toArray } → IntsAre vs ns → ns.length ≤ n → s₁.gens = #[] →
      codeAny (model l.prog w) callerA (.call (.ref fa) ⟨[.ref a], []⟩) (fun r s' => r = .ok (.ret (.bool true)) ∧ OldK s₁.heap s'.heap ∧ s'.os = s₁.os ∧ AllBare s'.gens) s₁) :
    WalkO q loose XP YP l.row.toRowW d [] (fun f vs => PySem.call f vs) := by
  intro w s₀ s₁ mg mb G Y fa o pm cd doc dV kV ho hd hcd hD hmg hg args vals as hpre hlay hrd hwl hlo
  obtain rfl : dV = .none := Dflts.none hD hdf
  obtain rfl : kV = .none := Dflts.noKw hD
  obtain ⟨a, vs, ns, rfl, rfl, hobj, hints, hlen⟩ := script_of hn hpre hwl
  refine enter_call (codeAny_mono (call w s₀ s₁ mg mb fa o pm cd doc a vs ns G Y ho (fd_plain hd) hcd hmg hobj hints hlen hg) fun r s' hq => ?_)
  obtain ⟨rfl, h2, h3, h4⟩ := hq
  exact ⟨.inl ⟨.bool true, .bool true, [], rfl, fun _ => rfl, .bool true, post_true l _, fun _ => ⟨List.Pairwise.nil, fun _ hm => (nomatch hm)⟩⟩, h2, h3, h4⟩
section
variable {prog : Program} {w : World} {A : Around} {E : Value → Shared → Prop} {s : Shared} {K : Frag}
end
end Att
namespace L2
open PySem PySem.Spec PyProof.Rows
private theorem vals_ints : ∀ {vs : List Value} {ns : List Int}, IntsAre vs ns → Vals (ns.map V.int) vs
  | _, _, .nil => .nil
  | _, _, .cons n t h => .cons ⟨t, rfl⟩ (vals_ints h)
noncomputable def Only (H : Hp) : Prop := ∀ b, H b = none ∨ ∃ o xs, H b = some (.frz o (.lst xs))
private theorem law_call {P : Program} {w : World} {K : PySem.W.Frag} {mg mb : Str → Option Value} {CX : CXT} {k : Nat} {fa a : Addr} {fd : FuncData} {x : Str} {sp : Sp} {s₁ : Shared} {vs : List Value} {ns : List Int}
    (KX : K.In s₁.heap) (hns : s₁.heap.Ns mainGlobals mg) (hb : s₁.heap.Ns builtinsNs mb) (hbb : ∀ x : Str, x ≠ "__name__" → mb x = bootBuiltins x) (hlim : s₁.heap.NoLimit) (hg : s₁.gens = #[])
    (ha : s₁.heap.get? a = some { cls := .type "list", data := .seq vs.toArray }) (hi : IntsAre vs ns) (hl : ns.length ≤ sizeLine) (hr : Room k callerA)
    (F : ∀ base : Heap, K.In base → base.Ns mainGlobals mg → FnOk P w K mg base CX k fa fd [x] sp) (hbind : ∀ (s : Shared) (u : Value), BindsTo s fd ⟨[u], []⟩ [(x, u)])
    (hsp : ∀ H : Hp, Only H → SqL K H a (ns.map V.int) → sp [.ref a] H (fun v _ => v = .bl true) fun _ _ _ => False)
    (hCX : ∀ H e s', CX [] H s₁ (fun _ _ _ => False) e s' → False) :
    codeAny (model P w) callerA (.call (.ref fa) ⟨[.ref a], []⟩) (fun r s' => r = .ok (.ret (.bool true)) ∧ OldK s₁.heap s'.heap ∧ s'.os = s₁.os ∧ AllBare s'.gens) s₁ := by
  have rv := vals_ints hi
  have lenV := hi.length
  -- from an abstract heap in which nothing but the script may be tracked
  have core : ∀ H : Hp, Only H → SqL K H a (ns.map V.int) → HOk P w H s₁.heap → (∀ b, H b ≠ none → b = a) → (H a ≠ none → K.lookup a = none) →
      codeAny (model P w) callerA (.call (.ref fa) ⟨[.ref a], []⟩) (fun r s' => r = .ok (.ret (.bool true)) ∧ OldK s₁.heap s'.heap ∧ s'.os = s₁.os ∧ AllBare s'.gens) s₁ := by
    intro H hO hS hok hA hK
    have base_of : ∀ {b : Addr} {o : Obj}, s₁.heap.get? b = some o → H b = none → (hidT s₁.heap H).get? b = some o := fun e n => hidT_get e n
    have noA : ∀ {b : Addr} {o : Obj} {es : Array DictEntry} {ep : Nat}, s₁.heap.get? b = some o → o.data = .dict es ep → H b = none := fun {b o es ep} e d => by
      cases q : H b with
      | none => rfl
      | some u =>
        have e' : b = a := hA b (by rw [q]; simp)
        subst e'
        rw [ha] at e; cases e
        have d' : Data.seq vs.toArray _ = Data.dict es ep := d
        cases d'
    have nsK : ∀ {b : Addr} {m : Str → Option Value}, s₁.heap.Ns b m → (hidT s₁.heap H).Ns b m := fun {b m} ⟨o, es, ep, e, d, r⟩ => ⟨o, es, ep, base_of e (noA e d), d, r⟩
    have hKb : K.In (hidT s₁.heap H) := fun b o e => base_of (KX b o e) (by
      cases q : H b with
      | none => rfl
      | some u =>
        have e' : b = a := hA b (by rw [q]; simp)
        subst e'
        rw [hK (by rw [q]; simp)] at e; cases e)
    have hM : Mod K mg (hidT s₁.heap H) := ⟨hKb, nsK hns, ⟨mb, nsK hb, hbb⟩, let ⟨mc, h1, h2⟩ := hlim; ⟨mc, nsK h1, h2⟩⟩
    have e0 : Env0 P w K mg (hidT s₁.heap H) callerA [] s₁ H := ⟨rfl, hM, fun b o e => of_hidT e, Nat.le_of_eq (hidT_size _ _), trivial, fun b hb => absurd (show b ∈ ([] : List Addr) from hb) (by simp), hok, .of_eq hg⟩
    refine codeAny_mono ((F _ hKb (nsK hns)).run callerA [] s₁ H ⟨[.ref a], []⟩ [.ref a] [.ref a] _ _ hr e0 (hbind s₁ (.ref a)) (.cons rfl .nil) (hsp H hO hS)) fun r s' h => ?_
    cases r with
    | error e => exact (hCX H e s' h).elim
    | ok fl =>
      cases fl with
      | next => exact False.elim h
      | brk => exact False.elim h
      | cont => exact False.elim h
      | ret u =>
        obtain ⟨v, H', os, bare, un, hok', r', q⟩ := h
        have q' : v = .bl true := q
        subst q'
        obtain rfl : u = Value.bool true := r'
        refine ⟨rfl, OldK.of_keep fun b o e => ?_, os, bare⟩
        cases q : H b with
        | none => exact un.keep b o e q (by intro z; exact absurd (show b ∈ ([] : List Addr) from z) (by simp)) (by simp)
        | some u =>
          rcases hO b with z | ⟨ob, xs, z⟩
          · rw [q] at z; cases z
          · have z2 := un.frzs b ob _ z
            obtain ⟨e1, _⟩ := hok b _ z
            obtain ⟨e2, _⟩ := hok' b _ z2
            rw [e] at e1; cases e1
            exact e2
  cases hk : K.lookup a with
  | some o =>
    -- the script is one of the module's own objects
    have e := KX a o hk
    rw [ha] at e
    cases e
    refine core (fun _ => none) (fun _ => .inl rfl) (.inr ⟨_, vs.toArray, _, hk, rfl, rfl, rfl, by rw [List.size_toArray, lenV]; exact hl, by simpa using rv⟩) (fun b u z => by have z' : (none : Option HO) = some u := z; cases z') (fun b z => absurd rfl z) fun z => absurd rfl z
  | none =>
    refine core (fun b => if b = a then some (.frz { cls := .type "list", data := .seq vs.toArray } (.lst (ns.map V.int))) else none) (fun b => ?_) (.inl (.inr ⟨{ cls := .type "list", data := .seq vs.toArray }, if_pos rfl⟩)) (fun b u z => ?_) (fun b z => ?_) fun _ => hk
    · by_cases hb : b = a
      · exact .inr ⟨_, _, if_pos hb⟩
      · exact .inl (if_neg hb)
    · by_cases hb : b = a
      · have z' := (if_pos hb).symm.trans z
        cases z'
        subst hb
        exact ⟨ha, by rw [List.length_map]; exact hl, vs, _, rv, ha⟩
      · have z' := (if_neg hb).symm.trans z
        cases z'
    · by_cases hb : b = a
      · exact hb
      · exact absurd (if_neg hb) z
end L2
namespace L2
open PySem PySem.Spec PyProof.Rows
private theorem walk_of {l : PySem.W.OpenLaw} {n k : Nat} {q : Program} {loose : List Str} {XP : (Str → Option Value) → Heap → Prop} {YP : World → Heap → Prop} {d : DefRec} {K : Params → PySem.W.Frag} {CX : World → CXT} {sp : World → Sp} {x : Str}
    (hn : l.most = some n) (hn2 : n ≤ sizeLine) (hdf : d.params.defaults = []) (hr : Room k callerA)
    (hY : ∀ (w : World) (h : Heap), YP w h → (K w.params).In h)
    (F : ∀ (w : World) (mg : Str → Option Value) (fa : Addr) (h : Heap), (K w.params).In h → h.Ns mainGlobals mg → mg d.name = some (.ref fa) →
      ∃ fd : FuncData, (∀ (s : Shared) (u : Value), BindsTo s fd ⟨[u], []⟩ [(x, u)]) ∧
        ∀ base : Heap, (K w.params).In base → base.Ns mainGlobals mg → FnOk l.prog w (K w.params) mg base (CX w) k fa fd [x] (sp w))
    (hsp : ∀ (w : World) (H : Hp) (a : Addr) (ns : List Int), ns.length ≤ n → Only H → SqL (K w.params) H a (ns.map V.int) → sp w [.ref a] H (fun v _ => v = .bl true) fun _ _ _ => False)
    (hCX : ∀ (w : World) (H : Hp) (s : Shared) (e : Value) (s' : Shared), CX w [] H s (fun _ _ _ => False) e s' → False) :
    PySem.W.WalkO q loose XP YP l.row.toRowW d [] (fun f vs => PySem.call f vs) := by
  refine Att.attach_call hn hdf fun w s₀ s₁ mg mb fa o pm cd doc a vs ns G Y ho hd hcd hmg hobj hints hlen hg => ?_
  have KX := hY w _ Y
  obtain ⟨fd, hb, hF⟩ := F w mg fa _ KX G.T.g hmg
  exact law_call KX G.T.g G.T.b G.T.builtins G.T.nolimit hg hobj hints (Nat.le_trans hlen hn2) hr hF hb (fun H hO hS => hsp w H a ns hlen hO hS) fun H e s' => hCX w H s₁ e s'
end L2
/- THE LAST THEOREM (shape; LID, My.* are yours):
   My.Adr: a structure of the addresses that your layer names (classes, functions); My.Txt K t: a structure (Prop) of the equations over K;
   My.txt_mk : {K} {implicit addresses ..} (e1 : nsIn K mainGlobals "law" = some (some (.ref f))) (e2 : K.lookup f = some ⟨oc, od, .func (fnOf "law" "law" params body scope dV kV doc pm an cdv ct), sl⟩) (e3 : codeIn K cdv "law" = true) .. : ∃ t, My.Txt K t
set_option maxRecDepth 100000 in
set_option maxHeartbeats 0 in
theorem PySem.Challenge.cw_LID_holds : PySem.Challenge.rw_LID.Holds := by
  w_on; o_law; k_head; (case hw => w_witness2)
  k_fill
  refine L2.walk_of (l := PySem.Challenge.rw_LID) (n := 63) (k := 40) (x := "script") (CX := fun w => ..) (sp := fun _ => My.sp_law) rfl (by decide) rfl ⟨rfl, by decide, by decide⟩ (fun w h Y => PySem.W.kIn_of Y) ?F ?S ?C
  case F =>
    intro w mg fa h KX G hmg
    have T : ∃ t, My.Txt (L2.KOf KX) t := by
      dsimp only [L2.KOf]                          -- K must stand as «<heap const> w.params» for k_is
      refine' My.txt_mk ?e1 ?e2 ?e3 ..
      (case e1 => PySem.W.k_is)                    -- in the order: a name -> its address -> its object -> its parts
      (case e2 => PySem.W.k_is)
      ..
    obtain ⟨t, T⟩ := T
    have e0 := hmg.symm.trans (PySem.W.mg_of KX G T.law)
    cases e0                                       -- fa is the law's own address
    exact ⟨_, fun s u => .of_eq rfl, fun base kb nb => My.law_fn T kb nb⟩     -- if «.of_eq rfl» comes too early: refine' ⟨_, ?b, fun base kb nb => My.law_fn T kb nb⟩; exact fun s u => .of_eq rfl
  case S => exact fun w H a ns hl hO hS => ..
  case C => exact ..
(the tactic k_is has no namespace: write k_is) -/
namespace L2
open PySem PySem.Spec PyProof.Rows
noncomputable def defArgs (s : Stmt) : Arguments := match s with
  | .FunctionDef _ a _ _ _ _ _ _ _ _ => a
  | _ => { posonlyargs := [], args := [], vararg := none, kwonlyargs := [], kw_defaults := [], kwarg := none, defaults := [] }
noncomputable def defBody (s : Stmt) : List Stmt := match s with
  | .FunctionDef _ _ b _ _ _ _ _ _ _ => b
  | _ => []
noncomputable def defScope (s : Stmt) : Scope := match s with
  | .FunctionDef _ _ _ _ _ _ sc _ _ _ => sc
  | _ => { kind := .function, names := [], isGenerator := false, isCoroutine := false }
noncomputable abbrev CX0 : CXT := fun _ _ _ _ _ _ => False
noncomputable abbrev E0 : XK := fun _ _ _ => False
private theorem pass0 {X : Cx} : Passes CX0 X E0 := fun _ _ _ _ _ _ _ h => h.elim
structure Fun (K : PySem.W.Frag) (x qual : Str) (st : Stmt) (f : Addr) (fd : FuncData) : Prop where
  ex : ∃ (oc : Value) (od : Option Addr) (kV doc pm : Value) (an : Option Addr) (cdv ct : Value) (osl : Array (Option Value)),
    fd = PySem.W.fnOf x qual (defArgs st) (defBody st) (defScope st) .none kV doc pm an cdv ct ∧ K.lookup f = some ⟨oc, od, .func fd, osl⟩ ∧ PySem.W.codeIn K cdv qual = true
  kp : PySem.W.keepIn K (.ref f) = true
section
variable {P : Program} {w : World} {K : PySem.W.Frag} {mg : Str → Option Value} {base : Heap}
private theorem Fun.ok {x qual : Str} {st : Stmt} {f : Addr} {fd : FuncData} {N ps : List Str} {k : Nat} {sp : Sp} (F : Fun K x qual st f fd) (S : FnScope N ps (defScope st)) (len : ∀ vs H Q E, sp vs H Q E → vs.length = ps.length)
    (hbody : ∀ (cdv : Value) (A : Around) (outer : List Env) (s : Shared) (H : Hp) (vs : List V) (Q : VK) (E : XK), Room k (A.deeper (envOfC qual (defScope st) s.heap.objs.size f cdv)) → sp vs H Q E →
      ∃ t, PSs (cxOf CX0 P w K mg base N qual (defScope st) f cdv A outer s H E).nox (defBody st) t ∧ t { nx := fun _ H' => Q .non H', rt := Q } (start N vs) H) : FnOk P w K mg base CX0 (k + 1) f fd ps sp := by
  obtain ⟨oc, od, kV, doc, pm, an, cdv, ct, osl, rfl, lk, hcd⟩ := F.ex
  refine fn_of lk hcd S len fun A outer s H vs Q E hr hsp => ?_
  obtain ⟨t, h, q⟩ := hbody cdv A outer s H vs Q E hr hsp
  exact ⟨t, h.nox, q⟩
private theorem Fun.binds {x qual : Str} {st : Stmt} {f : Addr} {fd : FuncData} {ps : List Str} (F : Fun K x qual st f fd)
    (h : ∀ (kV doc pm : Value) (an : Option Addr) (cdv ct : Value) (us : List Value), us.length = ps.length → bindArgs (PySem.W.fnOf x qual (defArgs st) (defBody st) (defScope st) .none kV doc pm an cdv ct) ⟨us, []⟩ = pure (ps.zip us)) : Binds K fd ps [] := by
  obtain ⟨oc, od, kV, doc, pm, an, cdv, ct, osl, rfl, lk, hcd⟩ := F.ex
  exact .all (h kV doc pm an cdv ct)
private theorem fun_mk {x qual : Str} {st : Stmt} {f : Addr} {oc : Value} {od an : Option Addr} {osl : Array (Option Value)} {kV doc pm cdv ct : Value} (l : K.lookup f = some ⟨oc, od, .func (PySem.W.fnOf x qual (defArgs st) (defBody st) (defScope st) .none kV doc pm an cdv ct), osl⟩)
    (c : PySem.W.codeIn K cdv qual = true) (k : PySem.W.keepIn K (.ref f) = true) : Fun K x qual st f (PySem.W.fnOf x qual (defArgs st) (defBody st) (defScope st) .none kV doc pm an cdv ct) := ⟨⟨oc, od, kV, doc, pm, an, cdv, ct, osl, rfl, l, c⟩, k⟩
end
private theorem small1000 {n : Nat} (h : n ≤ 1000) : n < sizeLine := Nat.lt_of_le_of_lt h (by decide)
section
variable {X : Cx}
private theorem pv (i : Nat) {x : Str} {pos : Pos} (hN : X.N[i]? = some x := by rfl) (hv : Vis X.env.scope x := by first | exact Or.inl rfl | exact Or.inr (Or.inl rfl) | exact Or.inr (Or.inr rfl)) (hd : (x == ("__debug__" : Str)) = false := by decide)
    (hcd : (x == ("__classdict__" : Str)) = false := by decide) : PE X (.Name x pos) (tVar i) := pe_var hN hv hd hcd
end
noncomputable def Same (H H' : Hp) : Prop := ∀ b o, H b = some o → H' b = some o
private theorem Same.refl (H : Hp) : Same H H := fun _ _ h => h
private theorem Same.trans {H H1 H2 : Hp} (a : Same H H1) (b : Same H1 H2) : Same H H2 := fun c o h => b c o (a c o h)
end L2

set_option Elab.async false
set_option linter.all false
set_option maxRecDepth 100000
namespace L2
open PySem PySem.Spec PyProof.Rows
section
variable {κ : Type} [DecidableEq κ]
noncomputable def valV (kvs : List (κ × V)) (k : κ) : Option V := (kvs.find? fun kv => decide (kv.1 = k)).map (·.2)
noncomputable def putK (kvs : List (κ × V)) (k : κ) (v : V) : List (κ × V) :=
  if (kvs.any fun kv => decide (kv.1 = k)) = true then kvs.map (fun kv => if kv.1 = k then (kv.1, v) else kv) else kvs ++ [(k, v)]
private theorem valV_pos {p : κ × V} {r : List (κ × V)} {k : κ} (e : p.1 = k) : valV (p :: r) k = some p.2 := by simp [valV, List.find?_cons, e]
private theorem valV_neg {p : κ × V} {r : List (κ × V)} {k : κ} (e : ¬ p.1 = k) : valV (p :: r) k = valV r k := by simp [valV, List.find?_cons, e]
private theorem valV_any (k : κ) : ∀ kvs : List (κ × V), (kvs.any fun kv => decide (kv.1 = k)) = (valV kvs k).isSome
  | [] => rfl
  | p :: r => by
    rw [List.any_cons]
    by_cases e : p.1 = k
    · simp only [valV_pos e, decide_eq_true e, Bool.true_or, Option.isSome_some]
    · rw [valV_neg e, decide_eq_false e, Bool.false_or]; exact valV_any k r
private theorem valV_map (k j : κ) (y : V) : ∀ kvs : List (κ × V), valV (kvs.map fun kv => if kv.1 = k then (kv.1, y) else kv) j = (valV kvs j).map fun x => if j = k then y else x
  | [] => rfl
  | p :: r => by
    have ih := valV_map k j y r
    rw [List.map_cons]
    by_cases h : p.1 = k
    · rw [if_pos h]
      by_cases e : p.1 = j
      · rw [valV_pos (p := (p.1, y)) e, valV_pos e, Option.map_some, if_pos (e.symm.trans h)]
      · rw [valV_neg (p := (p.1, y)) e, valV_neg e, ih]
    · rw [if_neg h]
      by_cases e : p.1 = j
      · rw [valV_pos (p := p) e, valV_pos e, Option.map_some, if_neg (fun z => h (e.trans z))]
      · rw [valV_neg (p := p) e, valV_neg e, ih]
private theorem valV_snoc (k j : κ) (y : V) : ∀ kvs : List (κ × V), valV kvs k = none → valV (kvs ++ [(k, y)]) j = if j = k then some y else valV kvs j
  | [], _ => by
    by_cases e : k = j
    · rw [if_pos e.symm]; exact valV_pos (p := (k, y)) e
    · rw [if_neg (fun z => e z.symm)]; exact valV_neg (p := (k, y)) e
  | p :: r, hn => by
    rw [List.cons_append]
    have hk : ¬ p.1 = k := fun z => by rw [valV_pos z] at hn; cases hn
    rw [valV_neg hk] at hn
    have ih := valV_snoc k j y r hn
    by_cases e : p.1 = j
    · rw [valV_pos e, valV_pos e, if_neg (fun z => hk (e.trans z))]
    · rw [valV_neg e, valV_neg e, ih]
private theorem valV_put (kvs : List (κ × V)) (k j : κ) (y : V) : valV (putK kvs k y) j = if j = k then some y else valV kvs j := by
  unfold putK
  by_cases a : (kvs.any fun kv => decide (kv.1 = k)) = true
  · rw [if_pos a, valV_map]
    rw [valV_any] at a
    by_cases e : j = k
    · obtain ⟨x, hx⟩ := Option.isSome_iff_exists.mp a
      rw [if_pos e, e, hx, Option.map_some, if_pos rfl]
    · rw [if_neg e]
      cases valV kvs j with
      | none => rfl
      | some x => rw [Option.map_some, if_neg e]
  · rw [if_neg a]
    refine valV_snoc k j y kvs ?_
    rw [valV_any] at a
    cases q : valV kvs k with
    | none => rfl
    | some x => rw [q] at a; exact (a rfl).elim
private theorem length_putK (kvs : List (κ × V)) (k : κ) (v : V) : (putK kvs k v).length ≤ kvs.length + 1 := by
  unfold putK
  split
  · rw [List.length_map]; omega
  · rw [List.length_append, List.length_cons, List.length_nil]; omega
private theorem RelO.isSome_eq {o : Option V} {u : Option Value} (r : RelO o u) : o.isSome = u.isSome := by
  cases o with
  | none => cases u with
    | none => rfl
    | some _ => exact (show False from r).elim
  | some _ => cases u with
    | none => exact (show False from r).elim
    | some _ => rfl
private theorem KV.val {kvs : List (κ × V)} {vs : List (κ × Value)} (r : KV kvs vs) (k : κ) : RelO (valV kvs k) (valueAt vs k) := by
  unfold KV at r
  induction r with
  | nil => exact True.intro
  | @cons p q ps qs h t ih =>
    obtain ⟨h1, h2⟩ := h
    by_cases e : p.1 = k
    · have e' : q.1 = k := h1.symm.trans e
      have b : valueAt (q :: qs) k = some q.2 := by simp [valueAt, List.find?_cons, e']
      rw [valV_pos e, b]; exact h2
    · have e' : ¬ q.1 = k := fun z => e (h1.trans z)
      have b : valueAt (q :: qs) k = valueAt qs k := by simp [valueAt, List.find?_cons, e']
      rw [valV_neg e, b]; exact ih
private theorem KV.any {kvs : List (κ × V)} {vs : List (κ × Value)} (r : KV kvs vs) (k : κ) : (kvs.any fun kv => decide (kv.1 = k)) = vs.any fun kv => decide (kv.1 = k) := by
  unfold KV at r
  induction r with
  | nil => rfl
  | cons h t ih => rw [List.any_cons, List.any_cons, ih, h.1]
private theorem KV.repl {kvs : List (κ × V)} {vs : List (κ × Value)} (r : KV kvs vs) (k : κ) {y : V} {u : Value} (ry : RelV y u) :
    KV (kvs.map fun kv => if kv.1 = k then (kv.1, y) else kv) (vs.map fun kv => if kv.1 = k then (kv.1, u) else kv) := by
  unfold KV at r ⊢
  induction r with
  | nil => exact .nil
  | @cons p q ps qs h t ih =>
    rw [List.map_cons, List.map_cons]
    refine .cons ?_ ih
    obtain ⟨h1, h2⟩ := h
    by_cases e : p.1 = k
    · rw [if_pos e, if_pos (h1.symm.trans e)]; exact ⟨h1, ry⟩
    · rw [if_neg e, if_neg (fun z => e (h1.trans z))]; exact ⟨h1, h2⟩
private theorem KV.put {kvs : List (κ × V)} {vs : List (κ × Value)} (r : KV kvs vs) (k : κ) {y : V} {u : Value} (ry : RelV y u) : KV (putK kvs k y) (stored vs k u) := by
  unfold putK stored
  rw [r.any k]
  by_cases e : (vs.any fun kv => decide (kv.1 = k)) = true
  · rw [if_pos e, if_pos e]; exact r.repl k ry
  · rw [if_neg e, if_neg e]; exact Paired.snoc r ⟨rfl, ry⟩
private theorem KV.length {kvs : List (κ × V)} {vs : List (κ × Value)} (r : KV kvs vs) : kvs.length = vs.length := Paired.length r
end
private theorem kV_is {P : Program} {w : World} {k : Key} {u : Value} (r : RelV (kV k) u) : (mixKind P w).is k u = true := by
  cases k with
  | inl i => obtain ⟨t, e⟩ := (show ∃ t, u = Value.int i t from r); subst e; exact mixKind_int P w i t
  | inr x => obtain ⟨t, e⟩ := (show ∃ t, u = Value.str x t from r); subst e; exact mixKind_str P w x t
private theorem items_are {P : Program} {w : World} : ∀ {ks : List Key} {us : List Value}, Vals (ks.map kV) us → ItemsAre (mixKind P w) ks us
  | [], _, r => by rw [List.map_nil] at r; cases r; exact .nil
  | k :: ks, _, r => by
    rw [List.map_cons] at r
    cases r with
    | cons h t => exact .cons (kV_is h) (items_are t)
noncomputable abbrev KT (H : Hp) : List (List Key × V) → List (List Key × Addr × Value) → Prop := Paired fun p q => p.1 = q.1 ∧ H q.2.1 = some (.tup (p.1.map kV)) ∧ RelV p.2 q.2.2
private theorem KT.val {H : Hp} {kvs : List (List Key × V)} {xs : List (List Key × Addr × Value)} (r : KT H kvs xs) (k : List Key) : RelO (valV kvs k) ((atKey xs k).map (·.2)) := by
  induction r with
  | nil => exact True.intro
  | @cons p q ps qs h t ih =>
    obtain ⟨h1, _, h2⟩ := h
    by_cases e : p.1 = k
    · have e' : q.1 = k := h1.symm.trans e
      have b : atKey (q :: qs) k = some q.2 := by simp [atKey, List.find?_cons, e']
      rw [valV_pos e, b]; exact h2
    · have e' : ¬ q.1 = k := fun z => e (h1.trans z)
      have b : atKey (q :: qs) k = atKey qs k := by simp [atKey, List.find?_cons, e']
      rw [valV_neg e, b]; exact ih
private theorem KT.repl {H : Hp} {kvs : List (List Key × V)} {xs : List (List Key × Addr × Value)} (r : KT H kvs xs) (k : List Key) {y : V} {u : Value} (ry : RelV y u) :
    KT H (kvs.map fun kv => if kv.1 = k then (kv.1, y) else kv) (xs.map (putAt k u)) := by
  induction r with
  | nil => exact .nil
  | @cons p q ps qs h t ih =>
    rw [List.map_cons, List.map_cons]
    refine .cons ?_ ih
    obtain ⟨h1, h2, h3⟩ := h
    unfold putAt
    by_cases e : p.1 = k
    · rw [if_pos e, if_pos (h1.symm.trans e)]; exact ⟨h1, h2, ry⟩
    · rw [if_neg e, if_neg (fun z => e (h1.trans z))]; exact ⟨h1, h2, h3⟩
private theorem KT.put {H : Hp} {kvs : List (List Key × V)} {xs : List (List Key × Addr × Value)} (r : KT H kvs xs) (k : List Key) {b : Addr} {y : V} {u : Value} (hb : H b = some (.tup (k.map kV))) (ry : RelV y u) :
    KT H (putK kvs k y) (storedH xs k b u) := by
  have e : (kvs.any fun kv => decide (kv.1 = k)) = (atKey xs k).isSome := by
    rw [valV_any, (r.val k).isSome_eq, Option.isSome_map]
  unfold putK storedH
  rw [e]
  by_cases q : (atKey xs k).isSome = true
  · rw [if_pos q, if_pos q]; exact r.repl k ry
  · rw [if_neg q, if_neg q]; exact Paired.snoc r ⟨rfl, hb, ry⟩
private theorem KT.keeps {H H' : Hp} {kvs : List (List Key × V)} {xs : List (List Key × Addr × Value)} (r : KT H kvs xs) (ht : ∀ b ys, H b = some (.tup ys) → H' b = some (.tup ys)) : KT H' kvs xs :=
  Paired.mapP r fun _ _ z => ⟨z.1, ht _ _ z.2.1, z.2.2⟩
section
variable {P : Program} {w : World} {H : Hp} {h : Heap} {a : Addr}
private theorem rd_of {u : HO} (ok : HOk P w H h) (e : Rd H a u) : ObjOk P w H h a u := e.ok ok
private theorem dk_rd {kvs : List (Key × V)} (ok : HOk P w H h) (e : Rd H a (.dK kvs)) : kvs.length ≤ sizeLine ∧ (a == sysModules) = false ∧ ∃ vs, KV kvs vs ∧ h.DictOf (mixKind P w) a vs :=
  show ObjOk P w H h a (.dK kvs) from rd_of ok e
private theorem dk_of {kvs : List (Key × V)} (ok : HOk P w H h) (e : H a = some (.dK kvs)) : kvs.length ≤ sizeLine ∧ (a == sysModules) = false ∧ ∃ vs, KV kvs vs ∧ h.DictOf (mixKind P w) a vs := dk_rd ok (.inl e)
private theorem key_of {ks : List Key} (ok : HOk P w H h) (e : H a = some (.tup (ks.map kV))) : (tupleKind (mixKind P w)).is h ks a := by
  obtain ⟨_, its, r, o, h1, h2, n, h3⟩ := (show ObjOk P w H h a (.tup (ks.map kV)) from ok a _ e)
  exact ⟨o, its.toArray, n, h1, h2, h3, by simpa using items_are r⟩
private theorem dt_rd {kvs : List (List Key × V)} (ok : HOk P w H h) (e : Rd H a (.dT kvs)) : kvs.length ≤ sizeLine ∧ (a == sysModules) = false ∧
    ∃ xs, KT H kvs xs ∧ h.DictOfH (tupleKind (mixKind P w)) a xs := by
  obtain ⟨z, y, xs, r, o, es, ep, h1, h2, h3, h4, h5⟩ := (show ObjOk P w H h a (.dT kvs) from rd_of ok e)
  refine ⟨z, y, xs, r, o, es, ep, h1, h2, h3, h4, fun x hx => ?_, h5⟩
  have all : ∀ {l : List (List Key × V)} {m : List (List Key × Addr × Value)}, KT H l m → ∀ x ∈ m, (tupleKind (mixKind P w)).is h x.1 x.2.1 := by
    intro l m q
    induction q with
    | nil => intro x hx; exact nomatch hx
    | @cons p q ps qs hq t ih =>
      intro x hx
      rcases List.mem_cons.mp hx with e | hx
      · subst e
        exact key_of ok (by rw [← hq.1]; exact hq.2.1)
      · exact ih x hx
  exact all r x hx
private theorem dt_of {kvs : List (List Key × V)} (ok : HOk P w H h) (e : H a = some (.dT kvs)) : kvs.length ≤ sizeLine ∧ (a == sysModules) = false ∧
    ∃ xs, KT H kvs xs ∧ h.DictOfH (tupleKind (mixKind P w)) a xs := dt_rd ok (.inl e)
end
noncomputable def DGet (H : Hp) (a : Addr) (y : V) (r : Option V) : Prop :=
  (∃ kvs k, Rd H a (.dK kvs) ∧ y = kV k ∧ r = valV kvs k) ∨ ∃ kvs k b, Rd H a (.dT kvs) ∧ y = .ref b ∧ H b = some (.tup (k.map kV)) ∧ r = valV kvs k
noncomputable def DPut (H : Hp) (a : Addr) (y v : V) (H' : Hp) : Prop :=
  (∃ kvs k, H a = some (.dK kvs) ∧ y = kV k ∧ kvs.length < sizeLine ∧ H' = upd H a (.dK (putK kvs k v))) ∨
  ∃ kvs k b, H a = some (.dT kvs) ∧ y = .ref b ∧ H b = some (.tup (k.map kV)) ∧ kvs.length < sizeLine ∧ H' = upd H a (.dT (putK kvs k v))
private theorem DGet.k {H : Hp} {a : Addr} {kvs : List (Key × V)} {k : Key} (e : H a = some (.dK kvs)) : DGet H a (kV k) (valV kvs k) := .inl ⟨kvs, k, .inl e, rfl, rfl⟩
private theorem DPut.k {H : Hp} {a : Addr} {kvs : List (Key × V)} {k : Key} {v : V} (e : H a = some (.dK kvs)) (hl : kvs.length < sizeLine) : DPut H a (kV k) v (upd H a (.dK (putK kvs k v))) := .inl ⟨kvs, k, e, rfl, hl, rfl⟩
section
variable {X : Cx} {pins : List (Addr × Obj)} {σ : St} {H : Hp} {s : Shared} {a : Addr} {y v : V} {u r : Value} {o : Option V} {A : Around} {E : Value → Shared → Prop}
private theorem Inv.big (I : Inv X pins σ H s) : sysModules < s.heap.objs.size := by
  have h : mainGlobals < s.heap.objs.size := (I.mod.glob.keeps I.bk).lt
  exact Nat.lt_trans (by decide) h
private theorem d_getItem {Q : Value → Shared → Prop} (hu : A.units + 1 < cLine) (I : Inv X pins σ H s) (g : DGet H a y (some v)) (ry : RelV y u) (h : ∀ w' s', Inv X pins σ H s' → RelV v w' → Q w' s') :
    wpAny (model X.prog X.w) A (getItem (.ref a) u) Q E s := by
  rcases g with ⟨kvs, k, e, ey, l⟩ | ⟨kvs, k, b, e, ey, eb, l⟩
  · subst ey
    obtain ⟨z, hd, vs, rel, dd⟩ := dk_rd I.hok e
    obtain ⟨w', hw, rw'⟩ := RelO.some_of (v := v) (o := valueAt vs k) (by rw [l]; exact rel.val k)
    exact wpAny_getItem_of (kV_is ry) dd.mapOf hw (h w' _ (I.tok _) rw')
  · subst ey
    cases (show u = Value.ref b from ry)
    obtain ⟨z, hd, xs, rel, dd⟩ := dt_rd I.hok e
    obtain ⟨w', hw, rw'⟩ := RelO.some_of (v := v) (o := (atKey xs k).map (·.2)) (by rw [l]; exact rel.val k)
    obtain ⟨p, hp, hp2⟩ := Option.map_eq_some_iff.mp hw
    refine wpAny_getItem_heap (tupleKind_room_in1 hu) (key_of I.hok eb) dd hp ?_
    rw [hp2]
    exact h w' _ (I.tok _) rw'
private theorem d_write {h' : Heap} {t' : Nat} {ob : HO} (I : Inv X pins σ H s) (mu : Mut (H a)) (hs : Heap.SameBut a s.heap h') (he : ∃ q, h'.get? a = some q) (new : ObjOk X.prog X.w (upd H a ob) h' a ob) :
    Inv X pins σ (upd H a ob) { s with heap := h', toks := t' } :=
  I.write (x := a) (e := a) mu (.inl rfl) (fun b q hb z => (hs.2 b hb).trans z) he new
private theorem dk_new {P : Program} {w : World} {H' : Hp} {h' : Heap} {kvs : List (Key × V)} {vs : List (Key × Value)} (z : kvs.length ≤ sizeLine) (hd : (a == sysModules) = false) (rel : KV kvs vs) (dd : h'.DictOf (mixKind P w) a vs) :
    ObjOk P w H' h' a (.dK kvs) := ⟨z, hd, vs, rel, dd⟩
private theorem d_setItem {H' : Hp} {Q : Unit → Shared → Prop} (hu : A.units + 1 < cLine) (I : Inv X pins σ H s) (g : DPut H a y v H') (ry : RelV y u) (rv : RelV v r) (h : ∀ s', Inv X pins σ H' s' → Q () s') :
    wpAny (model X.prog X.w) A (setItem (.ref a) u r) Q E s := by
  rcases g with ⟨kvs, k, e, ey, l, eH⟩ | ⟨kvs, k, b, e, ey, eb, l, eH⟩
  · subst ey eH
    obtain ⟨z, hd, vs, rel, dd⟩ := dk_of I.hok e
    have hz : vs.length ≤ sizeLine := by rw [← rel.length]; exact z
    have hl : (putK kvs k v).length ≤ sizeLine := by have := length_putK kvs k v; omega
    refine wpAny_setItem_pairs (hsz := hz) (kV_is ry) dd fun h' dd' hs => h _ ?_
    have he : ∃ q, h'.get? a = some q := let ⟨q, _, _, hq, _⟩ := dd'; ⟨q, hq⟩
    exact d_write I (by rw [e]; exact True.intro) hs he (dk_new hl hd (rel.put k rv) dd')
  · subst ey eH
    cases (show u = Value.ref b from ry)
    obtain ⟨z, hd, xs, rel, dd⟩ := dt_of I.hok e
    have hz : xs.length ≤ sizeLine := by rw [← Paired.length rel]; exact z
    have hl : (putK kvs k v).length ≤ sizeLine := by have := length_putK kvs k v; omega
    refine wpAny_setItem_heap (hsz := hz) (tupleKind_room_in1 hu) (key_of I.hok eb) dd fun h' dd' hs => h _ ?_
    obtain ⟨q, es, ep, hq, h2, h3, h4, _, h5⟩ := dd'
    refine d_write I (by rw [e]; exact True.intro) hs ⟨q, hq⟩ ⟨hl, hd, _, (rel.put k eb rv).keeps fun c ys ec => ?_, q, es, ep, hq, h2, h3, h4, h5⟩
    rw [upd_ne (ne_of ec e (fun z => nomatch z))]
    exact ec
end
section
variable {X : Cx} {pins : List (Addr × Obj)} {σ : St} {H : Hp} {s : Shared} {a : Addr} {kvs : List (Key × V)} {k : Key} {u : Value} {A : Around} {E : Value → Shared → Prop}
end
noncomputable def NoSl (i : Expr) : Prop := ∀ ov iv, subscripted i false ov iv = operate [ov, iv] (getItem ov iv)
private theorem subD_of {prog : Program} {w : World} {A : Around} {E : Value → Shared → Prop} {s : Shared} {env : Env} {value slice : Expr} {pos : Pos} {T id : String} {Q : Value → Shared → Prop}
    (hl : typeLookup (.type T) "__getitem__" = pure (some (.builtin id))) (hs : NoSl slice)
    (h : wpAny (model prog w) A (eval value env) (fun o s₁ => wpAny (model prog w) A (eval slice env) (fun i s₂ => s₂.TypeIs o T ∧ wpAny (model prog w) A (getItem o i) Q E s₂) E s₁) E s) :
    wpAny (model prog w) A (eval (.Subscript value slice pos) env) Q E s := by
  refine Subscript_ (wpAny_mono h (fun o s₁ h₁ => wpAny_mono h₁ (fun i s₂ h₂ => ?_) fun _ _ x => x) fun _ _ x => x)
  obtain ⟨hT, h₂⟩ := h₂
  unfold subscriptTail
  refine wpAny_bind ?_
  rw [getitemInPython_of_ne hT.not_modules]
  refine wpAny_bind (wpAny_specialOf hT hl ?_)
  have fin : wpAny (model prog w) A (subscripted slice false o i) (fun r s₃ => wpAny (model prog w) A (letTemporaryGo value o r >>= fun _ => pure r) Q E s₃) E s₂ := by
    rw [hs o i]
    exact wpAny_operating (wpAny_mono h₂ (fun r s₃ h₃ => wpAny_bind (wpAny_letTemporaryGo (wpAny_pure h₃))) fun _ _ x => x)
  first
    | exact wpAny_pure (wpAny_bind fin)
    | exact wpAny_bind (wpAny_pure (wpAny_bind fin))
    | exact wpAny_bind fin
private theorem dict_typeIs {X : Cx} {pins : List (Addr × Obj)} {σ : St} {H : Hp} {s : Shared} {a : Addr} {y : V} {o : Option V} (I : Inv X pins σ H s) (g : DGet H a y o) : s.TypeIs (.ref a) "dict" := by
  rcases g with ⟨kvs, k, e, _, _⟩ | ⟨kvs, k, b, e, _, _, _⟩
  · obtain ⟨_, _, vs, _, dd⟩ := dk_rd I.hok e
    exact dd.typeIs
  · obtain ⟨_, _, xs, _, dd⟩ := dt_rd I.hok e
    exact dd.typeIs
noncomputable def tDGet (td ty : TE) : TE := fun σ H Q => td σ H fun x H1 => ty σ H1 fun y H2 => ∃ a v, x = .ref a ∧ DGet H2 a y (some v) ∧ Q v H2
noncomputable def sDPut (td ty tv : TE) : TS := fun D σ H => tv σ H fun v H1 => td σ H1 fun x H2 => ty σ H2 fun y H3 => ∃ a H4, x = .ref a ∧ DPut H3 a y v H4 ∧ D.nx σ H4
section
variable {X : Cx} {o i e value : Expr} {pos pos' tpos : Pos} {td ty tv : TE}
private theorem pe_dget (hu : X.A.units + 1 < cLine) (ho : PE X o td) (hi : PE X i ty) (hs : NoSl i) : PE X (.Subscript o i pos) (tDGet td ty) := by
  intro pins s σ H Q I h
  refine subD_of PySem.F.slot_dict_getitem.lookup hs (thn (ho pins s σ H _ I h) fun u s1 ⟨x, H1, I1, rx, q1⟩ => thn (hi pins s1 σ H1 _ I1 q1) fun iv s2 ⟨y, H2, I2, ry, a, v, ex, g, q2⟩ => ?_)
  subst ex
  obtain rfl : u = Value.ref a := rx
  exact ⟨dict_typeIs I2 g, d_getItem hu I2 g ry fun w' s3 I3 rw' => ⟨v, H2, I3, rw', q2⟩⟩
private theorem ps_dput (hu : X.A.units + 1 < cLine) (ho : PE X o td) (hi : PE X i ty) (hv : PE X value tv) (hs : swapsWith value (some (.Subscript o i pos')) pos.line X.env = pure false) :
    PS X (.Assign [.Subscript o i pos'] value pos) (sDPut td ty tv) := by
  intro pins s σ H D I h
  refine wpAny_Assign_Subscript (thn (hv pins s σ H _ I h) fun r s1 ⟨v, H1, I1, rv, q1⟩ => thn (ho pins s1 σ H1 _ I1 q1) fun u s2 ⟨x, H2, I2, rx, q2⟩ => thn (hi pins s2 σ H2 _ I2 q2) fun iv s3 ⟨y, H3, I3, ry, a, H4, ex, g, q3⟩ => ?_) hs
  subst ex
  obtain rfl : u = Value.ref a := rx
  exact d_setItem hu I3 g ry rv fun s4 I4 => ⟨σ, H4, I4, q3⟩
end
private theorem dk_empty {P : Program} {w : World} {H : Hp} (h : Heap) (hb : sysModules < h.objs.size) : ObjOk P w H (h.push { cls := .type "dict", data := .dict #[] }) h.objs.size (.dK []) :=
  ⟨Nat.zero_le _, beq_eq_false_iff_ne.mpr (Ne.symm (Nat.ne_of_lt hb)), [], .nil, Heap.DictOf.new h⟩
section
variable {X : Cx} {pos : Pos}
end
noncomputable def tPairs : List (TE × TE) → St → Hp → (List (V × V) → Hp → Prop) → Prop
  | [], _, H, Q => Q [] H
  | (tk, tv) :: r, σ, H, Q => tk σ H fun x H1 => tv σ H1 fun y H2 => tPairs r σ H2 fun ps H3 => Q ((x, y) :: ps) H3
noncomputable abbrev VV : List (V × V) → List (Value × Value) → Prop := Paired fun p q => RelV p.1 q.1 ∧ RelV p.2 q.2
noncomputable def PPs (X : Cx) (pos : Pos) (keys : List (Option Expr)) (values : List Expr) (trs : List (TE × TE)) : Prop :=
  ∀ (pins : List (Addr × Obj)) (s : Shared) (σ : St) (H : Hp) (Q : List (V × V) → Hp → Prop), Inv X pins σ H s → tPairs trs σ H Q →
    wpAny (model X.prog X.w) X.A (evalPairs (pairTrees keys values X.env pos)) (fun vs s' => ∃ ps H', Inv X pins σ H' s' ∧ VV ps vs ∧ Q ps H') X.xe s
private theorem pps_nil {X : Cx} {pos : Pos} : PPs X pos [] [] [] := fun pins s σ H Q I h => pairTrees_nil_walk ⟨[], H, I, .nil, h⟩
private theorem pps_cons {X : Cx} {pos : Pos} {k v : Expr} {ks : List (Option Expr)} {vs : List Expr} {tk tv : TE} {trs : List (TE × TE)} (hk : PE X k tk) (hv : PE X v tv) (hr : PPs X pos ks vs trs) :
    PPs X pos (some k :: ks) (v :: vs) ((tk, tv) :: trs) := fun pins s σ H Q I h =>
  pairTrees_cons_walk (thn (hk pins s σ H _ I h) fun u s1 ⟨x, H1, I1, rx, q1⟩ => thn (hv pins s1 σ H1 _ I1 q1) fun w2 s2 ⟨y, H2, I2, ry, q2⟩ =>
    thn (hr pins s2 σ H2 _ I2 q2) fun ws s3 ⟨ps, H3, I3, rel, q3⟩ => ⟨(x, y) :: ps, H3, I3, .cons ⟨rx, ry⟩ rel, q3⟩)
noncomputable def mergeK (kvs more : List (Key × V)) : List (Key × V) := more.foldl (fun acc kv => putK acc kv.1 kv.2) kvs
private theorem KV.merge : ∀ {more : List (Key × V)} {rs : List (Key × Value)} {kvs : List (Key × V)} {vs : List (Key × Value)}, KV more rs → KV kvs vs → KV (mergeK kvs more) (merged vs rs) := by
  intro more rs kvs vs r
  unfold KV at r
  induction r generalizing kvs vs with
  | nil => intro q; exact q
  | @cons p q ps qs h t ih =>
    intro r0
    have e : KV (putK kvs p.1 p.2) (stored vs q.1 q.2) := by
      have := r0.put p.1 h.2
      rw [← h.1]; exact this
    exact ih e
private theorem length_mergeK : ∀ (more kvs : List (Key × V)), (mergeK kvs more).length ≤ kvs.length + more.length
  | [], kvs => by show kvs.length ≤ kvs.length + 0; omega
  | p :: r, kvs => by
    have h1 := length_mergeK r (putK kvs p.1 p.2)
    have h2 := length_putK kvs p.1 p.2
    show (mergeK (putK kvs p.1 p.2) r).length ≤ _
    rw [List.length_cons]; omega
private theorem carries_of {P : Program} {w : World} : ∀ {kvs : List (Key × V)} {ws : List (Value × Value)}, VV (kvs.map fun kv => (kV kv.1, kv.2)) ws → ∃ rs, Carries (mixKind P w) ws rs ∧ KV kvs rs
  | [], _, r => by rw [List.map_nil] at r; cases r; exact ⟨[], True.intro, .nil⟩
  | p :: kvs, _, r => by
    rw [List.map_cons] at r
    cases r with
    | @cons a b as bs h t =>
      obtain ⟨rs, c, q⟩ := carries_of (P := P) (w := w) t
      obtain ⟨b1, b2⟩ := b
      exact ⟨(p.1, b2) :: rs, ⟨kV_is h.1, rfl, c⟩, .cons ⟨rfl, h.2⟩ q⟩
noncomputable def tDisp (trs : List (TE × TE)) : TE := fun σ H Q => ∀ p, H p = none → tPairs trs σ (upd H p (.dK [])) fun ps H2 => H2 p = some (.dK []) ∧ ∃ kvs : List (Key × V), ps = kvs.map (fun kv => (kV kv.1, kv.2)) ∧ kvs.length ≤ 15 ∧ Q (.ref p) (upd H2 p (.dK (mergeK [] kvs)))
private theorem pe_disp {X : Cx} {pos : Pos} {keys : List (Option Expr)} {values : List Expr} {trs : List (TE × TE)} (h : PPs X pos keys values trs) (hall : keys.all (·.isSome) = true) (hl : keys.length = values.length) (h0 : keys ≠ [])
    (h15 : keys.length ≤ 15) : PE X (.Dict keys values pos) (tDisp trs) := by
  intro pins s σ H Q I q
  have hn := I.hok.fresh (Nat.le_refl s.heap.objs.size)
  have I1 := I.laid (a := s.heap.objs.size) (o := .dK []) (h' := s.heap.push { cls := .type "dict", data := .dict #[] }) (t' := s.toks) (fun _ _ q => Heap.get?_push_of_some _ q) (Nat.le_refl _) (dk_empty s.heap I.big)
  refine wpAny_Dict_walk (knd := mixKind X.prog X.w) hall hl h0 h15 (thn (h pins _ σ _ _ I1 (q _ hn)) fun ws s2 ⟨ps, H2, I2, rel, e, kvs, ep, lk, q2⟩ => ?_)
  subst ep
  obtain ⟨rs, c, rk⟩ := carries_of (P := X.prog) (w := X.w) rel
  obtain ⟨z, hd, vs0, r0, dd⟩ := dk_of I2.hok e
  cases r0
  refine ⟨rs, c, dd, fun h' dd' hs => ⟨.ref s.heap.objs.size, _, ?_, rfl, q2⟩⟩
  have hz : (mergeK [] kvs).length ≤ sizeLine := by
    have h1 := length_mergeK kvs []
    rw [List.length_nil] at h1
    rw [sizeLine_eq]; omega
  have he : ∃ q, h'.get? s.heap.objs.size = some q := let ⟨q, _, _, hq, _⟩ := dd'; ⟨q, hq⟩
  exact d_write I2 (by rw [e]; exact True.intro) hs he (dk_new hz hd (rk.merge .nil) dd')
section
variable {X : Cx} {pins : List (Addr × Obj)} {σ : St} {H : Hp} {s : Shared} {a : Addr} {y d : V} {u r : Value} {o : Option V} {A : Around} {E : Value → Shared → Prop}
end
section
variable {X : Cx} {o e f : Expr} {apos cpos : Pos} {td ty tx : TE}
end
section
variable {X : Cx} {pins : List (Addr × Obj)} {σ : St} {H : Hp} {s : Shared} {a : Addr} {kvs : List (Key × V)} {A : Around} {E : Value → Shared → Prop}
end
section
variable {X : Cx} {pins : List (Addr × Obj)} {σ : St} {H : Hp} {s : Shared} {a : Addr} {y : V} {u : Value} {A : Around} {E : Value → Shared → Prop}
end
end L2

set_option Elab.async false
set_option linter.all false
set_option maxRecDepth 100000
namespace L3
open PySem PySem.Spec PyProof.Rows L2
noncomputable def Sm (n : Nat) (i : Int) : Prop := i.natAbs < 2 ^ n
private theorem Sm.mono {a b : Nat} {i : Int} (h : Sm a i) (k : a ≤ b) : Sm b i := Nat.lt_of_lt_of_le h (Nat.pow_le_pow_right (by decide) k)
private theorem Sm.add {a : Nat} {i j : Int} (h : Sm a i) (k : Sm a j) : Sm (a + 1) (i + j) := by
  unfold Sm at *
  have := Int.natAbs_add_le i j
  rw [Nat.pow_succ]
  omega
private theorem Sm.neg {a : Nat} {i : Int} (h : Sm a i) : Sm a (-i) := by
  unfold Sm at *
  rw [Int.natAbs_neg]; exact h
private theorem Sm.mul {a b : Nat} {i j : Int} (h : Sm a i) (k : Sm b j) : Sm (a + b) (i * j) := by
  unfold Sm at *
  rw [Int.natAbs_mul, Nat.pow_add]
  exact Nat.mul_lt_mul'' h k
private theorem Sm.le {a : Nat} {i j : Int} (h : Sm a i) (k : j.natAbs ≤ i.natAbs) : Sm a j := Nat.lt_of_le_of_lt k h
private theorem Sm.bits {n : Nat} {i : Int} (h : Sm n i) : Builtin.Int.intBits i ≤ n := by
  unfold Builtin.Int.intBits
  split
  · exact Nat.zero_le _
  · rename_i z
    have nz : i.natAbs ≠ 0 := by
      intro e
      apply z
      rw [Int.natAbs_eq_zero] at e
      subst e
      rfl
    have := (Nat.log2_lt nz (k := n)).mpr h
    omega
private theorem Sm.log {n : Nat} {i : Int} (h : Sm n i) (k : 0 < n) : i.natAbs.log2 < n := by
  by_cases z : i.natAbs = 0
  · rw [z]; simpa using k
  · exact (Nat.log2_lt z).mpr h
noncomputable def CMulS (i j : Int) : Prop := ∃ a b, a + b ≤ 100000000 ∧ Sm a i ∧ Sm b j
private theorem CMulS.ok {i j : Int} (h : CMulS i j) : IntMulOk i j := by
  obtain ⟨a, b, ab, hi, hj⟩ := h
  have h1 := hi.bits
  have h2 := hj.bits
  unfold IntMulOk
  intro z
  rw [Bool.and_eq_true] at z
  have z2 := z.2
  unfold Builtin.Int.intTooBig at z2
  have z3 := of_decide_eq_true z2
  have e : (bitsLine : Int) = 134217728 := by decide
  rw [e] at z3
  omega
noncomputable def CDivS (_i j : Int) : Prop := j ≠ 0 ∧ Sm 9000 j
section
variable {X : Cx}
private theorem op_mulS : OpR X (binaryOp .Mult) (rI CMulS fun i j => .int (i * j)) := opI fun _ _ _ _ _ _ _ hc q => mul_int q hc.ok
private theorem op_fdivS : OpR X (binaryOp .FloorDiv) (rI CDivS fun i j => .int (i.fdiv j)) := opI fun _ _ _ _ _ _ _ hc q => floordiv_int hc.1 q (.inl (PyProof.noPylong_of_log2 (hc.2.log (by decide))))
end
section
variable {X : Cx}
end
inductive D where
  | non | bl (b : Bool) | int (i : Int) | str (x : Str) | tup (xs : List D) | lst (xs : List D)
noncomputable def b2n (b : Bool) : Int := if b then 1 else 0
mutual
noncomputable def peq : D → D → Bool
  | .non, e => match e with | .non => true | _ => false
  | .bl a, e => match e with | .bl b => a == b | .int i => b2n a == i | _ => false
  | .int i, e => match e with | .bl b => i == b2n b | .int j => i == j | _ => false
  | .str x, e => match e with | .str y => x == y | _ => false
  | .tup ds, e => match e with | .tup es => peqs ds es | _ => false
  | .lst ds, e => match e with | .lst es => peqs ds es | _ => false
noncomputable def peqs : List D → List D → Bool
  | [], e => match e with | [] => true | _ => false
  | d :: ds, e => match e with | e :: es => peq d e && peqs ds es | [] => false
end
mutual
noncomputable def dep : D → Nat
  | .tup ds => deps ds + 1
  | .lst ds => deps ds + 1
  | _ => 0
noncomputable def deps : List D → Nat
  | [] => 0
  | d :: ds => max (dep d) (deps ds)
end
private theorem dep_le {d : D} : ∀ {ds : List D} {i : Nat}, ds[i]? = some d → dep d ≤ deps ds
  | [], i, h => by simp at h
  | e :: ds, 0, h => by simp at h; subst h; rw [deps]; exact Nat.le_max_left _ _
  | e :: ds, i + 1, h => by
    rw [deps]
    exact Nat.le_trans (dep_le (ds := ds) (i := i) (by simpa using h)) (Nat.le_max_right _ _)
mutual
private theorem peq_refl : ∀ d : D, peq d d = true
  | .non => by rw [peq]
  | .bl b => by simp only [peq]; simp
  | .int b => by simp only [peq]; simp
  | .str b => by simp only [peq]; simp
  | .tup ds => by simp only [peq]; exact peqs_refl ds
  | .lst ds => by simp only [peq]; exact peqs_refl ds
private theorem peqs_refl : ∀ d : List D, peqs d d = true
  | [] => by rw [peqs]
  | d :: ds => by rw [peqs]; simp [peq_refl d, peqs_refl ds]
end
private theorem peqs_all : ∀ (ds es : List D), ds.length = es.length → peqs ds es = (List.range ds.length).all fun i => peq (ds.getD i .non) (es.getD i .non)
  | [], [], _ => by rw [peqs]; rfl
  | d :: ds, e :: es, h => by
    rw [peqs, peqs_all ds es (by simpa using h), List.length_cons, List.range_succ_eq_map]
    simp [List.all_map, Function.comp_def]
  | [], _ :: _, h => by simp at h
  | _ :: _, [], h => by simp at h
private theorem peqs_len : ∀ (ds es : List D), ds.length ≠ es.length → peqs ds es = false
  | [], [], h => absurd rfl h
  | d :: ds, e :: es, h => by rw [peqs, peqs_len ds es (by simpa using h)]; simp
  | [], _ :: _, h => by simp only [peqs]
  | _ :: _, [], h => by simp only [peqs]
open SeqAt
section
variable {X : Cx} {pins : List (Addr × Obj)} {σ : L2.St} {H : Hp} {s : Shared}
private theorem in1_units {A : Around} : A.in1.units = A.units + 1 := rfl
private theorem seq_bool {ds es : List D} {us ts : List Value} (l1 : ds.length = us.length) (l2 : es.length = ts.length) :
    ((List.range (min us.toArray.size ts.toArray.size)).all (fun j => peq (ds.getD j .non) (es.getD j .non)) && us.toArray.size == ts.toArray.size) = peqs ds es := by
  by_cases h : ds.length = es.length
  · have e : us.toArray.size = ds.length := by simp [l1]
    have e2 : ts.toArray.size = ds.length := by simp [h, l2]
    rw [e, e2, peqs_all ds es h, Nat.min_self]
    simp
  · rw [peqs_len ds es h]
    have : (us.toArray.size == ts.toArray.size) = false := by
      rw [beq_eq_false_iff_ne]
      simp only [List.size_toArray, ← l1, ← l2]
      exact h
    rw [this, Bool.and_false]
end
section
variable {X : Cx}
end
private theorem Room.u60 {k : Nat} {A : Around} (r : Room k A) : A.units + 60 < cLine := by have := r.un; omega
end L3
set_option Elab.async false
set_option linter.all false
set_option maxRecDepth 100000
namespace L3
open PySem PySem.Spec PyProof.Rows L2
noncomputable abbrev S := L2.St
private theorem comp_loop {prog : Program} {w : World} {A : Around} {R : Result → Shared → Prop} {s : Shared} {elt target iter : Expr} {ifs : List Expr} {scope : Scope} {pos : Pos} {it acc : Value} {env : Env} (J : Nat → Shared → Prop)
    (turn : ∀ n s, J n s → wpAny (model prog w) A (pyNext it) (fun r s1 => match r with
      | none => R (.ok .next) s1
      | some v => wpAny (model prog w) A (letOwnedTupleGo target it v) (fun _ s2 => wpAny (model prog w) A (assign target env v) (fun _ s3 =>
          wpAny (model prog w) A (forIn ifs true fun c r => if r = true then do let ok ← isTrue c env (eval c env); pure (ForInStep.yield ok) else pure (ForInStep.yield r)) (fun ok s4 =>
            if ok = true then wpAny (model prog w) A (eval elt env) (fun x s5 => wpAny (model prog w) A (call (.builtin "list.append") [acc, x]) (fun _ s6 => ∃ m, m < n ∧ J m s6) (fun _ _ => False) s5) (fun _ _ => False) s4
            else ∃ m, m < n ∧ J m s4) (fun _ _ => False) s3) (fun _ _ => False) s2) (fun _ _ => False) s1) (fun _ _ => False) s)
    (n : Nat) (h : J n s) : codeAny (model prog w) A (.compLoop (.ListComp elt [⟨target, iter, ifs, 0⟩] scope pos) 0 it acc env) R s := by
  refine codeAny_loop rfl J (fun n s hJ => ?_) n h
  show wpAny (model prog w) A ((compTurn (.ListComp elt [⟨target, iter, ifs, 0⟩] scope pos) 0 it acc env).onRaise (fun x => do noteFrame x env; theTreesLotGoes x)) _ _ s
  refine wpAny_noted ?_
  rw [compTurn_list]
  refine wpAny_bind (wpAny_standAt (wpAny_bind (wpAny_mono (turn n s hJ) (fun r s1 h1 => ?_) fun _ _ z => z.elim)))
  cases r with
  | none => exact wpAny_pure h1
  | some v =>
    refine wpAny_bind (wpAny_mono h1 (fun _ s2 h2 => wpAny_bind (wpAny_mono h2 (fun _ s3 h3 => wpAny_bind (wpAny_mono h3 (fun ok s4 h4 => ?_) fun _ _ z => z.elim)) fun _ _ z => z.elim)) fun _ _ z => z.elim)
    cases ok with
    | false => exact wpAny_pure ⟨rfl, h4⟩
    | true => exact wpAny_bind (wpAny_bind (wpAny_mono h4 (fun x s5 h5 => wpAny_bind (wpAny_mono h5 (fun _ s6 h6 => wpAny_pure (wpAny_pure ⟨rfl, h6⟩)) fun _ _ z => z.elim)) fun _ _ z => z.elim))
noncomputable def clOf (env : Env) : List (Str × NameKind) → List (Str × Addr) → List (Str × Addr)
  | [], acc => acc
  | (n, k) :: r, acc => if k == .free then clOf env r ((n, (env.cells.lookup n).getD 0) :: acc) else clOf env r acc
private theorem closure_forIn {env : Env} : ∀ (names : List (Str × NameKind)) (acc : List (Str × Addr)), (names.all fun y => y.2 != .free || (env.cells.lookup y.1).isSome) = true →
    (forIn names acc (fun (x : Str × NameKind) (cs : List (Str × Addr)) => match x with | (name, kind) => if (kind == NameKind.free) = true then do let a ← cellOf env name; pure (ForInStep.yield ((name, a) :: cs)) else pure (ForInStep.yield cs)) : Sem (List (Str × Addr))) = pure (clOf env names acc)
  | [], acc, _ => rfl
  | (n, k) :: r, acc, h => by
    rw [List.all_cons, Bool.and_eq_true] at h
    rw [List.forIn_cons]
    dsimp only
    by_cases hk : (k == NameKind.free) = true
    · rw [if_pos hk]
      have h1 := h.1
      have e : k = .free := by simpa using hk
      subst e
      simp only [bne_self_eq_false, Bool.false_or] at h1
      obtain ⟨a, ha⟩ := Option.isSome_iff_exists.mp h1
      have : cellOf env n = pure a := by unfold cellOf; rw [ha]
      rw [this, pure_bind, pure_bind]
      dsimp only
      rw [closure_forIn r _ h.2, clOf, if_pos hk, ha]
      rfl
    · rw [if_neg hk, pure_bind]
      dsimp only
      rw [closure_forIn r _ h.2, clOf, if_neg hk]
private theorem closure_of {scope : Scope} {env : Env} (h : (scope.names.all fun y => y.2 != .free || (env.cells.lookup y.1).isSome) = true) : closureFor scope env = pure (clOf env scope.names []) := by
  unfold closureFor
  show (forIn scope.names [] _ >>= fun r => pure r) = _
  rw [bind_pure]
  exact closure_forIn scope.names [] h
private theorem clOf_lookup {env : Env} {x : Str} {c : Addr} : ∀ (names : List (Str × NameKind)) (acc : List (Str × Addr)), (names.all fun y => y.2 != .free || (env.cells.lookup y.1).isSome) = true →
    (∀ c, acc.lookup x = some c → env.cells.lookup x = some c) → (clOf env names acc).lookup x = some c → env.cells.lookup x = some c
  | [], acc, _, ha, h => ha c h
  | (n, k) :: r, acc, hall, ha, h => by
    rw [List.all_cons, Bool.and_eq_true] at hall
    rw [clOf] at h
    by_cases hk : (k == NameKind.free) = true
    · rw [if_pos hk] at h
      refine clOf_lookup r _ hall.2 (fun c hc => ?_) h
      rw [List.lookup_cons] at hc
      split at hc
      · rename_i hx
        have hx' : x = n := by simpa using hx
        subst hx'
        have h1 := hall.1
        have e : k = .free := by simpa using hk
        subst e
        simp only [bne_self_eq_false, Bool.false_or] at h1
        obtain ⟨a, ha'⟩ := Option.isSome_iff_exists.mp h1
        rw [ha'] at hc ⊢
        exact hc
      · exact ha c hc
    · rw [if_neg hk] at h
      exact clOf_lookup r acc hall.2 ha h
private theorem clOf_acc {env : Env} {x : Str} : ∀ (names : List (Str × NameKind)) (acc : List (Str × Addr)), (∃ c, acc.lookup x = some c) → ∃ c, (clOf env names acc).lookup x = some c
  | [], acc, h => h
  | (n, k) :: r, acc, h => by
    rw [clOf]
    split
    · refine clOf_acc r _ ?_
      rw [List.lookup_cons]
      split
      · exact ⟨_, rfl⟩
      · exact h
    · exact clOf_acc r acc h
private theorem clOf_has {env : Env} {x : Str} : ∀ (names : List (Str × NameKind)) (acc : List (Str × Addr)), (x, NameKind.free) ∈ names → ∃ c, (clOf env names acc).lookup x = some c
  | [], _, h => nomatch h
  | (n, k) :: r, acc, h => by
    rw [clOf]
    rcases List.mem_cons.mp h with e | h
    · cases e
      rw [if_pos (by rfl)]
      exact clOf_acc r _ ⟨(env.cells.lookup x).getD 0, by rw [List.lookup_cons]; simp⟩
    · split
      · exact clOf_has r _ h
      · exact clOf_has r acc h
private theorem relabel_mem {scope : Scope} {env : Env} {x : Str} {k : NameKind} (hc : ∀ y ∈ scope.names, y.2 ≠ .cell) (hk : k = .cell ∨ k = .free) (h : (relabel scope env).names.lookup x = some k) : (x, NameKind.free) ∈ scope.names := by
  have h1 := PySem.mem_of_lookup h
  unfold relabel at h1
  obtain ⟨⟨n, k'⟩, hm, e⟩ := List.mem_map.mp h1
  dsimp only at e
  split at e
  · rename_i hq
    cases e
    rw [Bool.and_eq_true, Bool.and_eq_true] at hq
    have : k' = .free := by simpa using hq.1.1
    subst this
    exact hm
  · cases e
    rcases hk with rfl | rfl
    · exact absurd rfl (hc _ hm)
    · exact hm
noncomputable def cxComp (X : Cx) (pins : List (Addr × Obj)) (s2 : Shared) (H2 : Hp) (N : List Str) (scope : Scope) (C : Addr) (fp : List Addr) : Cx :=
  { X with N := N, s₀ := s2, H₀ := H2, env := compEnvC scope (clOf X.env scope.names []) C X.env, outer := X.stack, stack := X.stack, ex := fp, fn := fun _ => false, pn := X.pn ++ pins, xe := fun _ _ => False }
noncomputable def ini (src : List (Option Nat)) (σ : S) : S := src.map fun o => o.bind fun j => (σ[j]?).join
structure CompOk (X : Cx) (scope : Scope) (N : List Str) (src : List (Option Nat)) : Prop where
  kind : scope.kind = .function
  names : ∀ x ∈ scope.names, x.2 = .local → scope.names.lookup x.1 = some .local
  ncell : ∀ y ∈ scope.names, y.2 ≠ .cell
  clos : (scope.names.all fun y => y.2 != .free || (X.env.cells.lookup y.1).isSome) = true
  len : src.length = N.length
  free : ∀ (i : Nat) (x : Str) (j : Nat), N[i]? = some x → src[i]? = some (some j) → X.N[j]? = some x ∧ Vis X.env.scope x ∧ X.env.scope.names.lookup x ≠ some .local ∧
    ((relabel scope X.env).names.lookup x = some .cell ∨ (relabel scope X.env).names.lookup x = some .free)
private theorem fpOk_stk {X : Cx} {pins : List (Addr × Obj)} {σ : S} {H H' : Hp} {s : Shared} {b : Addr} (I : Inv X pins σ H s) (h : FpOk X pins H' b) : b ∉ frs X.stack := fun z => by
  rcases List.mem_cons.mp (I.stkSub b z) with e | e
  · exact h.2.1 e
  · exact h.2.2.1 e
private theorem comp_inv {X : Cx} {pins : List (Addr × Obj)} {σ : S} {H : Hp} {s2 : Shared} {scope : Scope} {N : List Str} {src : List (Option Nat)} {fp : List Addr} (I : Inv X pins σ H s2) (ok : CompOk X scope N src) (hf : ∀ b ∈ fp, FpOk X pins H b) (hfo : ∀ b ∈ fp, ∃ o, s2.heap.get? b = some o)
    {D C : Addr} {h' : Heap} {t : Nat} (hD : s2.heap.objs.size ≤ D) (hC : s2.heap.objs.size ≤ C) (hCD : C ≠ D) (keep : ∀ b o, s2.heap.get? b = some o → h'.get? b = some o) (hns : h'.Ns C (fun _ => none)) (hnew : h'.get? D = some { cls := .type "list", data := .seq #[] }) :
    Inv (cxComp X pins s2 H N scope C fp) [] (ini src σ) (upd H D (.lst [])) { s2 with heap := h', toks := t } := by
  have hH : ∀ a, s2.heap.objs.size ≤ a → H a = none := fun a ha => I.hok.fresh ha
  have lt : ∀ {b : Addr} {o : Obj}, s2.heap.get? b = some o → b < s2.heap.objs.size := fun e => Heap.lt_size e
  have cl_of : ∀ x c, (clOf X.env scope.names []).lookup x = some c → X.env.cells.lookup x = some c := fun x c e => clOf_lookup scope.names [] ok.clos (fun c z => by simp at z) e
  have hlk : HOk X.prog X.w (upd H D (.lst [])) h' := I.hok.laid keep hD ⟨Nat.zero_le _, [], 0, .nil, hnew⟩
  have un : Un (frs X.stack) fp H (upd H D (.lst [])) s2.heap h' := Un.laid keep hD (hH D hD)
  obtain ⟨m0, hn0, hl0⟩ := I.loc
  refine ⟨⟨I.ok.mod, ?_, I.ok.glob, I.ok.blt, hC, fun x y c e1 e2 => I.ok.inj x y c (cl_of x c e1) (cl_of y c e2), fun x hx => ?_, fun x c z => ?_, I.ok.hd, I.ok.frames, .inl rfl, fun b hb => ⟨?_, fun x c e => ?_⟩, I.bs, Nat.le_trans I.ok.bsz I.sz, fun b o e hb => ?_, fun b hb => fpOk_stk I (hf b hb), I.stack, I.stkFree⟩,
    rfl, I.bare, un, ⟨_, hns, fun i x v e1 e2 e3 => ?_⟩, fun x c e => ?_, ?_, fun x c e => ?_, fun p hp => ?_, hlk, ?_⟩
  · exact ok.kind
  · obtain ⟨k, hk, hx⟩ : ∃ k, (k = NameKind.cell ∨ k = .free) ∧ (relabel scope X.env).names.lookup x = some k := by
      rcases hx with hx | hx
      · exact ⟨_, .inl rfl, hx⟩
      · exact ⟨_, .inr rfl, hx⟩
    exact clOf_has _ _ (relabel_mem ok.ncell hk hx)
  · exact absurd z (by simp [cxComp])
  · obtain ⟨o, e⟩ := hfo b hb
    intro z
    have z' : b = C := z
    subst z'
    exact Nat.lt_irrefl _ (Nat.lt_of_lt_of_le (lt e) hC)
  · intro z
    exact (hf b hb).2.2.2.2.1 x c (cl_of x c e) z
  · obtain ⟨f0, f1, f2, f3, f4, f5⟩ := hf b hb
    rcases f3 with z | z
    · exact I.ok.noex b o e z
    · exact absurd (Nat.lt_of_lt_of_le (Heap.lt_size (I.ok.bs b o e).1) z) (Nat.lt_irrefl _)
  · have hj : ∃ j, src[i]? = some (some j) ∧ σ[j]? = some (some v) := by
      unfold ini at e2
      rw [List.getElem?_map] at e2
      cases q : src[i]? with
      | none => rw [q] at e2; simp at e2
      | some oj =>
        cases oj with
        | none => rw [q] at e2; simp at e2
        | some j =>
          rw [q] at e2
          simp only [Option.map_some, Option.bind_some, Option.some.injEq] at e2
          refine ⟨j, rfl, ?_⟩
          cases q2 : σ[j]? with
          | none => rw [q2] at e2; simp at e2
          | some ov => rw [q2] at e2; simp only [Option.join_some] at e2; rw [e2]
    obtain ⟨j, hj1, hj2⟩ := hj
    obtain ⟨g1, g2, g3, g4⟩ := ok.free i x j e1 hj1
    obtain ⟨u, ru, lk⟩ := hl0 j x v g1 hj2 g2
    refine ⟨u, ru, ?_⟩
    rcases lk with ⟨hk, _⟩ | ⟨hk, c, hc, hcell⟩
    · exact absurd hk g3
    · obtain ⟨k, hk1, hk2⟩ : ∃ k, (k = NameKind.cell ∨ k = .free) ∧ (relabel scope X.env).names.lookup x = some k := by
        rcases g4 with hx | hx
        · exact ⟨_, .inl rfl, hx⟩
        · exact ⟨_, .inr rfl, hx⟩
      obtain ⟨c', hc'⟩ := clOf_has (env := X.env) scope.names [] (relabel_mem ok.ncell hk1 hk2)
      have ec := cl_of x c' hc'
      rw [hc] at ec
      cases ec
      refine .inr ⟨?_, c, hc', ?_⟩
      · rcases g4 with hx | hx
        · exact .inl hx
        · exact .inr hx
      · obtain ⟨o, ho, hd⟩ := hcell
        exact ⟨o, keep c o ho, hd⟩
  · obtain ⟨v, o, ho, hd⟩ := I.cell x c (cl_of x c e)
    exact ⟨v, o, keep c o ho, hd⟩
  · show upd H D (.lst []) C = none
    rw [upd_ne hCD]
    exact hH C hC
  · obtain ⟨v, o, ho, hd⟩ := I.cell x c (cl_of x c e)
    rw [upd_ne (Nat.ne_of_lt (Nat.lt_of_lt_of_le (lt ho) hD))]
    exact I.freeC x c (cl_of x c e)
  · have hp' : p ∈ X.pn ++ pins := by
      have : p ∈ (X.pn ++ pins) ++ [] := hp
      simpa using this
    obtain ⟨q1, q2, q3, q4, q5⟩ := I.pin p hp'
    refine ⟨keep _ _ q1, ?_, ?_, fun z => ?_, q5⟩
    · rw [upd_ne (Nat.ne_of_lt (Nat.lt_of_lt_of_le (lt q1) hD))]; exact q2
    · show p.1 ≠ C
      exact Nat.ne_of_lt (Nat.lt_of_lt_of_le (lt q1) hC)
    · have z' : p.1 ∈ frs X.stack := z
      rcases List.mem_cons.mp (I.stkSub _ z') with e | e
      · exact q3 e
      · exact q4 e
  · show (ini src σ).length = N.length
    unfold ini
    rw [List.length_map]
    exact ok.len
private theorem fp_sub {X : Cx} {pins : List (Addr × Obj)} {σ : S} {H Hc : Hp} {s2 : Shared} {scope : Scope} {N : List Str} {C : Addr} {fp : List Addr} (I : Inv X pins σ H s2) (hf : ∀ b ∈ fp, FpOk X pins H b) (hfo : ∀ b ∈ fp, ∃ o, s2.heap.get? b = some o) (hC : s2.heap.objs.size ≤ C)
    (clos : (scope.names.all fun y => y.2 != .free || (X.env.cells.lookup y.1).isSome) = true) (hn : ∀ b ∈ fp, Hc b = none) : ∀ b ∈ fp, FpOk (cxComp X pins s2 H N scope C fp) [] Hc b := fun b hb => by
  obtain ⟨o, e⟩ := hfo b hb
  refine ⟨hn b hb, Nat.ne_of_lt (Nat.lt_of_lt_of_le (Heap.lt_size e) hC), fpOk_stk I (hf b hb), .inl hb, fun x c q => ?_, fun p hp => ?_⟩
  · exact (hf b hb).2.2.2.2.1 x c (clOf_lookup scope.names [] clos (fun c z => by simp at z) q)
  · have hp' : p ∈ X.pn ++ pins := by
      have : p ∈ (X.pn ++ pins) ++ [] := hp
      simpa using this
    exact (hf b hb).2.2.2.2.2 p hp'
private theorem comp_out {X : Cx} {pins : List (Addr × Obj)} {σ σc : S} {H Hc : Hp} {s2 s' : Shared} {scope : Scope} {N : List Str} {C : Addr} {fp : List Addr} {pl : List (Addr × Obj)} (I : Inv X pins σ H s2) (hf : ∀ b ∈ fp, FpOk X pins H b)
    (J : Inv (cxComp X pins s2 H N scope C fp) pl σc Hc s') : Inv X pins σ Hc s' :=
  I.call' (ch := fp) J.os J.base J.hok J.bare fun b hb => by
    obtain ⟨f0, f1, f2, f3, f4, f5⟩ := hf b hb
    exact ⟨f3, f1, f4, f5⟩
noncomputable def CompG (J : It) (g : TG) (tc : TT) (te : TE) (D : Addr) (σ : S) (H : Hp) (R : Hp → Prop) : Prop := ∃ W : Nat → Nat → S → Hp → Prop, (∃ m, W 0 m σ H) ∧ ∀ i m σ2 H2, W i m σ2 H2 →
  (J.stop i H2 ∧ R H2) ∨ (J.go i H2 ∧ ∃ N : S → Hp → Prop, (∀ σ' H', N σ' H' → ∃ m', m' < m ∧ W (i + 1) m' σ' H') ∧ ∀ x H3, J.yld i H2 x H3 → g x σ2 H3 fun σ4 H4 => tc σ4 H4 fun b H5 =>
    if b = true then te σ4 H5 fun y H6 => ∃ ys, H6 D = some (.lst ys) ∧ ys.length < sizeLine ∧ N σ4 (upd H6 D (.lst (ys ++ [y]))) else N σ4 H5)
noncomputable def tComp (wi : TI) (g : TG) (tc : TT) (te : TE) (src : List (Option Nat)) : TE := fun σ H Q => wi σ H fun J H1 => ∀ D, H1 D = none → CompG J g tc te D (ini src σ) (upd H1 D (.lst [])) (Q (.ref D))
noncomputable def tYes : TT := fun _ H Q => Q true H
noncomputable def PIfs (X : Cx) (ifs : List Expr) (t : TT) : Prop :=
  ∀ (pins : List (Addr × Obj)) (s : Shared) (σ : S) (H : Hp) (Q : Bool → Hp → Prop), Inv X pins σ H s → t σ H Q →
    wpAny (model X.prog X.w) X.A (forIn ifs true fun c r => if r = true then do let ok ← isTrue c X.env (eval c X.env); pure (ForInStep.yield ok) else pure (ForInStep.yield r)) (TP X pins σ Q) X.xe s
private theorem ifs_nil {X : Cx} : PIfs X [] tYes := fun _ _ _ H _ I h => wpAny_tests_nil ⟨H, I, h⟩
private theorem ifs_one {X : Cx} {c : Expr} {t : TT} (h : PT X c t) : PIfs X [c] t := fun pins s σ H Q I q => wpAny_tests_one (h pins s σ H Q I q)
private theorem comp_core {X : Cx} {pins : List (Addr × Obj)} {σ : S} {H2 : Hp} {s2 : Shared} {scope : Scope} {N : List Str} {src : List (Option Nat)} {fp : List Addr} {it : Addr} {tn : Nat → Heap → Prop} {J : It} {tg elt iter : Expr} {ifs : List Expr} {pos : Pos} {g : TG} {tc : TT} {te : TE} {Q : VK}
    {E : Value → Shared → Prop} {RR : Value → Addr → Result → Shared → Prop}
    (ok : CompOk X scope N src) (hcalm : X.calm = true) (I : Inv X pins σ H2 s2) (T : Turn X.prog X.w X.K tg J fp it tn) (st : tn 0 s2.heap) (hf : ∀ b ∈ fp, FpOk X pins H2 b)
    (hg : ∀ C, PG (cxComp X pins s2 H2 N scope C fp) tg g) (hc : ∀ C, PIfs (cxComp X pins s2 H2 N scope C fp) ifs tc) (he : ∀ C, PE (cxComp X pins s2 H2 N scope C fp) elt te)
    (h : ∀ D, H2 D = none → CompG J g tc te D (ini src σ) (upd H2 D (.lst [])) (Q (.ref D)))
    (hRR : ∀ D C s' H', FpOk X pins H' C → (∃ m, s'.heap.Ns C m) → Inv X pins σ H' s' → Q (.ref D) H' → RR (.ref D) C (.ok .next) s') :
    wpAny (model X.prog X.w) X.A (newList []) (fun acc s3 => wpAny (model X.prog X.w) X.A (newFunctionEnv scope X.env.globals (clOf X.env scope.names []) [] X.env.qual none .none (some X.env)) (fun cenv s4 =>
      codeAny (model X.prog X.w) X.A (.compStart (.ListComp elt [⟨tg, iter, ifs, 0⟩] scope pos) 0 (.ref it) acc { cenv with scope := relabel scope X.env }) (RR acc cenv.locals) s4) E s3) E s2 := by
  refine wpAny_newObj_type (wpAny_newFunctionEnv ok.ncell (by intro y hy; simp at hy) (fun h1 hns1 hsb1 => ?_) ok.kind)
  have hfo : ∀ b ∈ fp, ∃ o, s2.heap.get? b = some o := fun b hb => let ⟨o, e, _⟩ := T.obj 0 _ st b hb; ⟨o, e⟩
  have hpush : (s2.heap.push { cls := .type "list", dict := none, data := .seq ([] : List Value).toArray }).objs.size = s2.heap.objs.size + 1 := Heap.size_push ..
  generalize hH : s2.heap.push { cls := .type "list", dict := none, data := .seq ([] : List Value).toArray } = hp at hns1 hsb1 hpush ⊢
  dsimp only at hns1 hsb1 ⊢
  have hD : s2.heap.objs.size ≤ s2.heap.objs.size := Nat.le_refl _
  have hC : s2.heap.objs.size ≤ hp.objs.size := by rw [hpush]; exact Nat.le_succ _
  have hCD : hp.objs.size ≠ s2.heap.objs.size := by rw [hpush]; exact Nat.succ_ne_self _
  have keep : ∀ b o, s2.heap.get? b = some o → h1.get? b = some o := fun b o e =>
    hsb1.extBut b o (Nat.ne_of_lt (Nat.lt_of_lt_of_le (Heap.lt_size e) hC)) (Heap.get?_push_of_some _ (hH ▸ Heap.get?_push_of_some _ e))
  have hnew : h1.get? s2.heap.objs.size = some { cls := .type "list", data := .seq #[] } :=
    hsb1.extBut _ _ (Ne.symm hCD) (Heap.get?_push_of_some _ (hH ▸ Heap.get?_push_size _ rfl))
  have hHD : H2 s2.heap.objs.size = none := I.hok.fresh hD
  obtain ⟨W, ⟨m0, w0⟩, turn⟩ := h _ hHD
  have I0 := comp_inv (t := s2.toks + ([] : List (Str × Value)).length) I ok hf hfo hD hC hCD keep hns1 hnew
  have f0 : ∀ b ∈ fp, upd H2 s2.heap.objs.size (.lst []) b = none := fun b hb => by
    obtain ⟨o, e⟩ := hfo b hb
    rw [upd_ne (Nat.ne_of_lt (Heap.lt_size e))]
    exact (hf b hb).1
  have st0 : tn 0 h1 := T.keep 0 _ _ st fun b _ o e => keep b o e
  have loop : codeAny (model X.prog X.w) X.A (.compLoop (.ListComp elt [⟨tg, iter, ifs, 0⟩] scope pos) 0 (.ref it) (.ref s2.heap.objs.size) (compEnvC scope (clOf X.env scope.names []) hp.objs.size X.env))
      (RR (.ref s2.heap.objs.size) hp.objs.size) { s2 with heap := h1, toks := s2.toks + ([] : List (Str × Value)).length } := by
    refine comp_loop (fun n s => ∃ i σc Hc, Inv (cxComp X pins s2 H2 N scope hp.objs.size fp) [] σc Hc s ∧ tn i s.heap ∧ (∀ b ∈ fp, Hc b = none) ∧ W i n σc Hc) ?_ m0 ⟨0, _, _, I0, st0, f0, w0⟩
    rintro n s3 ⟨i, σ3, H3, I3, st3, fr3, w3⟩
    have fps := fun {Hc : Hp} (hn : ∀ b ∈ fp, Hc b = none) => fp_sub (N := N) I hf hfo hC ok.clos hn
    rcases turn i n σ3 H3 w3 with ⟨stop, qn⟩ | ⟨go, NN, hNN, step⟩
    · refine wpAny_mono (T.done (cxComp X pins s2 H2 N scope hp.objs.size fp) rfl rfl rfl hcalm i [] s3 σ3 H3 (fun _ _ => False) I3 (fps fr3) st3 stop) (fun r s4 h4 => ?_) fun _ _ z => z
      obtain ⟨rfl, I4⟩ := h4
      have J4 := comp_out I hf I4
      obtain ⟨m4, n4, _⟩ := I4.loc
      exact hRR _ _ s4 H3 (I.fpOk hC I4.free) ⟨m4, n4⟩ J4 qn
    · refine wpAny_mono (T.item (cxComp X pins s2 H2 N scope hp.objs.size fp) rfl rfl rfl hcalm i [] s3 σ3 H3 (fun _ _ => False) I3 (fps fr3) st3 go) (fun r s4 h4 => ?_) fun _ _ z => z
      obtain ⟨u, rfl, h4⟩ := h4
      refine wpAny_mono h4 (fun _ s5 h5 => ?_) fun _ _ z => z
      obtain ⟨x, H5, I5, r5, y5, st5, fr5⟩ := h5
      have I5' := I5.pinned (fps fr5) (T.obj _ _ st5)
      refine wpAny_mono (hg hp.objs.size _ s5 σ3 H5 x u _ I5' r5 (step x H5 y5)) (fun _ s6 h6 => ?_) fun _ _ z => z
      obtain ⟨σ6, H6, I6, q6⟩ := h6
      refine wpAny_mono (hc hp.objs.size _ s6 σ6 H6 _ I6 q6) (fun b s7 h7 => ?_) fun _ _ z => z
      obtain ⟨H7, I7, q7⟩ := h7
      have again : ∀ {s8 : Shared} {H8 : Hp}, Inv (cxComp X pins s2 H2 N scope hp.objs.size fp) ([] ++ pinsAt fp s5.heap) σ6 H8 s8 → NN σ6 H8 → ∃ m, m < n ∧ ∃ i σc Hc, Inv (cxComp X pins s2 H2 N scope hp.objs.size fp) [] σc Hc s8 ∧ tn i s8.heap ∧ (∀ b ∈ fp, Hc b = none) ∧ W i m σc Hc := fun {s8 H8} I8 q8 => by
        obtain ⟨m', hm, w8⟩ := hNN _ _ q8
        refine ⟨m', hm, i + 1, σ6, H8, I8.unpinned, T.keep _ _ _ st5 fun b hb o e => (I8.pin (b, o) (List.mem_append_right _ (List.mem_append_right _ (mem_pinsAt hb e)))).1, fun b hb => ?_, w8⟩
        obtain ⟨o, e, d⟩ := T.obj _ _ st5 b hb
        exact (I8.pin (b, o) (List.mem_append_right _ (List.mem_append_right _ (mem_pinsAt hb e)))).2.1
      cases b with
      | false =>
        rw [if_neg Bool.false_ne_true] at q7 ⊢
        exact again I7 q7
      | true =>
        rw [if_pos rfl] at q7 ⊢
        refine wpAny_mono (he hp.objs.size _ s7 σ6 H7 _ I7 q7) (fun yv s8 h8 => ?_) fun _ _ z => z
        obtain ⟨y, H8, I8, r8, ys, hys, hz, q8⟩ := h8
        refine wpAny_mono (mt_append (X := cxComp X pins s2 H2 N scope hp.objs.size fp) _ s8 σ6 H8 (.ref s2.heap.objs.size) [y] _ [yv] (fun _ H9 => NN σ6 H9) I8 rfl (.cons r8 .nil) ⟨_, ys, y, rfl, rfl, hys, hz, q8⟩) (fun _ s9 h9 => ?_) fun _ _ z => z
        obtain ⟨_, H9, I9, _, q9⟩ := h9
        exact again I9 q9
  exact codeAny_compStart_list loop (T.self _ _ _ _ _ st0 loop)
private theorem pe_comp {X : Cx} {scope : Scope} {tg elt iter : Expr} {ifs : List Expr} {pos : Pos} {wi : TI} {g : TG} {tc : TT} {te : TE} (N : List Str) (src : List (Option Nat)) (ok : CompOk X scope N src) (hcalm : X.calm = true) (hi : PI X tg iter wi)
    (hg : ∀ pins s2 H2 C fp, PG (cxComp X pins s2 H2 N scope C fp) tg g) (hc : ∀ pins s2 H2 C fp, PIfs (cxComp X pins s2 H2 N scope C fp) ifs tc) (he : ∀ pins s2 H2 C fp, PE (cxComp X pins s2 H2 N scope C fp) elt te)
    (hs : ∀ x, foldedSetIterable iter X.env x = pure x := by intro _; rfl) : PE X (.ListComp elt [⟨tg, iter, ifs, 0⟩] scope pos) (tComp wi g tc te src) := by
  intro pins s σ H Q I h
  rw [eval_ListComp]
  refine wpAny_comprehension_free (use := none) rfl hs (closure_of ok.clos) ok.kind ok.names (wpAny_mono (hi pins s σ H _ I h) (fun xv s1 h1 => wpAny_mono h1 (fun itv s2 h2 => ?_) fun _ _ e => e) fun _ _ e => e)
  obtain ⟨it, fp, tn, J, H2, rfl, I2, T, st2, f2, hh⟩ := h2
  refine comp_core (RR := fun acc C => compPost (model X.prog X.w) X.A X.xe none (EP X pins σ Q) acc C) ok hcalm I2 T st2 f2 (fun C => hg pins s2 H2 C fp) (fun C => hc pins s2 H2 C fp) (fun C => he pins s2 H2 C fp) hh ?_
  intro D C s' H' fC hns I' q
  obtain ⟨m, hm⟩ := hns
  refine ⟨m, hm, fun h' hs' => ?_⟩
  obtain ⟨f0, f1, f2, f3, f4, f5⟩ := fC
  exact ⟨.ref D, H', I'.turned (t' := s'.toks) (fun b o hb e => hs'.extBut b o hb e) f0 f1 f3 f4 f5, rfl, q⟩
private theorem ps_setComp {X : Cx} {scope : Scope} {tg elt iter : Expr} {ifs : List Expr} {pos cpos pos' : Pos} {wi : TI} {g : TG} {tc : TT} {te : TE} {k : Nat} {x : Str} (hN : X.N.Nodup) (hk : X.N[k]? = some x) (hx : Loc X.env.scope x) (N : List Str) (src : List (Option Nat)) (ok : CompOk X scope N src) (hcalm : X.calm = true) (hi : PI X tg iter wi)
    (hg : ∀ pins s2 H2 C fp, PG (cxComp X pins s2 H2 N scope C fp) tg g) (hc : ∀ pins s2 H2 C fp, PIfs (cxComp X pins s2 H2 N scope C fp) ifs tc) (he : ∀ pins s2 H2 C fp, PE (cxComp X pins s2 H2 N scope C fp) elt te)
    (hsw : swapsWith (.ListComp elt [⟨tg, iter, ifs, 0⟩] scope cpos) (some (.Name x pos')) pos.line X.env = pure true := by rfl)
    (hs : ∀ x, foldedSetIterable iter X.env x = pure x := by intro _; rfl) (hfn : X.fn x = true ∨ X.env.scope.names.lookup x = some .local := by first | exact .inl rfl | exact .inr rfl | assumption) :
    PS X (.Assign [.Name x pos'] (.ListComp elt [⟨tg, iter, ifs, 0⟩] scope cpos) pos) (tAsg (tComp wi g tc te src) (gName k)) := by
  intro pins s σ H D I h
  rw [exec_Assign_Name_used _ _ _ _ hsw]
  refine wpAny_bind (wpAny_standAt (wpAny_bind ?_))
  show wpAny _ X.A (do let _ ← comprehension (.ListComp elt [⟨tg, iter, ifs, 0⟩] scope cpos) scope X.env _ (newList []) false (eval iter X.env) (some (assign (.Name x pos') X.env))) _ _ s
  refine wpAny_bind (wpAny_mono (wpAny_comprehension_free (use := some (assign (.Name x pos') X.env)) (Q := fun _ s' => SP X pins D .next s') rfl hs (closure_of ok.clos) ok.kind ok.names
    (wpAny_mono (hi pins s σ H _ I h) (fun xv s1 h1 => wpAny_mono h1 (fun itv s2 h2 => ?_) fun _ _ e => e) fun _ _ e => e)) (fun _ s' hq => wpAny_pure (wpAny_pure hq)) fun _ _ e => e)
  obtain ⟨it, fp, tn, J, H2, rfl, I2, T, st2, f2, hh⟩ := h2
  refine comp_core (Q := fun v H' => D.nx (σ.set k (some v)) H') (RR := fun acc C => compPost (model X.prog X.w) X.A X.xe (some (assign (.Name x pos') X.env)) (fun _ s' => SP X pins D .next s') acc C) ok hcalm I2 T st2 f2 (fun C => hg pins s2 H2 C fp) (fun C => hc pins s2 H2 C fp) (fun C => he pins s2 H2 C fp) hh ?_
  intro D' C s' H' fC hns I' q
  obtain ⟨m, hm⟩ := hns
  show wpAny _ X.A (assign (.Name x pos') X.env (.ref D')) _ _ _
  refine wpAny_assign_Name (store_ok2 I' hN hk hx (v := .ref D') rfl (fun s'' I'' ⟨a, hsa, ha⟩ => ?_) hfn)
  obtain ⟨f0, f1, f2, f3, f4, f5⟩ := fC
  have hCa : C ≠ a := by
    rcases ha with e | e
    · rw [e]; exact f1
    · exact Ne.symm (f4 x a e)
  refine ⟨m, hm.sameBut hsa hCa, fun h' hs' => ?_⟩
  exact ⟨_, H', I''.turned (t' := s''.toks) (fun b o hb e => hs'.extBut b o hb e) f0 f1 f3 f4 f5, q⟩
end L3
set_option Elab.async false
set_option linter.all false
set_option maxRecDepth 100000
namespace L3
open PySem PySem.Spec PyProof.Rows L2
structure Has (P : Program) (w : World) (K : PySem.W.Frag) (mg : Str → Option Value) (base : Heap) (CX : CXT) (k : Nat) (x : Str) (ps : List Str) (sp : Sp) : Prop where
  ex : ∃ f fd, FnOk P w K mg base CX k f fd ps sp ∧ Binds K fd ps [] ∧ PySem.W.keepIn K (.ref f) = true ∧ mg x = some (.ref f)
structure Def (K : PySem.W.Frag) (mg : Str → Option Value) (x : Str) (st : Stmt) (ps : List Str) : Prop where
  ex : ∃ f fd, Fun K x x st f fd ∧ Binds K fd ps [] ∧ mg x = some (.ref f)
private theorem Def.has {P : Program} {w : World} {K : PySem.W.Frag} {mg : Str → Option Value} {base : Heap} {k : Nat} {x : Str} {st : Stmt} {N ps : List Str} {sp : Sp} (F : Def K mg x st ps) (sc : FnScope N ps (defScope st)) (len : ∀ vs H Q E, sp vs H Q E → vs.length = ps.length)
    (hbody : ∀ (f : Addr) (cdv : Value) (A : Around) (outer : List Env) (s : Shared) (H : Hp) (vs : List V) (Q : VK) (E : XK), Room k (A.deeper (envOfC x (defScope st) s.heap.objs.size f cdv)) → sp vs H Q E →
      ∃ t, PSs (cxOf CX0 P w K mg base N x (defScope st) f cdv A outer s H E).nox (defBody st) t ∧ t { nx := fun _ H' => Q .non H', rt := Q } (start N vs) H) : Has P w K mg base CX0 (k + 1) x ps sp := by
  obtain ⟨f, fd, F1, b, m⟩ := F.ex
  exact ⟨f, fd, F1.ok sc len (fun cdv A outer s H vs Q E hr h => hbody f cdv A outer s H vs Q E hr h), b, F1.kp, m⟩
section
variable {X : Cx} {CX : CXT} {k : Nat} {ps : List Str} {sp : Sp} {E : XK} {x : Str} {p pos : Pos} {e : Expr} {es : List Expr} {t : TA}
private theorem pe_h (F : Has X.prog X.w X.K X.mg X.base CX k x ps sp) (hr : Room k X.A) (hg : Gl X x) (hx : Passes CX X E) (ha : PA X (e :: es) t) (hdb : (x == ("__debug__" : Str)) = false := by decide) (he : starEach (e :: es) X.env = (false, eval e X.env) :: starEach es X.env := by rfl) (hpl : (backTo pos (starEach es X.env)).any (·.1) = false := by rfl) :
    PE X (.Call (.Name x p) (e :: es) [] pos) (tCall sp [] E t) := by
  obtain ⟨f, fd, F1, b, kp, m⟩ := F.ex
  exact pe_call F1 hr hg m kp b .nil hx ha hdb he hpl
end
structure Bl (mg : Str → Option Value) : Prop where
  len : mg "len" = none
  abs : mg "abs" = none
  isinstance : mg "isinstance" = none
  tuple : mg "tuple" = none
  list : mg "list" = none
  int : mg "int" = none
  bool : mg "bool" = none
  str : mg "str" = none
  range : mg "range" = none
  zip : mg "zip" = none
  all : mg "all" = none
  any : mg "any" = none
  ValueError : mg "ValueError" = none
private theorem Same.new {H : Hp} {p : Addr} {o : HO} (h : H p = none) : Same H (upd H p o) := fun b u q => by rw [upd_ne (ne_of_none q h)]; exact q
private theorem upd_get {H : Hp} {p b : Addr} {o u : HO} (h : H p = none) (q : H b = some u) : upd H p o b = some u := by rw [upd_ne (ne_of_none q h)]; exact q
noncomputable def frD (q : Rat) : D := .tup [.int q.num, .int (q.den : Int)]
private theorem frD_eq (q r : Rat) : peq (frD q) (frD r) = decide (q = r) := by
  unfold frD
  simp only [peq, peqs, Bool.and_true]
  by_cases h : q = r
  · subst h; simp
  · have : ¬ (q.num = r.num ∧ q.den = r.den) := fun z => h (Rat.ext z.1 z.2)
    rw [decide_eq_false h, Bool.and_eq_false_iff]
    by_cases h1 : q.num = r.num
    · right
      rw [beq_eq_false_iff_ne]
      intro e
      exact this ⟨h1, by omega⟩
    · left
      rw [beq_eq_false_iff_ne]
      exact h1
noncomputable def SmR (n : Nat) (q : Rat) : Prop := Sm n q.num ∧ Sm n (q.den : Int)
private theorem SmR.mono {a b : Nat} {q : Rat} (h : SmR a q) (k : a ≤ b) : SmR b q := ⟨h.1.mono k, h.2.mono k⟩
private theorem den_pos (q : Rat) : (0 : Int) < (q.den : Int) := by have := q.den_nz; omega
private theorem den_ne (q : Rat) : (q.den : Int) ≠ 0 := by have := q.den_nz; omega
private theorem fr_num {a b : Int} (hb : b ≠ 0) : (Rat.divInt a b).num = a.fdiv (if b < 0 then -(Int.gcd a b : Int) else (Int.gcd a b : Int)) := by
  have h1 : (Int.gcd a b : Int) ∣ a := Int.gcd_dvd_left a b
  rw [Rat.num_divInt, Int.gcd_comm b a]
  split
  · rename_i h
    rw [Int.fdiv_eq_ediv_of_dvd (Int.neg_dvd.mpr h1), Int.ediv_neg, Int.sign_eq_neg_one_of_neg h, Int.neg_mul, Int.one_mul, Int.neg_ediv_of_dvd h1]
  · rename_i h
    rw [Int.fdiv_eq_ediv_of_dvd h1, Int.sign_eq_one_of_pos (by omega), Int.one_mul]
private theorem fr_den {a b : Int} (hb : b ≠ 0) : (((Rat.divInt a b).den : Nat) : Int) = b.fdiv (if b < 0 then -(Int.gcd a b : Int) else (Int.gcd a b : Int)) := by
  have h1 : (Int.gcd a b : Int) ∣ b := Int.gcd_dvd_right a b
  rw [Rat.den_divInt, if_neg hb, Int.gcd_comm b a]
  split
  · rename_i h
    rw [Int.fdiv_eq_ediv_of_dvd (Int.neg_dvd.mpr h1), Int.ediv_neg, Int.natCast_ediv, ← Int.neg_ediv_of_dvd h1]
    congr 1
    omega
  · rename_i h
    rw [Int.fdiv_eq_ediv_of_dvd h1, Int.natCast_ediv]
    congr 1
    omega
private theorem fr_den_le {a b : Int} (hb : b ≠ 0) : (Rat.divInt a b).den ≤ b.natAbs := by
  rw [Rat.den_divInt, if_neg hb]
  exact Nat.div_le_self _ _
private theorem fr_num_le {a b : Int} (hb : b ≠ 0) : (Rat.divInt a b).num.natAbs ≤ a.natAbs := by
  rw [Rat.num_divInt]
  have := Int.natAbs_ediv_le_natAbs (b.sign * a) (b.gcd a : Int)
  rw [Int.natAbs_mul] at this
  have h2 : b.sign.natAbs = 1 := by
    rw [Int.natAbs_sign]
    rw [if_neg hb]
  rw [h2, Nat.one_mul] at this
  exact this
private theorem fr_sm {n : Nat} {a b : Int} (hb : b ≠ 0) (ha : Sm n a) (hb' : Sm n b) : SmR n (Rat.divInt a b) :=
  ⟨ha.le (fr_num_le hb), hb'.le (by have := fr_den_le (a := a) hb; simpa using this)⟩
private theorem gcd_step (a b : Int) : Int.gcd b (a.fmod b) = Int.gcd a b := by
  rw [Int.fmod_def, Int.gcd_comm a b]
  have := Int.gcd_sub_mul_right_right b a (a.fdiv b)
  rw [Int.mul_comm] at this
  exact this
private theorem fmod_small {a b : Int} (h : b ≠ 0) : (a.fmod b).natAbs < b.natAbs := by
  by_cases hb : 0 < b
  · have h1 := Int.fmod_lt_of_pos a hb
    have h2 := Int.fmod_nonneg_of_pos a hb
    omega
  · have hb' : b < 0 := by omega
    have e : a.fmod b = -((-a).fmod (-b)) := by
      rw [Int.neg_fmod_neg]; omega
    have h1 := Int.fmod_lt_of_pos (-a) (b := -b) (by omega)
    have h2 := Int.fmod_nonneg_of_pos (-a) (b := -b) (by omega)
    omega
private theorem gcd_pos {a b : Int} (h : b ≠ 0) : 0 < Int.gcd a b := Int.gcd_pos_of_ne_zero_right a h
private theorem gcd_sm {n : Nat} {a b : Int} (hb : b ≠ 0) (h : Sm n b) : Sm n (Int.gcd a b : Int) := by
  refine h.le ?_
  have := Int.gcd_le_natAbs_right a hb
  simpa using this
private theorem iteN {c : Bool} {A B : Prop} (h : c = false) (k : B) : if c = true then A else B := by subst h; rw [if_neg Bool.false_ne_true]; exact k
private theorem iteY {c : Bool} {A B : Prop} (h : c = true) (k : A) : if c = true then A else B := by subst h; rw [if_pos rfl]; exact k
private theorem iteB {c : Bool} {A B : Prop} (h1 : c = true → A) (h2 : c = false → B) : if c = true then A else B := by
  cases c with
  | true => exact iteY rfl (h1 rfl)
  | false => exact iteN rfl (h2 rfl)
private theorem r_add (q r : Rat) : Rat.divInt (q.num * (r.den : Int) + r.num * (q.den : Int)) ((q.den : Int) * (r.den : Int)) = q + r := by
  rw [Rat.add_def', ← Int.natCast_mul]; rfl
private theorem r_mul (q r : Rat) : Rat.divInt (q.num * r.num) ((q.den : Int) * (r.den : Int)) = q * r := by
  rw [Rat.mul_def', ← Int.natCast_mul]; rfl
private theorem r_div (q r : Rat) (h : r.num ≠ 0) : Rat.divInt (q.num * (r.den : Int)) ((q.den : Int) * r.num) = q / r := by
  have h1 := Rat.num_divInt_den q
  have h2 := Rat.num_divInt_den r
  rw [Rat.divInt_eq_div] at *
  rw [Rat.intCast_mul, Rat.intCast_mul]
  have a1 : ((q.den : Int) : Rat) ≠ 0 := by have := q.den_nz; simpa using this
  have a2 : ((r.den : Int) : Rat) ≠ 0 := by have := r.den_nz; simpa using this
  have a3 : (r.num : Rat) ≠ 0 := by simpa using h
  conv => rhs; rw [← h1, ← h2]
  grind
private theorem r_lt (q r : Rat) : decide (q.num * (r.den : Int) < r.num * (q.den : Int)) = decide (q < r) := by
  congr 1
  rw [Rat.lt_iff]
private theorem sm_of {n : Nat} {i : Int} (h1 : -(2 ^ n : Int) < i) (h2 : i < (2 ^ n : Int)) : Sm n i := by
  unfold Sm
  have e : ((2 ^ n : Nat) : Int) = (2 ^ n : Int) := by simp
  omega
section
variable {X : Cx} {K : PySem.W.Frag}
end
end L3
set_option Elab.async false
set_option linter.all false
set_option maxRecDepth 100000
namespace L3
open PySem PySem.Spec PyProof.Rows L2
noncomputable def isCF : Option NameKind → Bool
  | some .cell => true
  | some .free => true
  | _ => false
private theorem isCF_or {o : Option NameKind} (h : isCF o = true) : o = some .cell ∨ o = some .free := by
  unfold isCF at h
  split at h
  · exact .inl rfl
  · exact .inr rfl
  · cases h
noncomputable def freeB (X : Cx) (scope : Scope) : List Str → List (Option Nat) → Bool
  | x :: N, o :: src => (match o with
      | none => true
      | some j => decide (X.N[j]? = some x) && isCF (X.env.scope.names.lookup x) && isCF ((relabel scope X.env).names.lookup x)) && freeB X scope N src
  | _, _ => true
private theorem free_of {X : Cx} {scope : Scope} : ∀ {N : List Str} {src : List (Option Nat)}, freeB X scope N src = true → ∀ (i : Nat) (x : Str) (j : Nat), N[i]? = some x → src[i]? = some (some j) → X.N[j]? = some x ∧ Vis X.env.scope x ∧ X.env.scope.names.lookup x ≠ some .local ∧
    ((relabel scope X.env).names.lookup x = some .cell ∨ (relabel scope X.env).names.lookup x = some .free)
  | [], _, _, i, x, j, h1, _ => by simp at h1
  | _ :: _, [], _, i, x, j, _, h2 => by simp at h2
  | y :: N, o :: src, h, 0, x, j, h1, h2 => by
    simp only [List.getElem?_cons_zero, Option.some.injEq] at h1 h2
    subst h1 h2
    rw [freeB, Bool.and_eq_true, Bool.and_eq_true, Bool.and_eq_true] at h
    obtain ⟨⟨⟨a, b⟩, c⟩, _⟩ := h
    refine ⟨of_decide_eq_true a, ?_, ?_, isCF_or c⟩
    · rcases isCF_or b with e | e
      · exact .inr (.inl e)
      · exact .inr (.inr e)
    · rcases isCF_or b with e | e <;> rw [e] <;> simp
  | y :: N, o :: src, h, i + 1, x, j, h1, h2 => by
    have h' : (_ && freeB X scope N src) = true := h
    rw [Bool.and_eq_true] at h'
    exact free_of h'.2 i x j (by simpa using h1) (by simpa using h2)
private theorem vals_bools : ∀ {bs : List Bool} {us : List Value}, Vals (bs.map V.bl) us → us = bs.map Value.bool
  | [], _, h => by cases h; rfl
  | b :: bs, _, h => by
    cases h with
    | cons r rr => cases r; rw [vals_bools rr]; rfl
private theorem smr_add {a b : Nat} {q r : Rat} (h : SmR a q) (k : SmR b r) : SmR (a + b + 1) (q + r) := by
  rw [← r_add]
  refine fr_sm (Int.mul_ne_zero (den_ne q) (den_ne r)) ?_ ?_
  · exact (h.1.mul k.2).add ((k.1.mul h.2).mono (by omega))
  · exact (h.2.mul k.2).mono (by omega)
private theorem smr_mul {a b : Nat} {q r : Rat} (h : SmR a q) (k : SmR b r) : SmR (a + b) (q * r) := by
  rw [← r_mul]
  exact fr_sm (Int.mul_ne_zero (den_ne q) (den_ne r)) (h.1.mul k.1) (h.2.mul k.2)
end L3
set_option Elab.async false
set_option linter.all false
set_option maxRecDepth 100000
namespace L3
open PySem PySem.Spec PyProof.Rows L2
section
variable {X : Cx}
private theorem vals_get_bl {bs : List Bool} {i : Nat} {v : Value} (h : (bs.map Value.bool)[i]? = some v) : ∃ b, bs[i]? = some b ∧ v = .bool b := by
  rw [List.getElem?_map] at h
  cases e : bs[i]? with
  | none => rw [e] at h; cases h
  | some b => rw [e] at h; injection h with h; exact ⟨b, rfl, h.symm⟩
noncomputable def rAll (K : PySem.W.Frag) : List V → Hp → VK → Prop := fun xs H Q => ∃ (p : Addr) (bs : List Bool), xs = [.ref p] ∧ SqL K H p (bs.map V.bl) ∧ Q (.bl (bs.all id)) H
private theorem call_all (hc : X.calm = true) : CallR X (.builtin "all") (rAll X.K) := by
  intro pins s σ H xs us Q I r h
  obtain ⟨p, bs, rfl, hq, q⟩ := h
  obtain ⟨u, rfl, rx⟩ := vals1 r
  cases rx
  obtain ⟨its, rv, pl, hz⟩ := I.list hq
  have hb := vals_bools rv
  subst hb
  have hl := pl.isList
  have hlt : p < s.heap.objs.size := by obtain ⟨_, e, _⟩ := hl; exact Heap.lt_size e
  refine call_all_walk (wpAny_pyIter_list hl ?_)
  refine ⟨s.heap.objs.size, [s.heap.objs.size, p], [s.heap.objs.size], (bs.map Value.bool).toArray.size, _, _, fun i => (bs[i]?).getD true, rfl, Walks.list (A := X.A.in1) (I.ok.hd hc) _ p (Nat.ne_of_lt hlt) (bs.map Value.bool).toArray,
    ⟨⟨_, Heap.get?_push_size _ rfl, rfl, rfl⟩, hl.push _⟩, fun i v s' Q' E' hP hQ => ?_, fun h' tk hk => ?_⟩
  · obtain ⟨b, e, rfl⟩ := vals_get_bl (bs := bs) (i := i) (v := v) (by simpa using hP)
    simp only [e, Option.getD_some] at hQ
    exact wpAny_truthy_bool hQ
  · have e : ((List.range (bs.map Value.bool).toArray.size).all fun i => (bs[i]?).getD true) = bs.all id := by
      rw [List.size_toArray, List.length_map]; exact LSm.range_all bs
    rw [e]
    exact ⟨.bl (bs.all id), H, I.kept (t' := tk) (LSm.kept_iter hk), rfl, q⟩
noncomputable def rAny (K : PySem.W.Frag) : List V → Hp → VK → Prop := fun xs H Q => ∃ (p : Addr) (bs : List Bool), xs = [.ref p] ∧ SqL K H p (bs.map V.bl) ∧ Q (.bl (bs.any id)) H
private theorem call_any (hc : X.calm = true) : CallR X (.builtin "any") (rAny X.K) := by
  intro pins s σ H xs us Q I r h
  obtain ⟨p, bs, rfl, hq, q⟩ := h
  obtain ⟨u, rfl, rx⟩ := vals1 r
  cases rx
  obtain ⟨its, rv, pl, hz⟩ := I.list hq
  have hb := vals_bools rv
  subst hb
  have hl := pl.isList
  have hlt : p < s.heap.objs.size := by obtain ⟨_, e, _⟩ := hl; exact Heap.lt_size e
  refine call_any_walk (wpAny_pyIter_list hl ?_)
  refine ⟨s.heap.objs.size, [s.heap.objs.size, p], [s.heap.objs.size], (bs.map Value.bool).toArray.size, _, _, fun i => (bs[i]?).getD false, rfl, Walks.list (A := X.A.in1) (I.ok.hd hc) _ p (Nat.ne_of_lt hlt) (bs.map Value.bool).toArray,
    ⟨⟨_, Heap.get?_push_size _ rfl, rfl, rfl⟩, hl.push _⟩, fun i v s' Q' E' hP hQ => ?_, fun h' tk hk => ?_⟩
  · obtain ⟨b, e, rfl⟩ := vals_get_bl (bs := bs) (i := i) (v := v) (by simpa using hP)
    simp only [e, Option.getD_some] at hQ
    exact wpAny_truthy_bool hQ
  · have e : ((List.range (bs.map Value.bool).toArray.size).any fun i => (bs[i]?).getD false) = bs.any id := by
      rw [List.size_toArray, List.length_map]; exact LSm.range_any bs
    rw [e]
    exact ⟨.bl (bs.any id), H, I.kept (t' := tk) (LSm.kept_iter hk), rfl, q⟩
end
section
variable {K : PySem.W.Frag}
end
noncomputable def cutD {α : Type} (xs : List α) (lo hi : Option Int) : List α := (xs.drop (HT.sIx xs.length 0 lo)).take (HT.sIx xs.length xs.length hi - HT.sIx xs.length 0 lo)
private theorem cut_to {α : Type} {xs : List α} {i : Int} (h0 : 0 ≤ i) : cutD xs none (some i) = xs.take i.toNat := by
  unfold cutD HT.sIx
  dsimp only
  rw [if_neg (by omega), List.drop_zero, Nat.sub_zero, List.take_eq_take_iff]
  omega
private theorem cut_from {α : Type} {xs : List α} {i : Int} (h0 : 0 ≤ i) : cutD xs (some i) none = xs.drop i.toNat := by
  unfold cutD HT.sIx
  dsimp only
  rw [if_neg (by omega)]
  by_cases h : i.toNat ≤ xs.length
  · rw [Nat.min_eq_left h, List.take_of_length_le (by rw [List.length_drop]; omega)]
  · rw [Nat.min_eq_right (by omega), List.drop_eq_nil_of_le (Nat.le_refl _), List.drop_eq_nil_of_le (by omega), List.take_nil]
section
variable {X : Cx} {pos : Pos} {es : List Expr} {t : TA}
end
end L3
set_option Elab.async false
set_option linter.all false
set_option maxRecDepth 100000
namespace L3
open PySem PySem.Spec PyProof.Rows L2
section
variable {X : Cx} {pins : List (Addr × Obj)} {σ : S} {H : Hp} {s : Shared} {h' : Heap}
private theorem turnedL {t' : Nat} {ch : List Addr} (I : Inv X pins σ H s) (k : ∀ b o, b ∉ ch → s.heap.get? b = some o → h'.get? b = some o) (hf : ∀ b ∈ ch, FpOk X pins H b) : Inv X pins σ H { s with heap := h', toks := t' } := by
  have nit : ∀ b u, H b = some u → b ∉ ch := fun b u e z => by rw [(hf b z).1] at e; cases e
  refine I.step (g' := s.gens) (d' := s.drawn) (ch := ch) (fun b hb => ?_) (fun b o _ _ hc e _ => k b o hc e) (fun b o _ _ hc e _ => ⟨o.slots, k b o hc e⟩) (fun _ _ _ _ n => n)
    (fun b o hc e => ⟨o, k b o hc e⟩) (fun _ _ e => e) (fun _ _ _ e => e) (fun b ps e => ⟨#[], by rw [e]; simp⟩) (fun m hm => ?_) (fun b u e => ?_) I.bare
  · obtain ⟨f0, f1, f2, f3, f4, f5⟩ := hf b hb
    exact ⟨f3, f1, f4, f5⟩
  · obtain ⟨o, es, ep, ho, r⟩ := hm
    exact ⟨o, es, ep, k _ o (fun z => (hf _ z).2.1 rfl) ho, r⟩
  · refine (I.hok b u e).stay (fun c v hc q => k c v ?_ q) (fun _ q => q) fun _ _ q => q
    rcases hc with z | z
    · rw [z]; exact nit b u e
    · exact nit c _ z
private theorem turnedT {t' : Nat} {ch : List Addr} {T : Addr} {xs : List V} {us : List Value} (I : Inv X pins σ H s) (k : ∀ b o, b ∉ ch → s.heap.get? b = some o → h'.get? b = some o) (hf : ∀ b ∈ ch, FpOk X pins H b) (hT : s.heap.objs.size ≤ T) (hz : xs.length ≤ sizeLine) (r : Vals xs us) (ht : IsTup h' T us.toArray) :
    Inv X pins σ (upd H T (.tup xs)) { s with heap := h', toks := t' } := by
  have nit : ∀ b u, H b = some u → b ∉ ch := fun b u e z => by rw [(hf b z).1] at e; cases e
  have nT : H T = none := I.hok.fresh hT
  have neT : ∀ {b : Addr} {o : Obj}, s.heap.get? b = some o → b ≠ T := fun e z => by subst z; exact Nat.lt_irrefl _ (Nat.lt_of_lt_of_le (Heap.lt_size e) hT)
  refine I.step (g' := s.gens) (d' := s.drawn) (ch := ch) (fun b hb => ?_) (fun b o _ _ hc e _ => k b o hc e) (fun b o _ _ hc e _ => ⟨o.slots, k b o hc e⟩) (fun b o _ e n => by rw [upd_ne (neT e)]; exact n)
    (fun b o hc e => ⟨o, k b o hc e⟩) (fun b xs e => upd_get nT e) (fun b o u e => upd_get nT e) (fun b ps e => ⟨#[], by rw [upd_get nT e]; simp⟩) (fun m hm => ?_) (fun b u e => ?_) I.bare
  · obtain ⟨f0, f1, f2, f3, f4, f5⟩ := hf b hb
    exact ⟨f3, f1, f4, f5⟩
  · obtain ⟨o, es, ep, ho, r⟩ := hm
    exact ⟨o, es, ep, k _ o (fun z => (hf _ z).2.1 rfl) ho, r⟩
  · by_cases z : b = T
    · subst z
      rw [upd_same] at e
      cases e
      exact ⟨hz, us, r, ht⟩
    · rw [upd_ne z] at e
      refine (I.hok b u e).stay (fun c v hc q => k c v ?_ q) (fun c q => upd_get nT q) fun c _ q => upd_get nT q
      rcases hc with z | z
      · rw [z]; exact nit b u e
      · exact nit c _ z
end
noncomputable def Itz (K : PySem.W.Frag) (a b : Addr) : It :=
  ⟨fun i H => ∃ xs ys x y, SqL K H a xs ∧ SqL K H b ys ∧ xs[i]? = some x ∧ ys[i]? = some y,
   fun i H v H' => ∃ p x y, v = .ref p ∧ H p = none ∧ H' = upd H p (.tup [x, y]) ∧ (∀ xs, SqL K H a xs → xs[i]? = some x) ∧ ∀ ys, SqL K H b ys → ys[i]? = some y,
   fun i H => ∃ xs ys, SqL K H a xs ∧ SqL K H b ys ∧ (xs.length ≤ i ∨ ys.length ≤ i)⟩
noncomputable def ZipSt (a b z TI TO i1 i2 : Addr) (i : Nat) (h : Heap) : Prop := IsZip h z TI TO .none ∧ IsPair h TI (.ref i1) (.ref i2) ∧ (∃ u v, IsPair h TO u v) ∧ h.IsListIter i1 a i ∧ h.IsListIter i2 b i
private theorem turn_zip {P : Program} {w : World} {K : PySem.W.Frag} {elts : List Expr} {k : Nat} {pos : Pos} {a b z TI TO i1 i2 : Addr} (D : ZipApart z TI TO i1 i2 a b) : Turn P w K (.Tuple elts k pos) (Itz K a b) [z, TI, TO, i1, i2] z (ZipSt a b z TI TO i1 i2) where
  mem := by simp
  obj := fun i h st b' hb => by
    obtain ⟨h1, h2, ⟨u, v, h3⟩, h4, h5⟩ := st
    simp only [List.mem_cons, List.not_mem_nil, or_false] at hb
    rcases hb with rfl | rfl | rfl | rfl | rfl
    · exact ⟨_, h1, fun v z => by cases z⟩
    · exact ⟨_, h2, fun v z => by cases z⟩
    · exact ⟨_, h3, fun v z => by cases z⟩
    · obtain ⟨o, e, c, d⟩ := h4
      exact ⟨o, e, fun v z => by rw [d] at z; cases z⟩
    · obtain ⟨o, e, c, d⟩ := h5
      exact ⟨o, e, fun v z => by rw [d] at z; cases z⟩
  keep := fun i h h' st kp => by
    obtain ⟨h1, h2, ⟨u, v, h3⟩, h4, h5⟩ := st
    exact ⟨kp z (by simp) _ h1, kp TI (by simp) _ h2, ⟨u, v, kp TO (by simp) _ h3⟩, h4.at fun o e => kp i1 (by simp) o e, h5.at fun o e => kp i2 (by simp) o e⟩
  item := by
    intro X hP hw hK hc i pins s σ H E I hf st hg
    subst hP hw hK
    obtain ⟨xs, ys, x, y, hqa, hqb, hx, hy⟩ := hg
    obtain ⟨ia, ra, pa, za⟩ := I.list hqa
    obtain ⟨ib, rb, pb, zb⟩ := I.list hqb
    obtain ⟨u, hu, ru⟩ := ra.get hx
    obtain ⟨v, hv, rv⟩ := rb.get hy
    obtain ⟨h1, h2, ⟨t1, t2, h3⟩, h4, h5⟩ := st
    have h40 := h4
    have h50 := h5
    obtain ⟨o4, e4, _⟩ := h40
    obtain ⟨o5, e5, _⟩ := h50
    refine wpAny_pyNext_zip_item D h1 h2 h3 h4 h5 pa.isList pb.isList (x := u) (y := v) (by simpa using hu) (by simpa using hv) fun h' g1 g2 g3 g4 g5 g6 g7 => ?_
    refine ⟨_, rfl, wpAny_letOwnedTupleGo_zip g1 fun h'' k1 k2 => ?_⟩
    have nz : s.heap.objs.size ≠ z := fun e => Nat.lt_irrefl _ (by have := Heap.lt_size h1; rw [← e] at this; exact this)
    have kA : ∀ b o, b ∉ [z, TI, TO, i1, i2] → s.heap.get? b = some o → h''.get? b = some o := fun b o hb e => by
      simp only [List.mem_cons, List.not_mem_nil, or_false, not_or] at hb
      exact k2.extBut b o hb.1 (g7 b o hb.1 hb.2.2.1 hb.2.2.2.1 hb.2.2.2.2 e)
    have I2 : Inv X pins σ (upd H s.heap.objs.size (.tup [x, y])) { s with heap := h'' } :=
      turnedT (t' := s.toks) (xs := [x, y]) (us := [u, v]) I kA hf (Nat.le_refl _) (by show 2 ≤ sizeLine; decide) (.cons ru (.cons rv .nil)) ⟨_, k2.extBut _ _ nz g5, rfl, _, rfl⟩
    refine ⟨.ref s.heap.objs.size, _, I2, rfl, ⟨_, x, y, rfl, I.fresh, rfl, fun zs hz => by rw [I.list_inj hz hqa]; exact hx, fun zs hz => by rw [I.list_inj hz hqb]; exact hy⟩, ⟨k1, ?_, ⟨_, _, k2.extBut _ _ D.TOz g2⟩, ?_, ?_⟩, fun b hb => ?_⟩
    · exact k2.extBut _ _ D.TIz (g7 _ _ D.TIz D.TITO D.TIi1 D.TIi2 h2)
    · exact g3.at fun o e => k2.extBut _ o D.i1z e
    · exact g4.at fun o e => k2.extBut _ o D.i2z e
    · rw [upd_ne]
      · exact (hf b hb).1
      · intro e
        simp only [List.mem_cons, List.not_mem_nil, or_false] at hb
        have lt : ∀ {c : Addr} {o : Obj}, s.heap.get? c = some o → c ≠ s.heap.objs.size := fun h => Nat.ne_of_lt (Heap.lt_size h)
        rcases hb with rfl | rfl | rfl | rfl | rfl
        · exact lt h1 e
        · exact lt h2 e
        · exact lt h3 e
        · exact lt e4 e
        · exact lt e5 e
  done := by
    intro X hP hw hK hc i pins s σ H E I hf st hg
    subst hP hw hK
    obtain ⟨xs, ys, hqa, hqb, hend⟩ := hg
    obtain ⟨ia, ra, pa, za⟩ := I.list hqa
    obtain ⟨ib, rb, pb, zb⟩ := I.list hqb
    obtain ⟨h1, h2, ⟨t1, t2, h3⟩, h4, h5⟩ := st
    have la := ra.length
    have lb := rb.length
    refine wpAny_pyNext_zip_end (I.ok.hd hc) D h1 h2 h3 h4 h5 pa.isList pb.isList ?_ fun h' kk => ⟨rfl, turnedL (t' := s.toks) I (fun b o hb e => ?_) hf⟩
    · rcases hend with e | e
      · left; simp; omega
      · right; simp; omega
    · simp only [List.mem_cons, List.not_mem_nil, or_false, not_or] at hb
      exact kk b o hb.1 hb.2.2.1 hb.2.2.2.1 hb.2.2.2.2 e
  self := fun _ _ _ _ _ st h => wpAny_pyIter_zip st.1 h
section
variable {X : Cx} {tg : Expr}
noncomputable def iZip (K : PySem.W.Frag) (ta : TA) : TI := fun σ H R => ta σ H fun vs H1 => ∃ a b, vs = [.ref a, .ref b] ∧ (∃ xs, SqL K H1 a xs) ∧ (∃ ys, SqL K H1 b ys) ∧ R (Itz K a b) H1
private theorem pi_zip {a b : Expr} {ta : TA} {p pos tpos : Pos} {elts : List Expr} {k : Nat} (hg : Gl X "zip") (hm : X.mg "zip" = none) (ha : PA X [a, b] ta) (hs : starEach [a, b] X.env = [(false, eval a X.env), (false, eval b X.env)] := by rfl) (hs2 : starEach [b] X.env = [(false, eval b X.env)] := by rfl) :
    PI X (.Tuple elts k tpos) (.Call (.Name "zip" p) [a, b] [] pos) (iZip X.K ta) := by
  intro pins s σ H R I h
  refine Call_ (ld_blt I hg hm boot_zip (PyProof.Rows.callWith_type1 (thn (ha pos pins s σ H _ I h) fun us s1 ⟨vs, H1, I1, r1, q1⟩ => ?_) (by rw [hs, hs2]) (by rw [hs2]; rfl)))
  obtain ⟨a, b, rfl, ⟨xs, hqa⟩, ⟨ys, hqb⟩, q⟩ := q1
  obtain ⟨u, v, rfl, ru, rv⟩ := vals2 r1
  cases ru
  cases rv
  obtain ⟨ia, ra, pa, za⟩ := I1.list hqa
  obtain ⟨ib, rb, pb, zb⟩ := I1.list hqb
  have lt : ∀ {c : Addr} {its : Array Value}, s1.heap.IsList c its → c < s1.heap.objs.size := fun h => by obtain ⟨o, e, _⟩ := h; exact Heap.lt_size e
  refine call_zip_2 pa.isList pb.isList fun h' q1 q2 q3 q4 q5 q6 q7 => ?_
  refine wpAny_pyIter_zip (s := { s1 with heap := h' }) q1 ⟨_, _, _, _, H1, rfl, I1.kept (t' := s1.toks) q7, turn_zip (zipApart_new (lt pa.isList) (lt pb.isList)), ⟨q1, q2, ⟨_, _, q3⟩, q4, q5⟩, fun c hc => ?_, q⟩
  have hle : s1.heap.objs.size ≤ c := by
    simp only [List.mem_cons, List.not_mem_nil, or_false] at hc
    rcases hc with rfl | rfl | rfl | rfl | rfl
    · exact Nat.le_add_right _ 4
    · exact Nat.le_add_right _ 2
    · exact Nat.le_add_right _ 3
    · exact Nat.le_refl _
    · exact Nat.le_add_right _ 1
  exact I1.fpOk hle (I1.hok.fresh hle)
end
end L3
set_option Elab.async false
set_option linter.all false
set_option maxRecDepth 100000
namespace L3
open PySem PySem.Spec PyProof.Rows L2
section
variable {prog : Program} {w : World} {A : Around} {E : Value → Shared → Prop} {s : Shared}
end
section
variable {prog : Program} {w : World} {A : Around} {E : Value → Shared → Prop} {s : Shared} {a b z TI TO i1 i2 S : Addr} {xs ys : Array Value} {i : Nat} {h h' : Heap}
end
end L3
set_option Elab.async false
set_option linter.all false
set_option maxRecDepth 100000
namespace L3
open PySem PySem.Spec PyProof.Rows L2
section
variable {K : PySem.W.Frag} {a D0 : Addr} {te : TE} {σ : S} {H0 : Hp} {R : Hp → Prop} {xs : List V}
end
end L3
set_option linter.all false
namespace M
namespace Q
open PySem PySem.Spec PyProof.Rows L2 L3
section
variable {X : Cx} {CX : CXT} {k : Nat} {ps : List Str} {sp : Sp} {E : XK} {x : Str} {p pos : Pos} {e a b o tg : Expr} {es : List Expr} {te ta tb to : TE} {t : TA} {st : Stmt} {rest body : List Stmt} {s u : TS}
end
end Q
end M
set_option Elab.async false
set_option linter.all false
set_option maxRecDepth 100000
namespace L3
open PySem PySem.Spec PyProof.Rows L2
section
variable {prog : Program} {w : World} {A : Around} {E : Value → Shared → Prop} {K : PySem.W.Frag} {x C : Addr} {ox : Obj}
structure XCls (K : PySem.W.Frag) (C : Addr) : Prop where
  ga : PySem.W.findIn K (.ref C) "__getattribute__" = some (some (.builtin "BaseException.__getattribute__"))
  hk : PySem.W.findIn K (.ref C) "__getattr__" = some none
  ha : PySem.W.findIn K (.ref C) "__class__" = some (some (.builtin "object.__class__"))
  hn : PySem.W.specialIn K (.builtin "object.__class__") "__get__" = some (some (.builtin "getset_descriptor.__get__"))
  ht : PySem.W.takesIn K (.builtin "object.__class__") = some true
  mo : PySem.W.mroIn K C (.type "object") = some true
  mb : PySem.W.mroIn K C (.type "BaseException") = some true
  ty : PySem.W.typeIn K (.ref C) = some (.type "type")
  sb : PySem.W.subIn K (.ref C) (.type "BaseException") = some true
private theorem XCls.cl (c : XCls K C) : (PySem.W.clsIn K C).isSome = true := by
  have h := c.mo
  unfold PySem.W.mroIn at h
  cases e : PySem.W.clsIn K C with
  | none => rw [e] at h; cases h
  | some _ => rfl
private theorem exm_sub {N : Addr} {b : Bool} (c : XCls K C) (h : PySem.W.subIn K (.ref N) (.ref C) = some b) : PySem.W.exmOne K (.ref N) (.ref C) = some b := by
  unfold PySem.W.exmOne
  rw [c.sb, if_pos (beq_self_eq_true _)]
  unfold PySem.W.kitCls
  simp only [c.cl, c.ty, Bool.true_and, beq_self_eq_true, if_true]
  exact h
end
end L3
namespace L3
open PySem PySem.Spec PyProof.Rows L2
structure Flies (h : Heap) (e C : Addr) (tb : Option Addr) : Prop where
  ob : ∃ oe vs, h.get? e = some oe ∧ oe.cls = .ref C ∧ oe.dict = none ∧ oe.data = .fields vs ∧ vs[1]? = some (match tb with | none => Value.none | some T => .ref T)
  tr : ∀ T, tb = some T → T ≠ e ∧ ∃ oT ts, h.get? T = some oT ∧ oT.data = .fields ts ∧ ts[3]? = some .none
private theorem mapF_dict (f : Array Value → Array Value) (o : Obj) : (o.mapFields f).dict = o.dict := by
  obtain ⟨c, d, dt, sl⟩ := o
  cases dt <;> rfl
structure Kp (S : List Addr) (e : Addr) (tb : Option Addr) (h h' : Heap) : Prop where
  keep : ∀ b o, b ≠ e → tb ≠ some b → b ∉ S → h.get? b = some o → h'.get? b = some o
  slot : ∀ b o, b ≠ e → tb ≠ some b → h.get? b = some o → ∃ sl, h'.get? b = some { o with slots := sl }
  size : h.objs.size ≤ h'.objs.size
section
variable {M : Model} {A : Around} {E : Value → Shared → Prop} {s : Shared} {base : Heap} {env : Env} {outer : List Env} {L e C : Addr}
private theorem entry_ok {oe : Obj} {vs : Array Value} {head : Value} {hadNext : Bool} {Q : Unit → Shared → Prop}
    (hfr : A.frames = some (env :: outer)) (hl : s.heap.FunFrames base (env :: outer)) (hf : env.frame = some L)
    (he : s.heap.get? e = some oe) (hcl : oe.cls = .ref C) (hdi : oe.dict = none) (hd : oe.data = .fields vs) (hz : 1 < vs.size)
    (h : ∀ h' T, s.heap.objs.size ≤ T → Flies h' e C (some T) → Kp (frs (env :: outer)) e none s.heap h' → Q () { s with heap := h' }) :
    wpAny M A (do
        let a ← frameOf env
        let pl ← entryPlaceOf L hadNext
        let b ← EntryCells.newEntry head a .none (rawInt L) .none pl
        setField (.ref e) 1 b) (fun _ s' => wpAny M A (setFlight (.ref e) none) Q E s') E s := by
  have hne : e ∉ frs (env :: outer) := by
    intro hm
    obtain ⟨_, o, ho, hn⟩ := hl.mem hm
    rw [he] at ho
    cases ho
    exact hn vs hd
  refine wpAny_bind (wpAny_frameOf_fun hfr hl hf fun g1 so => wpAny_bind (wpAny_entryPlaceOf fun pl hpl => ?_))
  have e1 : g1.get? e = some oe := (so.2.1 e hne).trans he
  unfold EntryCells.newEntry newFields
  refine wpAny_bind (wpAny_newObj_type ?_ (hpl.sizeOk5 _ _ _ _ _))
  generalize hT : ({ cls := .type "traceback", dict := none, data := .fields ([head, .ref L, .none, rawInt L, .none] ++ (if pl.isEmpty then List.replicate 6 Value.none else pl)).toArray } : Obj) = oT
  have dT : oT.data = .fields ([head, .ref L, .none, rawInt L, .none] ++ (if pl.isEmpty then List.replicate 6 Value.none else pl)).toArray := by rw [← hT]
  have zT : 3 < (([head, .ref L, .none, rawInt L, .none] ++ (if pl.isEmpty then List.replicate 6 Value.none else pl)).toArray).size := by simp
  generalize hts : ([head, .ref L, .none, rawInt L, .none] ++ (if pl.isEmpty then List.replicate 6 Value.none else pl)).toArray = ts at dT zT
  have e2 : (g1.push oT).get? e = some oe := Heap.get?_push_of_some oT e1
  refine wpAny_setField e2 hd hz ?_
  have n1 : g1.objs.size ≠ e := Nat.ne_of_gt (Heap.lt_size e1)
  have d3 := Obj.data_mapFields hd (·.setIfInBounds 1 (Value.ref g1.objs.size))
  have e3 := Heap.get?_update_self (Obj.mapFields (·.setIfInBounds 1 (Value.ref g1.objs.size))) e2 (Obj.isFreed_of_fields d3)
  have t3 : ((g1.push oT).update e (Obj.mapFields (·.setIfInBounds 1 (Value.ref g1.objs.size)))).get? g1.objs.size = some oT :=
    (Heap.get?_update_other _ _ (Ne.symm n1)).trans (Heap.get?_push_size g1 (by rw [← hT]; rfl))
  unfold setFlight
  refine wpAny_bind (wpAny_field e3 d3 (x := .ref g1.objs.size) (by simp [hz]) ?_)
  rw [if_pos (by simp)]
  refine wpAny_setField t3 dT zT (h _ g1.objs.size ?_ ⟨⟨_, _, (Heap.get?_update_other _ _ n1).trans e3, ?_, ?_, d3, by simp [hz]⟩, fun T hTT => ?_⟩ ⟨fun b o hb _ hS q => ?_, fun b o hb _ q => ?_, ?_⟩)
  · exact Nat.le_of_eq so.1.symm
  · rw [Obj.cls_mapFields]; exact hcl
  · rw [mapF_dict]; exact hdi
  · cases hTT
    exact ⟨n1, _, _, Heap.get?_update_self _ t3 (Obj.isFreed_of_fields (Obj.data_mapFields dT _)), Obj.data_mapFields dT _, by simp [zT]⟩
  · have q1 := (so.2.1 b hS).trans q
    have n2 : g1.objs.size ≠ b := Nat.ne_of_gt (Heap.lt_size q1)
    rw [Heap.get?_update_other _ _ n2, Heap.get?_update_other _ _ (Ne.symm hb)]
    exact Heap.get?_push_of_some _ q1
  · obtain ⟨sl, q1⟩ := so.2.2 b o q
    have n2 : g1.objs.size ≠ b := Nat.ne_of_gt (Heap.lt_size q1)
    refine ⟨sl, ?_⟩
    rw [Heap.get?_update_other _ _ n2, Heap.get?_update_other _ _ (Ne.symm hb)]
    exact Heap.get?_push_of_some _ q1
  · have := so.1
    simp
    omega
private theorem note_ok {tb : Option Addr} {Q : Unit → Shared → Prop}
    (hfr : A.frames = some (env :: outer)) (hl : s.heap.FunFrames base (env :: outer)) (hf : env.frame = some L) (fl : Flies s.heap e C tb)
    (h : ∀ h' T, s.heap.objs.size ≤ T → Flies h' e C (some T) → Kp (frs (env :: outer)) e tb s.heap h' → Q () { s with heap := h' }) :
    wpAny M A (noteFrame (.ref e) env) (fun _ s' => wpAny M A (setFlight (.ref e) none) Q E s') E s := by
  obtain ⟨⟨oe, vs, he, hcl, hdi, hd, h1⟩, tr⟩ := fl
  have hz : 1 < vs.size := (Array.getElem?_eq_some_iff.mp h1).1
  unfold noteFrame
  simp only [hf]
  refine wpAny_bind (wpAny_field he hd h1 ?_)
  cases tb with
  | none =>
    rw [if_neg (by decide)]
    exact entry_ok hfr hl hf he hcl hdi hd hz h
  | some T =>
    obtain ⟨n1, oT, ts, hT, dT, h3⟩ := tr T rfl
    have zT : 3 < ts.size := (Array.getElem?_eq_some_iff.mp h3).1
    simp only
    rw [if_pos (by simp)]
    refine wpAny_bind (wpAny_field hT dT h3 ?_)
    rw [if_neg (by simp [rawInt])]
    refine wpAny_bind (wpAny_setField hT dT zT ?_)
    have oth : ∀ b, b ≠ T → (s.heap.update T (Obj.mapFields (·.setIfInBounds 3 Value.none))).get? b = s.heap.get? b := fun b hb => Heap.get?_update_other _ _ (Ne.symm hb)
    have zs : (s.heap.update T (Obj.mapFields (·.setIfInBounds 3 Value.none))).objs.size = s.heap.objs.size := Heap.size_after_update ..
    have nrec : ∀ b o, s.heap.get? b = some o → (∀ ws, o.data ≠ .fields ws) → b ≠ T := fun b o q hn z => by
      rw [z, hT] at q
      cases q
      exact hn ts dT
    refine entry_ok (hfr := hfr) (hl.of_keeps fun b o q hn => ⟨o, (oth b (nrec b o q hn)).trans q, rfl⟩) hf ((oth e (Ne.symm n1)).trans he) hcl hdi hd hz fun h' T' hT' fl' kp => ?_
    have nT' : s.heap.objs.size ≤ T' := by rw [← zs]; exact hT'
    refine h h' T' nT' fl' ⟨fun b o hb hbT hS q => ?_, fun b o hb hbT q => ?_, ?_⟩
    · exact kp.keep b o hb (fun z => nomatch z) hS ((oth b fun z => hbT (by rw [z])).trans q)
    · exact kp.slot b o hb (fun z => nomatch z) ((oth b fun z => hbT (by rw [z])).trans q)
    · rw [← zs]; exact kp.size
private theorem land_ok {T : Addr} {Q : Unit → Shared → Prop} (fl : Flies s.heap e C (some T)) (h : ∀ h', Flies h' e C (some T) → (∀ b o, b ≠ T → s.heap.get? b = some o → h'.get? b = some o) → h'.objs.size = s.heap.objs.size → Q () { s with heap := h' }) :
    wpAny M A (setFlight (.ref e) none) Q E s := by
  obtain ⟨⟨oe, vs, he, hcl, hdi, hd, h1⟩, tr⟩ := fl
  obtain ⟨n1, oT, ts, hT, dT, h3⟩ := tr T rfl
  have zT : 3 < ts.size := (Array.getElem?_eq_some_iff.mp h3).1
  have oth : ∀ b, b ≠ T → (s.heap.update T (Obj.mapFields (·.setIfInBounds 3 ((none : Option Addr).elim Value.none fun f => rawInt f)))).get? b = s.heap.get? b := fun b hb => Heap.get?_update_other _ _ (Ne.symm hb)
  unfold setFlight
  refine wpAny_bind (wpAny_field he hd h1 ?_)
  simp only
  rw [if_pos (by simp)]
  refine wpAny_setField hT dT zT (h _ ⟨⟨oe, vs, (oth e (Ne.symm n1)).trans he, hcl, hdi, hd, h1⟩, fun T' z => ?_⟩ (fun b o hb q => (oth b hb).trans q) (Heap.size_after_update ..))
  cases z
  exact ⟨n1, _, _, Heap.get?_update_self _ hT (Obj.isFreed_of_fields (Obj.data_mapFields dT _)), Obj.data_mapFields dT _, by simp [zT]⟩
end
end L3
namespace L3
open PySem PySem.Spec PyProof.Rows L2
structure Lay (P : Program) (w : World) (st : List Env) (H H' : Hp) (s s' : Shared) (a C : Addr) (tb : Option Addr) : Prop where
  os : s'.os = s.os
  bare : AllBare s'.gens
  un : Un (frs st) [] H H' s.heap s'.heap
  hok : HOk P w H' s'.heap
  na : H' a = none
  nT : ∀ T, tb = some T → H' T = none ∧ s.heap.get? T = none
  fa : s.heap.get? a = none
  fl : Flies s'.heap a C tb
noncomputable def CX1 (P : Program) (w : World) : CXT := fun outer H s E e s' => ∃ (a C T : Addr) (H' : Hp), e = .ref a ∧ Lay P w outer H H' s s' a C (some T) ∧ E (.ref C) (some a) H'
noncomputable def Arr (X : Cx) (R : L2.St → XK) : Prop := ∀ (pins : List (Addr × Obj)) (σ : L2.St) (H H' : Hp) (s s' : Shared) (a C : Addr) (tb : Option Addr), Inv X pins σ H s → Lay X.prog X.w X.stack H H' s s' a C tb → R σ (.ref C) (some a) H' → X.xe (.ref a) s'
private theorem funs_of {base : Heap} {h h' : Heap} : ∀ {l : List Env}, h.FunFrames base l → (∀ b ∈ frs l, ∀ o, h.get? b = some o → ∃ sl, h'.get? b = some { o with slots := sl }) → h'.FunFrames base l
  | [], _, _ => True.intro
  | env :: r, ⟨hk, ⟨L, o, hf, hn, ho, hd⟩, hr⟩, k => by
    have hL : L ∈ frs (env :: r) := by unfold frs; rw [List.filterMap_cons, hf]; exact List.mem_cons_self
    obtain ⟨sl, e⟩ := k L hL o ho
    exact ⟨hk, ⟨L, _, hf, hn, e, hd⟩, funs_of hr fun b hb => k b (by unfold frs; rw [List.filterMap_cons, hf]; exact List.mem_cons_of_mem _ hb)⟩
section
variable {X : Cx} {pins : List (Addr × Obj)} {σ : L2.St} {H H' : Hp} {s s' : Shared} {a C : Addr} {tb : Option Addr} {P : Program} {w : World}
private theorem Lay.frN {st : List Env} (y : Lay P w st H H' s s' a C tb) {base : Heap} (fu : s.heap.FunFrames base st) (fr : ∀ b ∈ frs st, H b = none) : ∀ b ∈ frs st, H' b = none := fun b hb => by
  obtain ⟨_, o, ho, _⟩ := fu.mem hb
  exact y.un.free b o ho (fr b hb) (by simp)
private theorem Lay.funs {st : List Env} (y : Lay P w st H H' s s' a C tb) {base : Heap} (fu : s.heap.FunFrames base st) (fr : ∀ b ∈ frs st, H b = none) : s'.heap.FunFrames base st :=
  funs_of fu fun b hb o ho => y.un.slot b o ho (fr b hb) hb (by simp)
private theorem Lay.noted {st : List Env} {h' : Heap} {T : Addr} (y : Lay P w st H H' s s' a C tb) {base : Heap} (fu : s.heap.FunFrames base st) (fr : ∀ b ∈ frs st, H b = none) (hT : s'.heap.objs.size ≤ T) (fl : Flies h' a C (some T)) (kp : Kp (frs st) a tb s'.heap h') :
    Lay P w st H H' s { s' with heap := h' } a C (some T) := by
  have no : ∀ b o, s.heap.get? b = some o → b ≠ a ∧ tb ≠ some b := fun b o q => ⟨fun z => (by rw [z, y.fa] at q; cases q), fun z => (by rw [(y.nT b z).2] at q; cases q)⟩
  have nfr := y.frN fu fr
  refine ⟨y.os, y.bare, ⟨fun b o q n hb hx => ?_, fun b o q n hb hx => ?_, y.un.free, fun b o q hx => ?_, y.un.tups, y.un.frzs, y.un.tbls⟩, fun b o q => ?_, y.na, fun T' z => ?_, y.fa, fl⟩
  · exact kp.keep b o (no b o q).1 (no b o q).2 hb (y.un.keep b o q n hb hx)
  · obtain ⟨sl, q1⟩ := y.un.slot b o q n hb hx
    obtain ⟨sl', q2⟩ := kp.slot b _ (no b o q).1 (no b o q).2 q1
    exact ⟨sl', q2⟩
  · obtain ⟨o1, q1⟩ := y.un.there b o q hx
    obtain ⟨sl', q2⟩ := kp.slot b _ (no b o q).1 (no b o q).2 q1
    exact ⟨_, q2⟩
  · have tr : ∀ c u, H' c = some u → c ≠ a ∧ tb ≠ some c ∧ c ∉ frs st := fun c u z =>
      ⟨fun x => (by rw [x, y.na] at z; cases z), fun x => (by rw [(y.nT c x).1] at z; cases z), fun x => (by rw [nfr c x] at z; cases z)⟩
    refine (y.hok b o q).stay (fun c u hc z => ?_) (fun _ z => z) fun _ _ z => z
    have : ∃ u', H' c = some u' := by
      rcases hc with rfl | hc
      · exact ⟨o, q⟩
      · exact ⟨_, hc⟩
    obtain ⟨u', hu⟩ := this
    obtain ⟨t1, t2, t3⟩ := tr c u' hu
    exact kp.keep c u t1 t2 t3 z
  · cases z
    refine ⟨y.hok.fresh hT, ?_⟩
    cases q : s.heap.get? T with
    | none => rfl
    | some o =>
      obtain ⟨o', q'⟩ := y.un.there T o q (by simp)
      exact absurd (Nat.lt_of_lt_of_le (Heap.lt_size q') hT) (Nat.lt_irrefl _)
end
section
variable {P : Program} {w : World} {K : PySem.W.Frag} {mg : Str → Option Value} {base : Heap} {N : List Str} {qual : Str} {scope : Scope} {f : Addr} {cd : Value} {A : Around} {outer : List Env} {s₀ : Shared} {H₀ : Hp} {E : XK}
private theorem arr_cx : Arr (cxOf (CX1 P w) P w K mg base N qual scope f cd A outer s₀ H₀ E) fun _ => E := by
  intro pins σ H H' s s' a C tb I y hE
  show wpAny _ _ (leaving _ _) _ _ _
  unfold leaving
  refine wpAny_bind (note_ok I.ok.frames (y.funs I.stack I.stkFree) rfl y.fl fun h' T hT fl kp => ?_)
  have y' := y.noted I.stack I.stkFree hT fl kp
  have ab : ∀ b o, s₀.heap.get? b = some o → b ≠ s₀.heap.objs.size := fun b o q => Nat.ne_of_lt (Heap.lt_size q)
  have nin : ∀ b o, s₀.heap.get? b = some o → b ∉ frs outer → b ∉ frs (envOfC qual scope s₀.heap.objs.size f cd :: outer) := fun b o q h1 h2 => by
    have : b ∈ s₀.heap.objs.size :: frs outer := h2
    rcases List.mem_cons.mp this with z | z
    · exact ab b o q z
    · exact h1 z
  have yin : ∀ b, b ∈ frs outer → b ∈ frs (envOfC qual scope s₀.heap.objs.size f cd :: outer) := fun b h1 => by
    show b ∈ s₀.heap.objs.size :: frs outer
    exact List.mem_cons_of_mem _ h1
  have bk : ∀ b o, s₀.heap.get? b = some o → ∃ o', s.heap.get? b = some o' := fun b o q => I.base.there b o q (by simp [cxOf])
  refine ⟨a, C, T, H', rfl, ⟨y'.os.trans I.os, y'.bare, ⟨fun b o q n hb hx => ?_, fun b o q n hb hx => ?_, fun b o q n hx => ?_, fun b o q hx => ?_, fun b xs q => y'.un.tups b xs (I.base.tups b xs q), fun b o u q => y'.un.frzs b o u (I.base.frzs b o u q), fun b ps q => ?_⟩, y'.hok, y'.na, fun T' z => ⟨(y'.nT T' z).1, ?_⟩, ?_, y'.fl⟩, hE⟩
  · exact y'.un.keep b o (I.base.keep b o q n hb (by simp [cxOf])) (I.base.free b o q n (by simp [cxOf])) (nin b o q hb) hx
  · obtain ⟨sl, q1⟩ := I.base.slot b o q n hb (by simp [cxOf])
    obtain ⟨sl', q2⟩ := y'.un.slot b _ q1 (I.base.free b o q n (by simp [cxOf])) (yin b hb) hx
    exact ⟨sl', q2⟩
  · obtain ⟨o', q1⟩ := bk b o q
    exact y'.un.free b o' q1 (I.base.free b o q n (by simp [cxOf])) hx
  · obtain ⟨o', q1⟩ := bk b o q
    exact y'.un.there b o' q1 hx
  · obtain ⟨m1, e1⟩ := I.base.tbls b ps q
    obtain ⟨m2, e2⟩ := y'.un.tbls b _ e1
    exact ⟨m1 ++ m2, by rw [e2, Array.append_assoc]⟩
  · cases q : s₀.heap.get? T' with
    | none => rfl
    | some o =>
      obtain ⟨o', q1⟩ := bk T' o q
      rw [(y'.nT T' z).2] at q1
      cases q1
  · cases q : s₀.heap.get? a with
    | none => rfl
    | some o =>
      obtain ⟨o', q1⟩ := bk a o q
      rw [y'.fa] at q1
      cases q1
end
end L3
namespace L3
open PySem PySem.Spec PyProof.Rows L2
private theorem obj_there {P : Program} {w : World} {H : Hp} {h : Heap} {a : Addr} {o : HO} (x : ObjOk P w H h a o) : ∃ u, h.get? a = some u := by
  induction o with
  | lst xs => obtain ⟨_, _, _, _, e⟩ := x; exact ⟨_, e⟩
  | tup xs => obtain ⟨_, _, _, o, e, _⟩ := x; exact ⟨_, e⟩
  | dK kvs => obtain ⟨_, _, _, _, o, _, _, e, _⟩ := x; exact ⟨_, e⟩
  | dT kvs => obtain ⟨_, _, _, _, o, _, _, e, _⟩ := x; exact ⟨_, e⟩
  | set S n => obtain ⟨o, _, _, _, e, _⟩ := x; exact ⟨_, e⟩
  | ins C dx fs => obtain ⟨_, _, _, e, _⟩ := x; exact ⟨_, e⟩
  | own y => exact x
  | xd fs => obtain ⟨_, ⟨_, _, _, e, _⟩, _⟩ := x; exact ⟨_, e⟩
  | rng lo hi => obtain ⟨_, _, _, e⟩ := x; exact ⟨_, e⟩
  | frz ob u ih => exact ⟨_, x.1⟩
  | tbl ps => exact ⟨_, x⟩
  | met f y => exact ⟨_, x⟩
  | ext φ => exact x.2.1
private theorem hok_none {P : Program} {w : World} {H : Hp} {h : Heap} {a : Addr} (x : HOk P w H h) (e : h.get? a = none) : H a = none := by
  cases q : H a with
  | none => rfl
  | some o =>
    obtain ⟨u, z⟩ := obj_there (x a o q)
    rw [e] at z
    cases z
abbrev mroVE : List Value := [.type "ValueError", .type "Exception", .type "BaseException", .type "object"]
private theorem own_of {K : PySem.W.Frag} {h : Heap} {C : Addr} {bmB : List Value} {newId : String} (X : K.In h) (q : PySem.W.excIn K C bmB newId = true) :
    ∃ tl N nm qn bs hd sn sub ab col dd k0 k1 k2 k3 k5 mN, h.get? C = some (excClassObj nm qn C N bs tl hd sn sub ab col dd k0 k1 k2 k3 k5 newId) ∧ h.Ns N mN ∧ mN "__init__" = none ∧ OwnTail h bmB tl := by
  unfold PySem.W.excIn at q
  split at q
  · rename_i dd cd sl ho
    split at q
    · rename_i C' bm k0 k1 k2 k3 nn k5 hmr hsl
      simp only [Bool.and_eq_true, beq_iff_eq, Bool.not_eq_true'] at q
      obtain ⟨⟨⟨⟨⟨e1, e2⟩, e3⟩, e4⟩, e5⟩, e6⟩ := q
      subst e1 e2
      obtain ⟨nm, bs, mro, ns, qn, hd, sn, sub, ab, col, del⟩ := cd
      simp only at hmr e3 e5 e6
      subst hmr e3
      have z : sl = #[k0, k1, k2, k3, some (.builtin nn), k5] := by
        cases sl
        simpa using hsl
      subst z
      exact ⟨bm, ns, nm, qn, bs, hd, sn, sub, ab, col, dd, k0, k1, k2, k3, k5, _, X _ _ ho, .of_isNs (PySem.W.isNs_of_in X e5), PySem.W.nsMap_none_of_in X e5 e6, PySem.W.tail_of_in X e4⟩
    · cases q
  · cases q
section
variable {X : Cx} {R : L2.St → XK} {x : Str} {C : Addr} {e : Expr} {es : List Expr} {t : TA} {np cpos pos : Pos}
noncomputable def tRaise (C : Addr) (R : L2.St → XK) (t : TA) : TS := fun _ σ H => t σ H fun vs H1 => vs.length ≤ sizeLine ∧ ∀ a, H1 a = none → R σ (.ref C) (some a) H1
private theorem ps_raise (hg : Gl X x) (hm : X.mg x = some (.ref C)) (q : PySem.W.excIn X.K C mroVE "ValueError.__new__" = true) (ar : Arr X R) (ha : PA X (e :: es) t) (hc : X.calm = true := by rfl)
    (hdb : (x == ("__debug__" : Str)) = false := by decide) (he : starEach (e :: es) X.env = (false, eval e X.env) :: starEach es X.env := by rfl) (hpl : (backTo cpos (starEach es X.env)).any (·.1) = false := by rfl) :
    PS X (.Raise (some (.Call (.Name x np) (e :: es) [] cpos)) none pos) (tRaise C R t) := by
  intro pins s σ H D I h
  obtain ⟨tl, N, nm, qn, bs, hd, sn, sub, ab, col, dd, k0, k1, k2, k3, k5, mN, hC, hNs, hni, T⟩ := own_of I.mod.kin q
  refine wpAny_Raise_call_subU (C := C) (nm := nm) (q := qn) (N := N) (bs := bs) (bm := tl) (hdct := hd) (sn := sn) (sub := sub) (ab := ab) (col := col) (dd := dd) (k0 := k0) (k1 := k1) (k2 := k2) (k3 := k3) (k5 := k5) (mN := mN)
    F.excBase_ValueError (by decide +kernel) F.excBase_ValueError (T.hasType F.excBase_ValueError.hasBase) (I.ok.hd hc) ?_ hni (ld_glob I hg hm ⟨rfl, ?_⟩ hdb)
  · rw [he]
    show (false || (backTo cpos (starEach es X.env)).any (·.1)) = false
    rw [hpl]; rfl
  · have h2 := ha cpos pins s σ H _ I h
    rw [he] at h2 ⊢
    refine Calls.evalArgs_plain (wpAny_mono h2 (fun us s2 y => ?_) fun _ _ y => y)
    obtain ⟨vs, H1, I1, r, z, k⟩ := y
    refine ⟨rfl, by rw [← r.length]; exact z, I1.bk _ _ hC, hNs.keeps I1.bk, T.keeps I1.bk, fun h' a m => ?_⟩
    obtain ⟨tt, m1, _⟩ := m.there
    have na : H1 a = none := hok_none I1.hok m.new
    refine ar pins σ H1 H1 s2 { s2 with heap := h' } a C none I1 ⟨rfl, I1.bare, Un.kept m.keeps, I1.hok.kept m.keeps, na, fun T z => (nomatch z), m.new, ⟨⟨_, _, m1, rfl, rfl, rfl, rfl⟩, fun T z => (nomatch z)⟩⟩ (k a na)
end
private theorem arr_passes {X : Cx} {R : L2.St → XK} (ar : Arr X R) {pins : List (Addr × Obj)} {σ : L2.St} {H : Hp} {s s' : Shared} {e : Value} (I : Inv X pins σ H s) (h : CX1 X.prog X.w X.stack H s (R σ) e s') : X.xe e s' := by
  obtain ⟨a, C, T, H', rfl, y, r⟩ := h
  exact ar pins σ H H' s s' a C (some T) I y r
section
variable {X : Cx} {R : L2.St → XK} {k : Nat} {ps : List Str} {sp : Sp} {x : Str} {p pos : Pos} {e : Expr} {es : List Expr} {t : TA}
noncomputable def tCallX (sp : Sp) (R : L2.St → XK) (t : TA) : TE := fun σ H Q => t σ H fun vs H1 => sp vs H1 Q (R σ)
private theorem pe_hX (F : Has X.prog X.w X.K X.mg X.base (CX1 X.prog X.w) k x ps sp) (hr : Room k X.A) (hg : Gl X x) (ar : Arr X R) (ha : PA X (e :: es) t) (hdb : (x == ("__debug__" : Str)) = false := by decide) (he : starEach (e :: es) X.env = (false, eval e X.env) :: starEach es X.env := by rfl) (hpl : (backTo pos (starEach es X.env)).any (·.1) = false := by rfl) :
    PE X (.Call (.Name x p) (e :: es) [] pos) (tCallX sp R t) := by
  obtain ⟨f, fd, F1, hb, kp, hm⟩ := F.ex
  intro pins s σ H Q I h
  refine wpAny_Call_Name_kw (ld_glob I hg hm ?_ hdb)
  refine PySem.W.callWith_K (h₀ := X.base) I.ok.mod.kin kp (thn (ha pos pins s σ H _ I h) fun us s1 ⟨vs, H1, I1, r, q⟩ => ⟨I1.kIn, ?_⟩) he hpl
  have r2 : Vals (vs ++ []) (us ++ []) := r.append .nil
  have hl : (us ++ []).length = ps.length := by rw [← r2.length]; exact F1.len _ _ _ _ (by rw [List.append_nil]; exact q)
  refine wpAny_call (codeAny_mono (F1.run X.A X.stack s1 H1 ⟨us, []⟩ (us ++ []) (vs ++ []) Q (R σ) hr I1.env0 (hb s1 us I1.kIn hl) r2 (by rw [List.append_nil]; exact q)) fun r s' hq => ?_)
  cases r with
  | error e => exact arr_passes ar I1 hq
  | ok fl =>
    cases fl with
    | ret u => exact I1.after hq
    | next => exact False.elim hq
    | brk => exact False.elim hq
    | cont => exact False.elim hq
end
private theorem Def.hasX {P : Program} {w : World} {K : PySem.W.Frag} {mg : Str → Option Value} {base : Heap} {k : Nat} {x : Str} {st : Stmt} {N ps : List Str} {sp : Sp} (F : Def K mg x st ps) (sc : FnScope N ps (defScope st)) (len : ∀ vs H Q E, sp vs H Q E → vs.length = ps.length)
    (hbody : ∀ (f : Addr) (cdv : Value) (A : Around) (outer : List Env) (s : Shared) (H : Hp) (vs : List V) (Q : VK) (E : XK), Room k (A.deeper (envOfC x (defScope st) s.heap.objs.size f cdv)) → sp vs H Q E →
      ∃ t, PSs (cxOf (CX1 P w) P w K mg base N x (defScope st) f cdv A outer s H E) (defBody st) t ∧ t { nx := fun _ H' => Q .non H', rt := Q } (start N vs) H) : Has P w K mg base (CX1 P w) (k + 1) x ps sp := by
  obtain ⟨f, fd, F1, b, m⟩ := F.ex
  obtain ⟨oc, od, kV, doc, pm, an, cdv, ct, osl, rfl, lk, hcd⟩ := F1.ex
  exact ⟨f, _, fn_of lk hcd sc len fun A outer s H vs Q E hr hsp => hbody f cdv A outer s H vs Q E hr hsp, b, F1.kp, m⟩
section
variable {X : Cx} {pins : List (Addr × Obj)} {σ : L2.St} {H : Hp} {s : Shared}
noncomputable abbrev Cx.tr (X : Cx) (pn : List (Addr × Obj)) (xe : Value → Shared → Prop) : Cx := { X with pn := pn, xe := xe }
noncomputable abbrev Cx.mk' (X : Cx) (e : Addr) : Cx := { X with A := X.A.mark (some (.ref e)), calm := false, xe := fun _ _ => False }
private theorem ok_tr {pn : List (Addr × Obj)} {xe : Value → Shared → Prop} (ok : X.Ok) : (Cx.tr X pn xe).Ok := ⟨ok.mod, ok.kind, ok.glob, ok.blt, ok.above, ok.inj, ok.has, ok.cab, ok.hd, ok.frames, ok.stk, ok.exf, ok.bs, ok.bsz, ok.noex, ok.exfs, ok.funs, ok.frf⟩
private theorem ok_untr {pn : List (Addr × Obj)} {xe : Value → Shared → Prop} (ok : (Cx.tr X pn xe).Ok) : X.Ok := ⟨ok.mod, ok.kind, ok.glob, ok.blt, ok.above, ok.inj, ok.has, ok.cab, ok.hd, ok.frames, ok.stk, ok.exf, ok.bs, ok.bsz, ok.noex, ok.exfs, ok.funs, ok.frf⟩
private theorem inv_tr {xe : Value → Shared → Prop} (I : Inv X pins σ H s) : Inv (Cx.tr X (X.pn ++ pins) xe) [] σ H s :=
  ⟨ok_tr I.ok, I.os, I.bare, I.base, I.loc, I.cell, I.free, I.freeC, fun p hp => I.pin p (by simpa using hp), I.hok, I.len⟩
private theorem inv_untr {xe : Value → Shared → Prop} {pins' : List (Addr × Obj)} (I : Inv (Cx.tr X (X.pn ++ pins) xe) pins' σ H s) : Inv X pins σ H s :=
  ⟨ok_untr I.ok, I.os, I.bare, I.base, I.loc, I.cell, I.free, I.freeC, fun p hp => I.pin p (List.mem_append_left _ hp), I.hok, I.len⟩
private theorem inv_mark {e : Addr} (I : Inv X pins σ H s) : Inv (Cx.mk' X e) pins σ H s :=
  ⟨⟨I.ok.mod, I.ok.kind, I.ok.glob, I.ok.blt, I.ok.above, I.ok.inj, I.ok.has, I.ok.cab, fun z => (nomatch z), I.ok.frames, I.ok.stk, I.ok.exf, I.ok.bs, I.ok.bsz, I.ok.noex, I.ok.exfs, I.ok.funs, I.ok.frf⟩, I.os, I.bare, I.base, I.loc, I.cell, I.free, I.freeC, I.pin, I.hok, I.len⟩
private theorem inv_unmark {e : Addr} (hd : X.calm = true → X.A.handled = none) (I : Inv (Cx.mk' X e) pins σ H s) : Inv X pins σ H s :=
  ⟨⟨I.ok.mod, I.ok.kind, I.ok.glob, I.ok.blt, I.ok.above, I.ok.inj, I.ok.has, I.ok.cab, hd, I.ok.frames, I.ok.stk, I.ok.exf, I.ok.bs, I.ok.bsz, I.ok.noex, I.ok.exfs, I.ok.funs, I.ok.frf⟩, I.os, I.bare, I.base, I.loc, I.cell, I.free, I.freeC, I.pin, I.hok, I.len⟩
noncomputable def IsX (a C : Addr) : Heap → Prop := fun h => ∃ ox, PySem.W.InstAt h a ox C none
private theorem isX_ok {P : Program} {w : World} {H : Hp} {h : Heap} {a C : Addr} {tb : Option Addr} (fl : Flies h a C tb) : ObjOk P w H h a (.ext (IsX a C)) := by
  obtain ⟨oe, vs, he, hc, hd, hf, _⟩ := fl.ob
  refine ⟨⟨oe, he, hc, ?_, ?_⟩, ⟨oe, he⟩, fun h1 h2 q k => ?_⟩
  · unfold PySem.W.notCls; rw [hf]
  · rw [hd]; trivial
  · obtain ⟨ox, q1, q2, q3, q4⟩ := q
    refine ⟨ox, k _ q1, q2, q3, ?_⟩
    cases z : ox.dict with
    | none => trivial
    | some y => rw [z] at q4; exact q4.elim
private theorem inv_land {H' : Hp} {s' : Shared} {a C T : Addr} (I : Inv X pins σ H s) (y : Lay X.prog X.w X.stack H H' s s' a C (some T)) : Inv X pins σ (upd H' a (.ext (IsX a C))) s' := by
  have nb : ∀ b o, s.heap.get? b = some o → b ≠ a := fun b o q z => by rw [z, y.fa] at q; cases q
  have nh : ∀ b u, H' b = some u → b ≠ a := fun b u q z => by rw [z, y.na] at q; cases q
  have un : Un (frs X.stack) [] H (upd H' a (.ext (IsX a C))) s.heap s'.heap :=
    ⟨y.un.keep, y.un.slot, fun b o q n hx => by rw [upd_ne (nb b o q)]; exact y.un.free b o q n hx, y.un.there, fun b xs q => by have z := y.un.tups b xs q; rw [upd_ne (nh b _ z)]; exact z,
     fun b o u q => by have z := y.un.frzs b o u q; rw [upd_ne (nh b _ z)]; exact z, fun b ps q => by obtain ⟨m, z⟩ := y.un.tbls b ps q; exact ⟨m, by rw [upd_ne (nh b _ z)]; exact z⟩⟩
  have hok : HOk X.prog X.w (upd H' a (.ext (IsX a C))) s'.heap := fun b o q => by
    by_cases z : b = a
    · subst z
      rw [upd_same] at q
      cases q
      exact isX_ok y.fl
    · rw [upd_ne z] at q
      exact (y.hok b o q).stay (fun _ _ _ e => e) (fun c e => by rw [upd_ne (nh c _ e)]; exact e) fun c xs e => by rw [upd_ne (nh c _ e)]; exact e
  have os := y.os
  have bare := y.bare
  clear y
  obtain ⟨hh, g, d, t, os'⟩ := s'
  obtain rfl : os' = s.os := os
  exact I.call (h' := hh) (g' := g) (d' := d) (t' := t) (ch := []) un hok bare fun b z => absurd z (by simp)
end
end L3
namespace L3
open PySem PySem.Spec PyProof.Rows L2
section
variable {X : Cx} {pins : List (Addr × Obj)} {σ : L2.St} {H : Hp} {s : Shared}
end
noncomputable def cOf (mg : Str → Option Value) (x : Str) : Addr := match mg x with
  | some (.ref a) => a
  | _ => 0
private theorem cOf_of {mg : Str → Option Value} {x : Str} {C : Addr} (h : mg x = some (.ref C)) : cOf mg x = C := by unfold cOf; rw [h]
structure ExC (K : PySem.W.Frag) (mg : Str → Option Value) (x : Str) : Prop where
  m : mg x = some (.ref (cOf mg x))
  q : PySem.W.excIn K (cOf mg x) mroVE "ValueError.__new__" = true
  c : XCls K (cOf mg x)
private theorem ExC.of {K : PySem.W.Frag} {mg : Str → Option Value} {x : Str} {C : Addr} (m : mg x = some (.ref C)) (q : PySem.W.excIn K C mroVE "ValueError.__new__" = true) (c : XCls K C) : ExC K mg x := by
  have e := cOf_of m
  refine ⟨?_, ?_, ?_⟩
  · rw [e]; exact m
  · rw [e]; exact q
  · rw [e]; exact c
end L3
set_option Elab.async false
set_option linter.all false
set_option maxRecDepth 100000
namespace L3
open PySem PySem.Spec PyProof.Rows L2 PySem.SeqAt
noncomputable instance : DecidableEq D := fun a b => Classical.propDecidable (a = b)
mutual
noncomputable def HD (h : Heap) : D → Value → Prop
  | .int i, u => ∃ t, u = .int i t
  | .tup ds, u => ∃ a its, u = .ref a ∧ h.IsTuple a its ∧ HDs h ds its.toList
  | .non, _ => False
  | .bl _, _ => False
  | .str _, _ => False
  | .lst _, _ => False
noncomputable def HDs (h : Heap) : List D → List Value → Prop
  | [], us => us = []
  | d :: ds, us => ∃ u r, us = u :: r ∧ HD h d u ∧ HDs h ds r
end
mutual
noncomputable def hashD : D → Int
  | .int i => hashInt i
  | .tup ds => reduceHash (Builtin.Tuple.tupleHashOf (hashDs ds))
  | .non => 0
  | .bl _ => 0
  | .str _ => 0
  | .lst _ => 0
noncomputable def hashDs : List D → List Int
  | [] => []
  | d :: ds => hashD d :: hashDs ds
end
mutual
noncomputable def drD : D → Nat
  | .int _ => 1
  | .tup ds => drDs ds + 1
  | .non => 0
  | .bl _ => 0
  | .str _ => 0
  | .lst _ => 0
noncomputable def drDs : List D → Nat
  | [] => 0
  | d :: ds => drD d + drDs ds
end
private theorem HDs.length {h : Heap} : ∀ {ds : List D} {us : List Value}, HDs h ds us → ds.length = us.length
  | [], us, k => by rw [HDs] at k; rw [k]; rfl
  | d :: ds, us, k => by
    rw [HDs] at k
    obtain ⟨u, r, rfl, _, k⟩ := k
    rw [List.length_cons, List.length_cons, HDs.length k]
private theorem HDs.get {h : Heap} : ∀ {ds : List D} {us : List Value} {i : Nat} {d : D}, HDs h ds us → ds[i]? = some d → ∃ u, us[i]? = some u ∧ HD h d u
  | [], us, i, d, k, e => by simp at e
  | x :: ds, us, 0, d, k, e => by
    rw [HDs] at k
    obtain ⟨u, r, rfl, k1, k2⟩ := k
    simp at e
    subst e
    exact ⟨u, rfl, k1⟩
  | x :: ds, us, i + 1, d, k, e => by
    rw [HDs] at k
    obtain ⟨u, r, rfl, k1, k2⟩ := k
    obtain ⟨u', h1, h2⟩ := HDs.get (i := i) k2 (by simpa using e)
    exact ⟨u', by simpa using h1, h2⟩
private theorem isTup_inj {h : Heap} {a : Addr} {x y : Array Value} (hx : h.IsTuple a x) (hy : h.IsTuple a y) : x = y := by
  obtain ⟨o, h1, _, n, h2⟩ := hx
  obtain ⟨o', h3, _, n', h4⟩ := hy
  rw [h1] at h3
  cases h3
  rw [h2] at h4
  injection h4
mutual
private theorem HD.inj {h : Heap} : ∀ {d e : D} {u : Value}, HD h d u → HD h e u → d = e
  | .int i, e, u, k, l => by
    rw [HD] at k
    obtain ⟨t, rfl⟩ := k
    cases e with
    | int j => rw [HD] at l; obtain ⟨t', l⟩ := l; injection l with l; rw [l]
    | tup es => rw [HD] at l; obtain ⟨_, _, l, _⟩ := l; cases l
    | _ => rw [HD] at l; exact l.elim
  | .tup ds, e, u, k, l => by
    rw [HD] at k
    obtain ⟨a, its, rfl, k1, k2⟩ := k
    cases e with
    | int j => rw [HD] at l; obtain ⟨t', l⟩ := l; cases l
    | tup es =>
      rw [HD] at l
      obtain ⟨a', its', l0, l1, l2⟩ := l
      cases l0
      rw [isTup_inj k1 l1] at k2
      rw [HDs.inj k2 l2]
    | _ => rw [HD] at l; exact l.elim
  | .non, e, u, k, l => by rw [HD] at k; exact k.elim
  | .bl _, e, u, k, l => by rw [HD] at k; exact k.elim
  | .str _, e, u, k, l => by rw [HD] at k; exact k.elim
  | .lst _, e, u, k, l => by rw [HD] at k; exact k.elim
private theorem HDs.inj {h : Heap} : ∀ {d e : List D} {u : List Value}, HDs h d u → HDs h e u → d = e
  | [], e, u, k, l => by
    rw [HDs] at k
    subst k
    cases e with
    | nil => rfl
    | cons x xs => rw [HDs] at l; obtain ⟨_, _, l, _⟩ := l; cases l
  | d :: ds, e, u, k, l => by
    rw [HDs] at k
    obtain ⟨v, r, rfl, k1, k2⟩ := k
    cases e with
    | nil => rw [HDs] at l; cases l
    | cons x xs =>
      rw [HDs] at l
      obtain ⟨v', r', l0, l1, l2⟩ := l
      cases l0
      rw [HD.inj k1 l1, HDs.inj k2 l2]
end
mutual
private theorem HD.keep {h h' : Heap} (k : ∀ a its, h.IsTuple a its → h'.IsTuple a its) : ∀ {d : D} {u : Value}, HD h d u → HD h' d u
  | .int i, u, r => by rw [HD] at r ⊢; exact r
  | .tup ds, u, r => by
    rw [HD] at r ⊢
    obtain ⟨a, its, r1, r2, r3⟩ := r
    exact ⟨a, its, r1, k _ _ r2, HDs.keep k r3⟩
  | .non, u, r => by rw [HD] at r; exact r.elim
  | .bl _, u, r => by rw [HD] at r; exact r.elim
  | .str _, u, r => by rw [HD] at r; exact r.elim
  | .lst _, u, r => by rw [HD] at r; exact r.elim
private theorem HDs.keep {h h' : Heap} (k : ∀ a its, h.IsTuple a its → h'.IsTuple a its) : ∀ {d : List D} {u : List Value}, HDs h d u → HDs h' d u
  | [], u, r => by rw [HDs] at r ⊢; exact r
  | d :: ds, u, r => by
    rw [HDs] at r ⊢
    obtain ⟨x, t, r1, r2, r3⟩ := r
    exact ⟨x, t, r1, HD.keep k r2, HDs.keep k r3⟩
end
private theorem isTup_keep {h h' : Heap} {d : Addr} {o : Obj} {es ep} (ho : h.get? d = some o) (hd : o.data = .dict es ep) (hs : Heap.SameBut d h h') : ∀ a its, h.IsTuple a its → h'.IsTuple a its := by
  rintro a its ⟨o', h1, h2, n, h3⟩
  have hne : a ≠ d := by
    rintro rfl
    rw [ho] at h1
    cases h1
    rw [hd] at h3; cases h3
  exact ⟨o', (hs.2 a hne).trans h1, h2, n, h3⟩
private theorem isTup_ty {s : Shared} {a : Addr} {its : Array Value} (h : s.heap.IsTuple a its) : s.TypeIs (.ref a) "tuple" := let ⟨o, h1, h2, _⟩ := h; ⟨o, h1, h2⟩
section
variable {prog : Program} {w : World}
private theorem hash_deep (n : Nat) : ∀ {A : Around} {E : Value → Shared → Prop} {s : Shared} {d : D} {u : Value} {Q : Int → Shared → Prop}, dep d ≤ n → A.units + n < cLine → HD s.heap d u → Q (hashD d) { s with toks := s.toks + drD d } → wpAny (model prog w) A (pyHash u) Q E s := by
  induction n with
  | zero =>
    intro A E s d u Q hn hu k h
    cases d with
    | int i => rw [HD] at k; obtain ⟨t, rfl⟩ := k; rw [hashD, drD] at h; exact wpAny_pyHash_int h
    | tup ds => rw [dep] at hn; omega
    | _ => rw [HD] at k; exact k.elim
  | succ n ih =>
    intro A E s d u Q hn hu k h
    cases d with
    | int i => rw [HD] at k; obtain ⟨t, rfl⟩ := k; rw [hashD, drD] at h; exact wpAny_pyHash_int h
    | tup ds =>
      rw [dep] at hn
      rw [HD] at k
      obtain ⟨a, items, rfl, k1, hi⟩ := k
      have hT := isTup_ty k1
      obtain ⟨o, ho, _, m, hd⟩ := k1
      rw [hashD, drD] at h
      unfold pyHash
      first | unfold pyHashByItsType | skip
      first | refine wpAny_bind (wpAny_cRoomFor_or (.inr (by omega)) ?_) | skip
      refine wpAny_bind (wpAny_specialOf hT F.slot_tuple_hash.lookup ?_)
      show wpAny _ _ (if (some (Value.builtin "tuple.__hash__") == some Value.none) = true then _ else _) Q E s
      rw [if_neg (by rw [beq_builtin_none]; exact Bool.false_ne_true)]
      refine wpAny_bind (wpAny_specialOf hT F.slot_tuple_hash.lookup ?_)
      show wpAny _ _ (callSpecialIfBoundUnlessNone? (.ref a) "__hash__" _ >>= _) Q E s
      refine wpAny_bind (wpAny_callSpecialIfBoundUnlessNone?_slot hT F.slot_tuple_hash (wpAny_call_entry F.slot_tuple_hash hT F.entry_tuple_hash ?_ (F.args_tuple_hash_1 _)))
      show wpAny _ _ (Builtin.Tuple.tupleItemsOf (.ref a) >>= _) _ _ s
      refine wpAny_bind (wpAny_tupleItemsOf ho hd ?_)
      refine wpAny_bind ?_
      rw [← Array.forIn_toList]
      have dl : ∀ {a b : List D}, hashDs (a ++ b) = hashDs a ++ hashDs b := by
        intro a b
        induction a with
        | nil => rfl
        | cons x a ih => rw [List.cons_append, hashDs, hashDs, ih]; rfl
      have ds' : ∀ {a b : List D}, drDs (a ++ b) = drDs a + drDs b := by
        intro a b
        induction a with
        | nil => rw [List.nil_append, drDs, Nat.zero_add]
        | cons x a ih => rw [List.cons_append, drDs, drDs, ih, Nat.add_assoc]
      refine wpAny_forIn_list _
        (fun rest (b : Array Int) s' => ∃ done left, ds = done ++ left ∧ HDs s.heap left rest ∧ b.toList = hashDs done ∧ s' = { s with toks := s.toks + drDs done })
        _ ?_ ?_ _ _ ⟨[], ds, rfl, hi, rfl, rfl⟩
      · rintro x rest b s' ⟨done, left, e, hl, hb, rfl⟩
        cases left with
        | nil => rw [HDs] at hl; cases hl
        | cons d left =>
          rw [HDs] at hl
          obtain ⟨x', r', e', hx, hl'⟩ := hl
          cases e'
          have hdn : dep d ≤ n := by
            have : ds[done.length]? = some d := by rw [e, List.getElem?_append_right (Nat.le_refl _), Nat.sub_self]; rfl
            have := dep_le this
            omega
          refine wpAny_bind (ih (s := { s with toks := s.toks + drDs done }) hdn (by rw [in1_units]; omega) hx ?_)
          have nx : ∃ done' left', ds = done' ++ left' ∧ HDs s.heap left' rest ∧ (b.push (hashD d)).toList = hashDs done' ∧ ({ s with toks := s.toks + drDs done + drD d } : Shared) = { s with toks := s.toks + drDs done' } :=
            ⟨done ++ [d], left, by rw [e]; simp, hl', by rw [Array.toList_push, hb, dl, hashDs, hashDs], by rw [ds', drDs, drDs, Nat.add_zero, Nat.add_assoc]⟩
          first
            | exact wpAny_pure nx
            | exact wpAny_bind (wpAny_pure (wpAny_pure nx))
      · rintro b s' ⟨done, left, e, hl, hb, rfl⟩
        cases left with
        | cons d left => rw [HDs] at hl; obtain ⟨_, _, hl, _⟩ := hl; cases hl
        | nil =>
          rw [List.append_nil] at e
          subst e
          show wpAny _ _ (retInt (Builtin.Tuple.tupleHashOf b.toList)) _ _ _
          rw [hb]
          refine wpAny_ret_mkInt ?_
          show wpAny _ _ (if (decide (-(2 : Int) ^ 63 ≤ Builtin.Tuple.tupleHashOf (hashDs ds)) && decide (Builtin.Tuple.tupleHashOf (hashDs ds) < 2 ^ 63)) = true then _ else _) Q E _
          unfold reduceHash at h
          by_cases hr : (decide (-(2 : Int) ^ 63 ≤ Builtin.Tuple.tupleHashOf (hashDs ds)) && decide (Builtin.Tuple.tupleHashOf (hashDs ds) < 2 ^ 63)) = true
          · rw [if_pos hr]
            rw [if_pos hr] at h
            exact wpAny_pure (by simpa [Nat.add_assoc] using h)
          · rw [if_neg hr]
            rw [if_neg hr] at h
            exact wpAny_bind (wpAny_rule (wpAny_pure (by simpa [Nat.add_assoc] using h)))
    | _ => rw [HD] at k; exact k.elim
private theorem eq_deep (n : Nat) : ∀ {A : Around} {s : Shared} {d e : D} {u v : Value}, dep d ≤ n → A.units + n < cLine → HD s.heap d u → HD s.heap e v → EqAt A s u v (decide (d = e)) := by
  induction n with
  | zero =>
    intro A s d e u v hn hu k l
    cases d with
    | int i =>
      rw [HD] at k; obtain ⟨t, rfl⟩ := k
      cases e with
      | int j =>
        rw [HD] at l; obtain ⟨t', rfl⟩ := l
        have : decide (D.int i = D.int j) = (i == j) := by
          by_cases z : i = j
          · subst z; simp
          · rw [beq_eq_false_iff_ne.mpr z, decide_eq_false]; intro y; cases y; exact z rfl
        rw [this]
        exact EqAt.int_int _ _ _ _
      | tup es =>
        rw [HD] at l; obtain ⟨b, jts, rfl, l1, l2⟩ := l
        rw [decide_eq_false (by intro y; cases y)]
        exact EqAt.int_tuple _ _ l1 (by omega)
      | _ => rw [HD] at l; exact l.elim
    | tup ds => rw [dep] at hn; omega
    | _ => rw [HD] at k; exact k.elim
  | succ n ih =>
    intro A s d e u v hn hu k l
    cases d with
    | int i => exact ih (d := .int i) (Nat.zero_le _) (by omega) k l
    | tup ds =>
      rw [dep] at hn
      have k0 := k
      rw [HD] at k
      obtain ⟨a, its, rfl, k1, k2⟩ := k
      cases e with
      | int j =>
        rw [HD] at l; obtain ⟨t', rfl⟩ := l
        rw [decide_eq_false (by intro y; cases y)]
        exact EqAt.tuple_int _ _ k1 (by omega)
      | tup es =>
        have l0 := l
        rw [HD] at l; obtain ⟨b, jts, rfl, l1, l2⟩ := l
        by_cases ab : a = b
        · subst ab
          have := HD.inj k0 l0
          rw [this, decide_eq_true rfl]
          exact EqAt.same _
        · refine EqAt.of_refs ab ?_
          have rc := RcAt.tuples (A := A) (e := fun j => decide (ds.getD j .non = es.getD j .non)) k1 l1 (by omega) fun j h1 h2 => by
            have z1 := k2.length
            have z2 := l2.length
            have h1' : j < ds.length := by rw [z1]; simpa using h1
            have h2' : j < es.length := by rw [z2]; simpa using h2
            have e1 : ds[j]? = some ds[j] := List.getElem?_eq_getElem h1'
            have e2 : es[j]? = some es[j] := List.getElem?_eq_getElem h2'
            obtain ⟨u, hu', ru⟩ := k2.get e1
            obtain ⟨v, hv', rv⟩ := l2.get e2
            have g1 : its[j] = u := by
              rw [Array.getElem?_toList, Array.getElem?_eq_getElem h1] at hu'
              exact Option.some.inj hu'
            have g2 : jts[j] = v := by
              rw [Array.getElem?_toList, Array.getElem?_eq_getElem h2] at hv'
              exact Option.some.inj hv'
            rw [g1, g2, List.getD_eq_getElem?_getD, List.getD_eq_getElem?_getD, e1, e2]
            exact ih (d := ds[j]) (e := es[j]) (by have := dep_le e1; omega) (by rw [in1_units]; omega) ru rv
          have z1 : ds.length = its.size := by rw [k2.length]; simp
          have z2 : es.length = jts.size := by rw [l2.length]; simp
          have : ((List.range (min its.size jts.size)).all (fun j => decide (ds.getD j .non = es.getD j .non)) && its.size == jts.size) = decide (D.tup ds = D.tup es) := by
            rw [← z1, ← z2]
            by_cases q : ds = es
            · subst q
              simp
            · rw [decide_eq_false (by intro y; cases y; exact q rfl)]
              rw [Bool.and_eq_false_iff]
              by_cases y : ds.length = es.length
              · refine .inl ?_
                rw [List.all_eq_false]
                apply Classical.byContradiction
                intro hc
                apply q
                apply List.ext_getElem y
                intro i i1 i2
                apply Classical.byContradiction
                intro hne
                apply hc
                refine ⟨i, List.mem_range.mpr (by omega), ?_⟩
                rw [List.getD_eq_getElem?_getD, List.getD_eq_getElem?_getD, List.getElem?_eq_getElem i1, List.getElem?_eq_getElem i2]
                simpa using hne
              · exact .inr (by simpa using y)
          rw [this] at rc
          exact rc
      | _ => rw [HD] at l; exact l.elim
    | _ => rw [HD] at k; exact k.elim
private theorem quiet_deep (n : Nat) : ∀ {A : Around} {E : Value → Shared → Prop} {s : Shared} {d : D} {u : Value} {Q : Bool → Shared → Prop}, dep d ≤ n → HD s.heap d u → Q true s → wpAny (model prog w) A (eqIsQuiet n u) Q E s := by
  induction n with
  | zero =>
    intro A E s d u Q hn k h
    cases d with
    | int i => rw [HD] at k; obtain ⟨t, rfl⟩ := k; rw [eqIsQuiet_byValue _ rfl]; exact wpAny_pure h
    | tup ds => rw [dep] at hn; omega
    | _ => rw [HD] at k; exact k.elim
  | succ n ih =>
    intro A E s d u Q hn k h
    cases d with
    | int i => rw [HD] at k; obtain ⟨t, rfl⟩ := k; rw [eqIsQuiet_byValue _ rfl]; exact wpAny_pure h
    | tup ds =>
      rw [dep] at hn
      rw [HD] at k
      obtain ⟨a, items, rfl, k1, hi⟩ := k
      have hT := isTup_ty k1
      obtain ⟨o, ho, _, m, hd⟩ := k1
      unfold eqIsQuiet
      refine wpAny_bind (wpAny_specialOf hT F.slot_tuple_eq.lookup ?_)
      show wpAny _ _ (isInstance (.ref a) (.type "tuple") >>= _) _ _ s
      refine wpAny_bind (wpAny_isInstance hT isSubtype_tuple_tuple ?_)
      simp only [Bool.not_true, Bool.false_eq_true, if_false]
      refine wpAny_bind (wpAny_seqItems ho hd ?_)
      refine wpAny_bind ?_
      show wpAny _ _ (forIn items _ _) _ _ s
      rw [← Array.forIn_toList]
      refine wpAny_forIn_list _ (fun rest r s' => r.1 = none ∧ s' = s ∧ ∃ done left, ds = done ++ left ∧ HDs s.heap left rest) _ ?_ ?_ _ _ ⟨rfl, rfl, [], ds, rfl, hi⟩
      · rintro v rest r s' ⟨hr, rfl, done, left, e, hl⟩
        cases left with
        | nil => rw [HDs] at hl; cases hl
        | cons d left =>
          rw [HDs] at hl
          obtain ⟨x', r', e', hx, hl'⟩ := hl
          cases e'
          have hdn : dep d ≤ n := by
            have : ds[done.length]? = some d := by rw [e, List.getElem?_append_right (Nat.le_refl _), Nat.sub_self]; rfl
            have := dep_le this
            omega
          refine wpAny_bind (ih hdn hx ?_)
          simp only [Bool.not_true, Bool.false_eq_true, if_false]
          exact wpAny_pure ⟨rfl, rfl, done ++ [d], left, by rw [e]; simp, hl'⟩
      · rintro ⟨r1, r2⟩ s' ⟨hr, rfl, _⟩
        simp only at hr
        subst hr
        exact wpAny_pure h
    | _ => rw [HD] at k; exact k.elim
noncomputable def treeKind (prog : Program) (w : World) : HeapKind prog w D where
  is := fun h d a => HD h d (.ref a) ∧ dep d ≤ 8
  hash := hashD
  draws := drD
  room := fun A => A.units + 8 < cLine
  inj := fun hx hy => HD.inj hx.1 hy.1
  keeps := fun x ho hd hs => ⟨x.1.keep (isTup_keep ho hd hs), x.2⟩
  pyHash := fun hu hk h => hash_deep 8 hk.2 hu hk.1 h
  eqBool := fun hu hx hy h => eq_deep 8 hx.2 hu hx.1 hy.1 _ _ _ _ h
  quiet := fun hk h => quiet_deep 8 hk.2 hk.1 h
end
section
variable {prog : Program} {w : World} {K : Type} [DecidableEq K] {knd : HeapKind prog w K}
private theorem wpAny_dictSetDefault_heap {A : Around} {E : Value → Shared → Prop} {s : Shared} {d a : Addr} {xs : List (K × Addr × Value)} {k : K} {v : Value} {Q : Value → Shared → Prop} (hu : knd.room A) (hkey : knd.is s.heap k a) (hm : s.heap.DictOfH knd d xs)
    (h1 : ∀ p, atKey xs k = some p → Q p.2 { s with toks := s.toks + knd.draws k })
    (h2 : atKey xs k = none → ∀ h', h'.DictOfH knd d (xs ++ [(k, a, v)]) → Heap.SameBut d s.heap h' → Q v { s with heap := h', toks := s.toks + knd.draws k })
    (hsz : xs.length ≤ sizeLine) :
    wpAny (model prog w) A (dictSetDefault d (.ref a) v) Q E s := by
  obtain ⟨o, es, ep, ho, hc, hd, he, his, hn⟩ := hm
  unfold dictSetDefault
  try with_reducible refine wpAny_holding ?_
  refine wpAny_bind (knd.pyHash hu hkey ?_)
  refine wpAny_bind (wpAny_dictFind_heap (s := { s with toks := s.toks + knd.draws k }) hu hkey ho hd he his hn ?_ ?_)
  · intro hno
    have hnot : k ∉ xs.map (·.1) := not_mem_keys_of_get hno
    have q := h2 (atKey_none_of_get hno)
    refine wpAny_bind (wpAny_rule (wpAny_bind (wpAny_updateDictKeys (hz := by have e := size_of_entries he; omega) (s := { s with toks := s.toks + knd.draws k }) ho hd (wpAny_pure (q _ ⟨_, _, ep + 1, Heap.get?_update_self _ ho (Obj.isFreed_of_dict (Obj.data_mapDictKeys hd _)),
      hc.mapDictKeys _, Obj.data_mapDictKeys hd _, ?_, ?_, ?_⟩ (Heap.SameBut.update ..))))))
    · simp [he, entryOfKey]
    · intro x hx
      rcases List.mem_append.mp hx with hx | hx
      · exact knd.keeps (his x hx) ho hd (Heap.SameBut.update ..)
      · simp only [List.mem_singleton] at hx
        subst hx
        exact knd.keeps hkey ho hd (Heap.SameBut.update ..)
    · rw [List.map_append, List.nodup_append]
      refine ⟨hn, by simp, ?_⟩
      intro x hx y hy
      simp only [List.map_cons, List.map_nil, List.mem_singleton] at hy
      subst hy
      exact fun e => hnot (e ▸ hx)
  · intro j p hj
    have q := h1 p (atKey_of_get hn hj)
    refine wpAny_bind (wpAny_dictEntries (s := { s with toks := s.toks + knd.draws k }) ho hd ?_)
    rw [entry_at he j, hj]
    exact wpAny_bind (wpAny_rule (wpAny_pure q))
private theorem meetsH_dict_setdefault (knd : HeapKind prog w K) (d a : Addr) (hd : (d == sysModules) = false) (dflt : Value) :
    MeetsIn prog w (Builtin.«dict.setdefault» ⟨[.ref d, .ref a, dflt], []⟩) (fun A R s => knd.room A.in1 ∧ ∃ k xs, knd.is s.heap k a ∧ s.heap.DictOfH knd d xs ∧ xs.length ≤ sizeLine ∧
      (∀ p, atKey xs k = some p → R (.ok (.ret p.2)) { s with toks := s.toks + knd.draws k }) ∧
      (atKey xs k = none → ∀ h', h'.DictOfH knd d (xs ++ [(k, a, dflt)]) → Heap.SameBut d s.heap h' → R (.ok (.ret dflt)) { s with heap := h', toks := s.toks + knd.draws k })) :=
  .of_wp fun A R s ⟨hu, k, xs, hkey, hm, hz, h1, h2⟩ => by
    unfold Builtin.«dict.setdefault»
    refine wpAny_bind ?_
    unfold Builtin.Dict.keyAndDefault
    refine wpAny_bind (wpAny_notOrdered_dict hm.typeIs ?_)
    show wpAny _ _ (pure (d, Value.ref a, some dflt)) _ _ s
    refine wpAny_pure ?_
    show wpAny _ _ (if (d == sysModules) = true then _ else (dictSetDefault d (.ref a) dflt >>= _)) _ _ s
    rw [if_neg (by rw [hd]; exact Bool.false_ne_true)]
    exact wpAny_bind (wpAny_dictSetDefault_heap hu hkey hm (fun p hp => wpAny_pure ⟨p.2, rfl, h1 p hp⟩) (fun hn h' hm' hs' => wpAny_pure ⟨dflt, rfl, h2 hn h' hm' hs'⟩) hz)
end
section
variable {prog : Program} {w : World} {A : Around} {E : Value → Shared → Prop} {s : Shared}
noncomputable def RawD (h : Heap) (d : Addr) (es : Array DictEntry) (ep : Nat) : Prop := ∃ o, h.get? d = some o ∧ o.ExactDict ∧ o.data = .dict es ep
private theorem RawD.ty {d : Addr} {es : Array DictEntry} {ep : Nat} (h : RawD s.heap d es ep) : s.TypeIs (.ref d) "dict" := let ⟨o, h1, h2, _⟩ := h; ⟨o, h1, h2.1⟩
private theorem meets_values (d : Addr) (hd : (d == sysModules) = false) :
    MeetsIn prog w (Builtin.«dict.values» ⟨[.ref d], []⟩) (fun _ R s => (∃ es ep, RawD s.heap d es ep) ∧
      R (.ok (.ret (.ref s.heap.objs.size))) { s with heap := s.heap.push { cls := .type "dict_values", data := .fields #[.ref d] } }) :=
  .of_wp fun A R s ⟨⟨es, ep, hm⟩, h⟩ => by
    refine wpAny_bind ?_
    unfold Builtin.Dict.noArgs
    refine wpAny_bind (wpAny_notOrdered_dict hm.ty ?_)
    show wpAny _ _ (pure d) _ _ s
    refine wpAny_pure ?_
    show wpAny _ _ (Builtin.Dict.showsAll d >>= _) _ _ s
    unfold Builtin.Dict.showsAll
    rw [if_neg (by rw [hd]; exact Bool.false_ne_true)]
    refine wpAny_bind (wpAny_pure ?_)
    exact wpAny_bind (wpAny_newObj_type (wpAny_pure ⟨_, rfl, h⟩))
private theorem iter_values {v d : Addr} {es : Array DictEntry} {ep : Nat} {Q : Value → Shared → Prop} (hv : s.heap.IsValuesView v d) (hm : RawD s.heap d es ep)
    (hQ : Q (.ref s.heap.objs.size) { s with heap := s.heap.push { cls := .type "dict_valueiterator", data := .fields #[.ref d, .int 0 0, .int es.size 0, .int ep 0] } }) :
    wpAny (model prog w) A (pyIter (.ref v)) Q E s := by
  obtain ⟨ov, hov, hcv, hdv⟩ := id hv
  obtain ⟨o, ho, hc, hdat⟩ := id hm
  refine wpAny_pyIter_slot hv.typeIs F.slot_dict_values_iter (wpAny_call_entry F.slot_dict_values_iter hv.typeIs F.entry_dict_values_iter ?_ (F.args_dict_values_iter_1 _))
  unfold Builtin.«dict_values.__iter__»
  refine wpAny_bind (wpAny_pure ?_)
  refine wpAny_bind ?_
  unfold Builtin.Dict_items.dictOf
  refine wpAny_bind (wpAny_field hov hdv (x := .ref d) rfl (wpAny_pure ?_))
  refine wpAny_bind ?_
  unfold Builtin.Dict_items.newIterator
  refine wpAny_bind (wpAny_dictEntries ho hdat ?_)
  refine wpAny_bind (wpAny_dictEpoch ho hdat ?_)
  have hown : Builtin.Dict_items.ownsTuple "dict_valueiterator" = false := by decide
  simp only [hown, Bool.false_eq_true, if_false]
  refine wpAny_newObj_type (wpAny_pure ⟨_, rfl, "dict_valueiterator", _, ⟨_, Heap.get?_push_size _ rfl, rfl⟩, F.slot_dict_valueiterator_next.lookup, ?_⟩)
  simpa [rawInt] using hQ
private theorem next_values {it d : Addr} {i ep : Nat} {es : Array DictEntry} {Q : Option Value → Shared → Prop} (hit : s.heap.IsValIter it d i es.size ep)
    (hm : RawD s.heap d es ep) (hlt' : i < es.size)
    (hQ : ∀ h', h'.IsValIter it d (i + 1) es.size ep → Heap.SameBut it s.heap h' → Q (some es[i].val) { s with heap := h' }) :
    wpAny (model prog w) A (pyNext (.ref it)) Q E s := by
  obtain ⟨o, ho, hc, hd⟩ := id hit
  obtain ⟨od, hod, hcd, hdd⟩ := id hm
  unfold pyNext
  refine wpAny_bind (wpAny_attempt (wpAny_callSpecial?_slot (name := Str.ofString "__next__") hit.typeIs F.slot_dict_valueiterator_next
    (wpAny_call_entry F.slot_dict_valueiterator_next hit.typeIs F.entry_dict_valueiterator_next ?_ (F.args_dict_valueiterator_next_1 _))))
  refine wpAny_bind (wpAny_pure ?_)
  refine wpAny_bind ?_
  refine wpAny_bind ?_
  first | refine wpAny_bind (wpAny_typeNameOfWhole_valiter hit.typeIs (wpAny_pure ?_)) | refine wpAny_bind (wpAny_typeNameOf_valiter hit.typeIs (wpAny_pure ?_))
  refine wpAny_bind (wpAny_fieldsOf ho hd ?_)
  have hown : Builtin.Dict_items.ownsTuple "dict_valueiterator" = false := by decide
  simp only [hown, Bool.false_eq_true, if_false]
  show wpAny _ _ (if (Value.ref d == Value.none) = true then _ else _) _ _ s
  rw [if_neg (show ¬ ((Value.ref d == Value.none) = true) from Bool.false_ne_true)]
  refine wpAny_bind (wpAny_pure ?_)
  refine wpAny_bind (wpAny_dictEntries hod hdd ?_)
  rw [if_neg (by simp)]
  refine wpAny_bind (wpAny_pure ?_)
  refine wpAny_bind (wpAny_dictEpoch hod hdd ?_)
  rw [if_neg (by simp)]
  refine wpAny_pure ?_
  simp only [show ¬ ((i : Int) < 0) from by omega, if_false, Int.toNat_natCast, Array.getElem?_eq_getElem hlt']
  refine wpAny_bind ?_
  first | refine wpAny_bind (wpAny_typeNameOfWhole_valiter hit.typeIs (wpAny_pure ?_)) | refine wpAny_bind (wpAny_typeNameOf_valiter hit.typeIs (wpAny_pure ?_))
  refine wpAny_bind (wpAny_isOneOf_valiter hit.typeIs ?_)
  show wpAny _ _ (setField (.ref it) 1 (rawInt ((i : Int) + 1)) >>= _) _ _ s
  refine wpAny_bind (wpAny_setField ho hd (by simp) ?_)
  have hit' : (s.heap.update it (Obj.mapFields (·.setIfInBounds 1 (rawInt ((i : Int) + 1))))).IsValIter it d (i + 1) es.size ep :=
    ⟨_, Heap.get?_update_self _ ho (Obj.isFreed_of_fields (Obj.data_mapFields hd _)), (Obj.cls_mapFields ..).trans hc, by rw [Obj.data_mapFields hd]; simp [rawInt]⟩
  refine wpAny_bind (wpAny_holding ?_)
  refine wpAny_bind (wpAny_isOneOf_valiter (s := { s with heap := s.heap.update it (Obj.mapFields (·.setIfInBounds 1 (rawInt ((i : Int) + 1)))) }) hit'.typeIs ?_)
  refine wpAny_bind (wpAny_isOneOf_valiter (s := { s with heap := s.heap.update it (Obj.mapFields (·.setIfInBounds 1 (rawInt ((i : Int) + 1)))) }) hit'.typeIs ?_)
  show wpAny _ _ (pure es[i].val) _ _ _
  exact wpAny_pure (wpAny_pure ⟨_, rfl, wpAny_pure (hQ _ hit' (Heap.SameBut.update ..))⟩)
private theorem end_values {it d : Addr} {i ep : Nat} {es : Array DictEntry} {Q : Option Value → Shared → Prop} (hh : A.handled = none) (hit : s.heap.IsValIter it d i es.size ep)
    (hm : RawD s.heap d es ep) (hge : es.size ≤ i)
    (hQ : ∀ h', Heap.ExtBut it s.heap h' → Q none { s with heap := h' }) : wpAny (model prog w) A (pyNext (.ref it)) Q E s := by
  obtain ⟨o, ho, hc, hd⟩ := id hit
  obtain ⟨od, hod, hcd, hdd⟩ := id hm
  unfold pyNext
  refine wpAny_bind (wpAny_attempt (wpAny_callSpecial?_slot (name := Str.ofString "__next__") hit.typeIs F.slot_dict_valueiterator_next
    (wpAny_call_entry F.slot_dict_valueiterator_next hit.typeIs F.entry_dict_valueiterator_next ?_ (F.args_dict_valueiterator_next_1 _))))
  refine wpAny_bind (wpAny_pure ?_)
  refine wpAny_bind ?_
  refine wpAny_bind ?_
  first | refine wpAny_bind (wpAny_typeNameOfWhole_valiter hit.typeIs (wpAny_pure ?_)) | refine wpAny_bind (wpAny_typeNameOf_valiter hit.typeIs (wpAny_pure ?_))
  refine wpAny_bind (wpAny_fieldsOf ho hd ?_)
  have hown : Builtin.Dict_items.ownsTuple "dict_valueiterator" = false := by decide
  simp only [hown, Bool.false_eq_true, if_false]
  show wpAny _ _ (if (Value.ref d == Value.none) = true then _ else _) _ _ s
  rw [if_neg (show ¬ ((Value.ref d == Value.none) = true) from Bool.false_ne_true)]
  refine wpAny_bind (wpAny_pure ?_)
  refine wpAny_bind (wpAny_dictEntries hod hdd ?_)
  rw [if_neg (by simp)]
  refine wpAny_bind (wpAny_pure ?_)
  refine wpAny_bind (wpAny_dictEpoch hod hdd ?_)
  rw [if_neg (by simp)]
  refine wpAny_pure ?_
  simp only [show ¬ ((i : Int) < 0) from by omega, if_false, Int.toNat_natCast, Array.getElem?_eq_none hge]
  refine wpAny_bind ?_
  first | refine wpAny_bind (wpAny_typeNameOfWhole_valiter hit.typeIs (wpAny_pure ?_)) | refine wpAny_bind (wpAny_typeNameOf_valiter hit.typeIs (wpAny_pure ?_))
  show wpAny _ _ (setField (.ref it) 0 .none >>= _) _ _ s
  refine wpAny_bind (wpAny_setField ho hd (by simp) ?_)
  show wpAny _ _ (newExc (.type "StopIteration") [] >>= _) _ _ _
  refine wpAny_bind ?_
  simp only [newExc, newTuple]
  refine wpAny_bind (wpAny_newObj_type ?_ (by size_fits))
  refine wpAny_bind (m := firstArgMember _ _) (wpAny_of_eq (a := Value.none) (by first | rfl | (simp only [firstArgMember]; rfl)) ?_)
  refine wpAny_newObj_type ?_ (by size_fits)
  simp only [raiseNew]
  refine wpAny_bind (wpAny_handled ?_)
  rw [show A.in1.handled = none from hh]
  refine wpAny_bind (wpAny_pure (wpAny_throw ?_))
  refine wpAny_bind (wpAny_isInstance (T := "StopIteration") (b := true) ⟨_, Heap.get?_push_size _ rfl, rfl⟩ isSubtype_stop ?_)
  exact wpAny_pure (hQ _ (((Heap.SameBut.update ..).extBut.push _).push _))
noncomputable def valsE (es : Array DictEntry) : List Value := es.toList.map (·.val)
private theorem loop_vals {S it d : Addr} {ep : Nat} {es : Array DictEntry} {R : Result → Shared → Prop} {res : Value} (hh : A.in1.handled = none) (nSi : S ≠ it) (nSd : S ≠ d) (nid : it ≠ d) (hz : es.size ≤ 100000) :
    ∀ (k i : Nat) (s : Shared) (c : Nat), es.size - i = k → i ≤ es.size → s.heap.IsValIter it d i es.size ep → RawD s.heap d es ep → s.heap.get? S = some { cls := .type "list", dict := none, data := .seq ((valsE es).take i).toArray c, slots := #[] } →
    (∀ h' c', (∀ b o, b ≠ S → b ≠ it → s.heap.get? b = some o → h'.get? b = some o) → h'.get? S = some { cls := .type "list", dict := none, data := .seq (valsE es).toArray c', slots := #[] } → R (.ok (.ret res)) { s with heap := h' }) →
    codeAny (model prog w) A (.builtin "list.extend.loop" ⟨[.ref S, .ref it, res], []⟩) R s := by
  have lv : (valsE es).length = es.size := by simp [valsE]
  intro k
  induction k with
  | zero =>
    intro i s c hk hi hit hm hS hR
    have hin : i = es.size := by omega
    refine codeAny_builtin F.entry_extend_loop ?_
    rw [Around.under_plainId F.plain_extend_loop _]
    show wpAny _ A.in1 (pyNext (.ref it) >>= _) _ _ s
    refine wpAny_bind (end_values hh hit hm (by omega) fun h' kk => ?_)
    refine wpAny_pure (hR h' c (fun b o _ hb e => kk b o hb e) ?_)
    have := kk S _ nSi hS
    rw [hin, ← lv, List.take_length] at this
    exact this
  | succ k ih =>
    intro i s c hk hi hit hm hS hR
    have hlt : i < es.size := by omega
    refine codeAny_builtin F.entry_extend_loop ?_
    rw [Around.under_plainId F.plain_extend_loop _]
    show wpAny _ A.in1 (pyNext (.ref it) >>= _) _ _ s
    refine wpAny_bind (next_values hit hm hlt fun h' hit' sb => ?_)
    have kk : ∀ b o, b ≠ it → s.heap.get? b = some o → h'.get? b = some o := fun b o hb e => (sb.2 b hb).trans e
    have hS2 := kk S _ nSi hS
    show wpAny _ A.in1 (updateSeq S (·.push es[i].val) >>= _) _ _ _
    refine wpAny_bind ?_
    have lps : ((valsE es).take i).toArray.size = i := by simp [lv]; omega
    refine wpAny_updateSeq hS2 rfl (wpAny_pure ⟨plainId_quiet F.plain_extend_loop _, ?_⟩) (by rw [lps, sizeLine_eq]; omega) (by show (((valsE es).take i).toArray.push _).size ≤ sizeLine + 1; rw [Array.size_push, lps, sizeLine_eq]; omega)
    have upS := Heap.get?_update_self (Obj.mapSeq (·.push es[i].val)) hS2 rfl
    have upO : ∀ b o, b ≠ S → h'.get? b = some o → (h'.update S (Obj.mapSeq (·.push es[i].val))).get? b = some o := fun b o hb e => (Heap.get?_update_other _ _ (Ne.symm hb)).trans e
    have earr : ((valsE es).take (i + 1)).toArray = ((valsE es).take i).toArray.push es[i].val := by
      have : (valsE es)[i]? = some es[i].val := by unfold valsE; rw [List.getElem?_map, Array.getElem?_toList, Array.getElem?_eq_getElem hlt]; rfl
      rw [List.take_add_one, this]; simp
    refine ih (i + 1) { s with heap := h'.update S (Obj.mapSeq (·.push es[i].val)) } _ (by omega) hlt ?_ ?_ (by rw [earr]; exact upS) fun h'' c'' k2 q2 => ?_
    · obtain ⟨o, h1, h2⟩ := hit'
      exact ⟨o, upO _ _ (Ne.symm nSi) h1, h2⟩
    · obtain ⟨o, h1, h2⟩ := hm
      exact ⟨o, upO _ _ (Ne.symm nSd) (kk _ _ (Ne.symm nid) h1), h2⟩
    · exact hR h'' c'' (fun b o h1 h2 e => k2 b o h1 h2 (upO b o h1 (kk b o h2 e))) q2
private theorem vals_len : typeLookup (.type "dict_values") "__len__" = pure (some (.builtin "dict_values.__len__")) := by rw [typeLookup_type, builtinLookup_eq_fast]; kernel_rfl
private theorem vals_sub : isSubtype (.type "dict_values") (.type "dict_values") = pure true := by rw [isSubtype_type]; kernel_rfl
private theorem init_vals {S v d : Addr} {ep : Nat} {es : Array DictEntry} {R : Result → Shared → Prop} (hh : A.in1.handled = none) (nSv : S ≠ v) (nSd : S ≠ d) (hz : es.size ≤ 100000) (hv : s.heap.IsValuesView v d) (hm : RawD s.heap d es ep) (hSo : s.heap.get? S = some { cls := .type "list", data := .seq #[] })
    (hR : ∀ h' c', (∀ b o, b ≠ S → s.heap.get? b = some o → h'.get? b = some o) → h'.get? S = some { cls := .type "list", dict := none, data := .seq (valsE es).toArray c', slots := #[] } → R (.ok (.ret .none)) { s with heap := h' }) :
    wpAny (model prog w) A.in1 (Builtin.«list.__init__» ⟨[.ref S, .ref v], []⟩)
      (fun fin s' => match fin with | .done f => R (.ok f) s' | .again c' => c'.quiet = true ∧ codeAny (model prog w) A c' R s') (fun e s' => R (.error e) s') s := by
  show wpAny _ A.in1 (do let was ← Builtin.List.listItems (.ref S); Builtin.List.listUpdate (.ref S) (fun _ => #[]); letGo was.toList.reverse; Builtin.List.listExtendWith (.ref S) (.ref v) .none) _ _ s
  refine wpAny_bind ?_
  unfold Builtin.List.listItems
  refine wpAny_bind (wpAny_seqItems hSo rfl (wpAny_pure ?_))
  show wpAny _ A.in1 (updateSeq S (fun _ => #[]) >>= fun _ => letGo (#[] : Array Value).toList.reverse >>= fun _ => Builtin.List.listExtendWith (.ref S) (.ref v) .none) _ _ s
  refine wpAny_bind (wpAny_updateSeq hSo rfl (wpAny_bind (wpAny_letGo ?_)))
  have q1 := Heap.get?_update_self (Obj.mapSeq (fun _ => (#[] : Array Value))) hSo rfl
  have o1 : ∀ b o, b ≠ S → s.heap.get? b = some o → (s.heap.update S (Obj.mapSeq (fun _ => (#[] : Array Value)))).get? b = some o := fun b o hb e => (Heap.get?_update_other _ _ (Ne.symm hb)).trans e
  generalize hg1 : s.heap.update S (Obj.mapSeq (fun _ => (#[] : Array Value))) = g1 at q1 o1
  have v1 : g1.IsValuesView v d := let ⟨o, h1, h2⟩ := hv; ⟨o, o1 _ _ (Ne.symm nSv) h1, h2⟩
  have m1 : RawD g1 d es ep := let ⟨o, h1, h2⟩ := hm; ⟨o, o1 _ _ (Ne.symm nSd) h1, h2⟩
  have T1 : Shared.TypeIs { s with heap := g1 } (.ref v) "dict_values" := Heap.IsValuesView.typeIs (s := { s with heap := g1 }) v1
  unfold Builtin.List.listExtendWith
  refine wpAny_bind (wpAny_typeOf T1 ?_)
  have b1 : Builtin.List.listSameRef (.ref S) (.ref v) = false := by simp [Builtin.List.listSameRef, nSv]
  have b2 : (Value.type "dict_values" == Value.type "list") = false := by decide
  have b3 : (Value.type "dict_values" == Value.type "tuple") = false := by decide
  simp only [b1, b2, b3, Bool.or_false, Bool.false_eq_true, if_false]
  refine wpAny_bind (iter_values (s := { s with heap := g1 }) v1 m1 (wpAny_bind (wpAny_holding ?_)))
  have it0 : (g1.push { cls := .type "dict_valueiterator", data := .fields #[.ref d, .int 0 0, .int es.size 0, .int ep 0] }).get? g1.objs.size = some { cls := .type "dict_valueiterator", data := .fields #[.ref d, .int 0 0, .int es.size 0, .int ep 0] } := Heap.get?_push_size _ rfl
  have o2 : ∀ b o, g1.get? b = some o → (g1.push { cls := .type "dict_valueiterator", data := .fields #[.ref d, .int 0 0, .int es.size 0, .int ep 0] }).get? b = some o := fun b o e => Heap.get?_push_of_some _ e
  have nit : ∀ b o, g1.get? b = some o → b ≠ g1.objs.size := fun b o e => Nat.ne_of_lt (Heap.lt_size e)
  show wpAny _ A.in1 _ _ _ { s with heap := g1.push { cls := .type "dict_valueiterator", data := .fields #[.ref d, .int 0 0, .int es.size 0, .int ep 0] } }
  generalize g1.push { cls := .type "dict_valueiterator", data := .fields #[.ref d, .int 0 0, .int es.size 0, .int ep 0] } = g2 at it0 o2
  have v2 : g2.IsValuesView v d := let ⟨o, h1, h2⟩ := v1; ⟨o, o2 _ _ h1, h2⟩
  have T2 : Shared.TypeIs { s with heap := g2 } (.ref v) "dict_values" := Heap.IsValuesView.typeIs (s := { s with heap := g2 }) v2
  unfold Builtin.List.listLengthHint
  refine wpAny_bind (wpAny_specialOf T2 vals_len ?_)
  show wpAny _ A.in1 (isInstance (.ref v) (.type "dict_values") >>= _) _ _ _
  refine wpAny_bind (wpAny_isInstance T2 vals_sub ?_)
  simp only [Bool.not_true, Bool.false_eq_true, if_false]
  show wpAny _ A.in1 (typeOf (.ref v) >>= _) _ _ _
  refine wpAny_bind (wpAny_typeOf T2 (wpAny_pure ?_))
  show wpAny _ A.in1 (rule "list.extend.makes-room" >>= fun _ => Builtin.List.listTouch (.ref S) >>= fun _ => again (.builtin "list.extend.loop" ⟨[.ref S, .ref g1.objs.size, .none], []⟩)) _ _ _
  have q1' := o2 _ _ q1
  refine wpAny_bind (wpAny_rule (wpAny_bind ?_))
  show wpAny _ A.in1 (updateSeq S (·.push .none) >>= fun _ => updateSeq S (·.pop)) _ _ _
  refine wpAny_bind (wpAny_updateSeq q1' rfl ?_)
  have q2 := Heap.get?_update_self (Obj.mapSeq (·.push Value.none)) q1' rfl
  have o3 : ∀ b o, b ≠ S → g2.get? b = some o → (g2.update S (Obj.mapSeq (·.push Value.none))).get? b = some o := fun b o hb e => (Heap.get?_update_other _ _ (Ne.symm hb)).trans e
  refine wpAny_updateSeq (hz := by seq_fits) q2 rfl ?_
  have q3 := Heap.get?_update_self (Obj.mapSeq (·.pop)) q2 rfl
  have o4 : ∀ b o, b ≠ S → g2.get? b = some o → ((g2.update S (Obj.mapSeq (·.push Value.none))).update S (Obj.mapSeq (·.pop))).get? b = some o := fun b o hb e => (Heap.get?_update_other _ _ (Ne.symm hb)).trans (o3 b o hb e)
  refine wpAny_pure ⟨plainId_quiet F.plain_extend_loop _, ?_⟩
  have nSi : S ≠ g1.objs.size := nit _ _ q1
  have nid : g1.objs.size ≠ d := let ⟨o, h1, _⟩ := m1; Ne.symm (nit _ _ h1)
  refine loop_vals (res := .none) hh nSi nSd nid hz es.size 0 _ _ rfl (Nat.zero_le _) ⟨_, o4 _ _ (Ne.symm nSi) it0, rfl, rfl⟩ (let ⟨o, h1, h2⟩ := m1; ⟨o, o4 _ _ (Ne.symm nSd) (o2 _ _ h1), h2⟩) q3 fun h' c' kk u1 => ?_
  exact hR h' c' (fun b o hb e => kk b o hb (nit _ _ (o1 b o hb e)) (o4 b o hb (o2 b o (o1 b o hb e)))) u1
end
noncomputable def entD (x : D × Addr × Value) : DictEntry := ⟨hashD x.1, .ref x.2.1, x.2.2⟩
noncomputable def IsDT (p : Addr) (xs : List (D × Addr × Value)) : Heap → Prop := fun h => (p == sysModules) = false ∧ xs.length ≤ sizeLine ∧ (xs.map (·.1)).Nodup ∧ ∃ o es ep, h.get? p = some o ∧ o.ExactDict ∧ o.data = .dict es ep ∧ es.toList = xs.map entD
private theorem dt_ok {P : Program} {w : World} {H : Hp} {h : Heap} {p : Addr} {xs : List (D × Addr × Value)} (k : IsDT p xs h) : ObjOk P w H h p (.ext (IsDT p xs)) := by
  refine ⟨k, ?_, fun h1 h2 ⟨a1, a2, a3, o, es, ep, b1, b2⟩ e => ⟨a1, a2, a3, o, es, ep, e o b1, b2⟩⟩
  obtain ⟨_, _, _, o, _, _, h1, _⟩ := k
  exact ⟨o, h1⟩
private theorem dt_at {X : Cx} {pins : List (Addr × Obj)} {σ : L2.St} {H : Hp} {s : Shared} {p : Addr} {xs : List (D × Addr × Value)} (I : Inv X pins σ H s) (h : H p = some (.ext (IsDT p xs))) : IsDT p xs s.heap := (show ObjOk X.prog X.w H s.heap p (.ext (IsDT p xs)) from I.hok p _ h).1
private theorem dt_ty {s : Shared} {p : Addr} {xs : List (D × Addr × Value)} (h : IsDT p xs s.heap) : s.TypeIs (.ref p) "dict" ∧ ∀ b, Value.ref p = .ref b → ∃ ob, s.heap.get? b = some ob ∧ ob.dict = none := by
  obtain ⟨_, _, _, o, es, ep, h1, h2, _⟩ := h
  refine ⟨⟨o, h1, h2.1⟩, fun b e => ?_⟩
  cases e
  exact ⟨o, h1, h2.2.1⟩
section
variable {X : Cx} {o e f : Expr} {es : List Expr} {td : TE} {ta : TA} {apos cpos pos : Pos}
noncomputable def tNewDT : TE := fun _ H Q => ∀ p, H p = none → Q (.ref p) (upd H p (.ext (IsDT p [])))
private theorem pe_dnewD : PE X (.Dict [] [] pos) tNewDT := fun pins s σ H Q I h =>
  wpAny_Dict_empty ⟨.ref s.heap.objs.size, _, I.laid (a := s.heap.objs.size) (o := .ext (IsDT s.heap.objs.size [])) (t' := s.toks) (fun _ _ q => Heap.get?_push_of_some _ q) (Nat.le_refl _) (dt_ok ⟨beq_eq_false_iff_ne.mpr (Ne.symm (Nat.ne_of_lt I.big)), Nat.zero_le _, List.nodup_nil, _, #[], 0, Heap.get?_push_size _ rfl, ⟨rfl, rfl, rfl⟩, rfl, rfl⟩), rfl, h _ (I.hok.fresh (Nat.le_refl _))⟩
noncomputable def tSD (X : Cx) (td : TE) (ta : TA) : TE := fun σ H Q => td σ H fun x H1 => ∃ a xs0, x = .ref a ∧ H1 a = some (.ext (IsDT a xs0)) ∧ ta σ H1 fun vs H2 => ∃ (b : Addr) (v : V) (kd : D) (xs : List (D × Addr × Value)), vs = [.ref b, v] ∧ H2 a = some (.ext (IsDT a xs)) ∧ dep kd ≤ 8 ∧ xs.length < sizeLine ∧ (∀ x ∈ xs, dep x.1 ≤ 8) ∧
  (∀ (pins : List (Addr × Obj)) (s : Shared), Inv X pins σ H2 s → HD s.heap kd (.ref b) ∧ ∀ x ∈ xs, HD s.heap x.1 (.ref x.2.1)) ∧
  (∀ p, atKey xs kd = some p → ∃ v', RelV v' p.2 ∧ Q v' H2) ∧ (atKey xs kd = none → ∀ u, RelV v u → Q v (upd H2 a (.ext (IsDT a (xs ++ [(kd, b, u)])))))
private theorem dt_set {pins : List (Addr × Obj)} {σ : L2.St} {H : Hp} {s : Shared} {a b : Addr} {v : V} {u : Value} {kd : D} {xs : List (D × Addr × Value)} {Q : VK} (hu : X.A.units + 10 < cLine) (I : Inv X pins σ H s) (ha : H a = some (.ext (IsDT a xs))) (dk : dep kd ≤ 8) (lx : xs.length < sizeLine) (dx : ∀ x ∈ xs, dep x.1 ≤ 8) (hk : HD s.heap kd (.ref b)) (hx : ∀ x ∈ xs, HD s.heap x.1 (.ref x.2.1)) (rv : RelV v u)
    (h1 : ∀ p, atKey xs kd = some p → ∃ v', RelV v' p.2 ∧ Q v' H) (h2 : atKey xs kd = none → Q v (upd H a (.ext (IsDT a (xs ++ [(kd, b, u)]))))) :
    wpAny (model X.prog X.w) X.A (call (.builtin "dict.setdefault") [.ref a, .ref b, u]) (EP X pins σ Q) X.xe s := by
  have dt := dt_at I ha
  obtain ⟨hd, hz, hn, o, es, ep, e1, e2, e3, e4⟩ := dt
  have hm : s.heap.DictOfH (treeKind X.prog X.w) a xs := ⟨o, es, ep, e1, e2, e3, e4, fun x h => ⟨hx x h, dx x h⟩, hn⟩
  refine call_meetsIn F.slot_dict_setdefault hm.typeIs F.entry_dict_setdefault (F.args_dict_setdefault_3 _ _ _) (meetsH_dict_setdefault (treeKind X.prog X.w) a b hd u) ⟨by show X.A.in1.units + 8 < cLine; rw [in1_units]; omega, kd, xs, ⟨hk, dk⟩, hm, Nat.le_of_lt lx, fun p hp => ?_, fun hnone h' hm' hs => ?_⟩
  · obtain ⟨v', r, q⟩ := h1 p hp
    exact ⟨v', H, I.tok _, r, q⟩
  · obtain ⟨o', es', ep', f1, f2, f3, f4, _, f5⟩ := hm'
    refine ⟨v, _, I.write (x := a) (e := a) (by rw [ha]; exact trivial) (.inl rfl) (fun c w hc e => (hs.2 c hc).trans e) ⟨o', f1⟩ (dt_ok ⟨hd, ?_, f5, o', es', ep', f1, f2, f3, f4⟩), rv, h2 hnone⟩
    rw [List.length_append]; exact lx
private theorem pe_sd (hu : X.A.units + 10 < cLine) (ho : PE X o td) (ha : PA X [e, f] ta)
    (hbase : attributeBase o "setdefault" X.env (eval o X.env) = eval o X.env := by rfl)
    (hfew : ((backTo cpos (starEach [e, f] X.env)).all (fun x => !x.1) && (backToKw cpos (keywordEach [] X.env)).all (fun x => x.1.isSome)
      && decide ([e, f].length + ([] : List Keyword).length + (if ([] : List Keyword).isEmpty then 0 else 1) < 30)) = true := by rfl)
    (hline : (apos.endLine == cpos.line) = true := by rfl) (hs : starEach [e, f] X.env = (false, eval e X.env) :: starEach [f] X.env := by rfl) (hplain : (backTo cpos (starEach [f] X.env)).any (·.1) = false := by rfl) :
    PE X (.Call (.Attribute o "setdefault" apos) [e, f] [] cpos) (tSD X td ta) := by
  intro pins s σ H Q I h
  refine wpAny_Call_method_late hbase hfew hline rfl (thn (ho pins s σ H _ I h) fun v s1 ⟨x, H1, I1, r1, a, xs0, ex, hx0, q1⟩ => ?_)
  subst ex
  cases r1
  obtain ⟨h1, h2⟩ := dt_ty (s := s1) (dt_at I1 hx0)
  refine ⟨"dict", "dict.setdefault", F.plainAttrs_dict, F.slot_dict_setdefault, F.type_dict_setdefault, h1, h2, ?_⟩
  have hA := ha cpos pins s1 σ H1 _ I1 q1
  rw [hs] at hA ⊢
  refine Calls.callWith_builtin (by show (false || (backTo cpos (starEach [f] X.env)).any (·.1)) = false; rw [hplain] <;> rfl) (Calls.evalArgs_plain ?_)
  refine thn hA fun us s2 ⟨vs, H2, I2, r2, b, v, kd, xs, ev, ha2, dk, lx, dx, hk, g1, g2⟩ => ?_
  subst ev
  obtain ⟨u1, u2, rfl, ru1, ru2⟩ := vals2 r2
  cases ru1
  obtain ⟨hk1, hk2⟩ := hk _ _ I2
  exact dt_set hu I2 ha2 dk lx dx hk1 hk2 ru2 g1 fun hn => g2 hn u2 ru2
noncomputable def tLV (td : TE) : TE := fun σ H Q => td σ H fun x H1 => ∃ a xs vs, x = .ref a ∧ H1 a = some (.ext (IsDT a xs)) ∧ xs.length ≤ 100000 ∧ Vals vs (xs.map fun x => x.2.2) ∧ ∀ l, H1 l = none → Q (.ref l) (upd H1 l (.lst vs))
private theorem pe_listvals {p pos2 : Pos} (hgl : Gl X "list") (hml : X.mg "list" = none) (hc : X.calm = true) (ho : PE X o td)
    (hbase : attributeBase o "values" X.env (eval o X.env) = eval o X.env := by rfl) (hline : (apos.endLine == cpos.line) = true := by rfl)
    (hs3 : starEach [.Call (.Attribute o "values" apos) [] [] cpos] X.env = [(false, eval (.Call (.Attribute o "values" apos) [] [] cpos) X.env)] := by rfl) :
    PE X (.Call (.Name "list" p) [.Call (.Attribute o "values" apos) [] [] cpos] [] pos) (tLV td) := by
  intro pins s σ H Q I h
  refine wpAny_Call_Name_kw (ld_blt I hgl hml boot_list (PyProof.Rows.callWith_type1 ?_ hs3 rfl))
  rw [hs3]
  show wpAny _ _ (spliced ((false, eval (.Call (.Attribute o "values" apos) [] [] cpos) X.env) :: [])) _ _ s
  refine Calls.spliced_cons (wpAny_Call_method0_late hbase hline (thn (ho pins s σ H _ I h) fun v s1 ⟨x, H1, I1, r1, a, xs, vs, ex, ha, hz, rv, q⟩ => ?_))
  subst ex
  cases r1
  have dt := dt_at I1 ha
  obtain ⟨h1, h2⟩ := dt_ty (s := s1) dt
  obtain ⟨hd, hz2, hn, o, es, ep, e1, e2, e3, e4⟩ := dt
  have rw1 : RawD s1.heap a es ep := ⟨o, e1, e2, e3⟩
  refine ⟨"dict", "dict.values", F.plainAttrs_dict, F.slot_dict_values, F.type_dict_values, h1, h2, Calls.callWith_builtin rfl (PySem.evalArgs_none ?_)⟩
  refine call_meetsIn F.slot_dict_values h1 F.entry_dict_values (F.args_dict_values_1 _) (meets_values a hd) ⟨⟨es, ep, rw1⟩, Calls.spliced_nil ?_⟩
  have v0 : (s1.heap.push { cls := .type "dict_values", data := .fields #[.ref a] }).IsValuesView s1.heap.objs.size a := ⟨_, Heap.get?_push_size _ rfl, rfl, rfl⟩
  have k1 : ∀ b o, s1.heap.get? b = some o → (s1.heap.push { cls := .type "dict_values", data := .fields #[.ref a] }).get? b = some o := fun b o e => Heap.get?_push_of_some _ e
  have sz : (s1.heap.push { cls := .type "dict_values", data := .fields #[.ref a] }).objs.size = s1.heap.objs.size + 1 := Heap.size_push _ _
  generalize s1.heap.push { cls := .type "dict_values", data := .fields #[.ref a] } = g at v0 k1 sz
  refine callType_codes (Q₁ := fun obj t => obj = .ref g.objs.size ∧ t = { s1 with heap := g.push { cls := .type "list", data := .seq #[] } }) F.called_list (F.typeCall_list_1 _) F.entry_list_init (code_list_new _ ⟨rfl, rfl⟩) fun obj t ht => ?_
  obtain ⟨rfl, rfl⟩ := ht
  have hSo : (g.push { cls := .type "list", data := .seq #[] }).get? g.objs.size = some { cls := .type "list", data := .seq #[] } := Heap.get?_push_size _ rfl
  refine ⟨⟨_, hSo, rfl⟩, F.args_list_init_2 _ _, ?_⟩
  have lz : es.size = xs.length := by rw [← Array.length_toList, e4, List.length_map]
  have lta := Heap.lt_size e1
  refine init_vals (s := { s1 with heap := g.push { cls := .type "list", data := .seq #[] } }) (I1.ok.hd hc) (Nat.ne_of_gt (by rw [sz]; exact Nat.lt_succ_self _)) (Nat.ne_of_gt (by rw [sz]; exact Nat.lt_succ_of_lt lta)) (by omega) (let ⟨o, y1, y2⟩ := v0; ⟨o, Heap.get?_push_of_some _ y1, y2⟩) ⟨o, Heap.get?_push_of_some _ (k1 _ _ e1), e2, e3⟩ hSo fun h' c' kk u1 => ⟨rfl, ?_⟩
  have keep : ∀ b o, s1.heap.get? b = some o → h'.get? b = some o := fun b o e => kk b o (Nat.ne_of_lt (by rw [sz]; exact Nat.lt_succ_of_lt (Heap.lt_size e))) (Heap.get?_push_of_some _ (k1 b o e))
  have ve : valsE es = xs.map fun x => x.2.2 := by
    unfold valsE
    rw [e4, List.map_map]; rfl
  rw [ve] at u1
  refine ⟨.ref g.objs.size, _, I1.laid (a := g.objs.size) (o := .lst vs) (t' := s1.toks) keep (by rw [sz]; omega) ⟨?_, _, c', rv, u1⟩, rfl, q _ (I1.hok.fresh (by rw [sz]; omega))⟩
  have := rv.length
  rw [List.length_map] at this
  rw [this, sizeLine_eq]; omega
end
end L3
set_option Elab.async false
set_option linter.all false
set_option maxRecDepth 100000
namespace L3
open PySem PySem.Spec PyProof.Rows L2
noncomputable def Itd (lo : Int) (n : Nat) : It := ⟨fun i _ => i < n, fun i H x H' => H' = H ∧ x = .int (lo - i), fun i _ => n ≤ i⟩
private theorem turn_down {P : Program} {w : World} {K : PySem.W.Frag} {tg : Expr} (it : Addr) (lo : Int) (n : Nat) : Turn P w K tg (Itd lo n) [it] it (fun i h => IsRangeIter h it (lo + (i : Nat) * (-1)) ((n : Int) - (i : Nat)) (-1)) where
  mem := by simp
  obj := fun i h st b hb => by
    have e : b = it := by simpa using hb
    subst e
    exact ⟨_, st, fun v z => by
      have z' : Data.fields _ = Data.cell v := z
      cases z'⟩
  keep := fun i h h' st k => k it (by simp) _ st
  item := by
    intro X hP hw hK hc i pins s σ H E I hf st hg
    subst hP hw hK
    obtain ⟨f0, f1, f2, f3, f4, f5⟩ := hf it (by simp)
    have W := Walks.range (prog := X.prog) (w := X.w) (I.ok.hd hc) it lo (-1) n
    refine W.item i s _ _ hg st fun v h' tk hv st' kk => ?_
    obtain ⟨t, rfl⟩ := hv
    have I1 : Inv X pins σ H { s with heap := h', toks := tk } := I.turned (fun b o hb e => kk b o (by simpa using hb) e) f0 f1 f3 f4 f5
    refine ⟨_, rfl, go_of (s := { s with heap := h', toks := tk }) (n := "range_iterator") st' rfl rfl (by decide) ⟨.int (lo - i), H, I1, ⟨t, ?_⟩, ⟨rfl, rfl⟩, st', fun b hb => (hf b hb).1⟩⟩
    have : lo + (i : Int) * -1 = lo - i := by omega
    rw [this]
  done := by
    intro X hP hw hK hc i pins s σ H E I hf st hg
    subst hP hw hK
    obtain ⟨f0, f1, f2, f3, f4, f5⟩ := hf it (by simp)
    exact wpAny_pyNext_range_end (I.ok.hd hc) st (by have : n ≤ i := hg; omega) fun h' eb => ⟨rfl, I.turned (t' := s.toks) (fun b o hb e => eb b o hb e) f0 f1 f3 f4 f5⟩
  self := fun _ _ _ _ _ st h => wpAny_pyIter_rangeiter st h
section
variable {X : Cx} {tg : Expr}
private theorem down_it {pins : List (Addr × Obj)} {σ : L2.St} {H : Hp} {s : Shared} {R : It → Hp → Prop} {E : Value → Shared → Prop} {lo hi : Int} {t u v : Tok} {tk : Nat} (I : Inv X pins σ H s) (h1 : -(2 ^ 62) ≤ lo) (h2 : lo < 2 ^ 62) (h3 : -(2 ^ 62) ≤ hi) (h4 : hi < 2 ^ 62)
    (q : R (Itd lo (lo - hi).toNat) H) : wpAny (model X.prog X.w) X.A (pyIter (.ref s.heap.objs.size)) (PIE X pins σ tg R) E { s with heap := s.heap.push { cls := .type "range", data := .fields #[.int lo t, .int hi u, .int (-1) v] }, toks := tk } := by
  refine wpAny_pyIter_range (IsRange.new ..) ?_ ?_
  · have rs : Builtin.Range.rangeSize lo hi (-1) = if lo > hi then lo - hi else 0 := by
      unfold Builtin.Range.rangeSize
      rw [if_neg (by omega)]
      split
      · have : (lo - hi - 1) / (- -1) = lo - hi - 1 := by simp
        rw [this]; omega
      · rfl
    unfold Builtin.Range.small
    rw [rs]
    simp only [Builtin.Range.rangeFitsLong, Bool.and_eq_true, Bool.or_eq_true, decide_eq_true_eq, beq_iff_eq, show ¬ ((-1 : Int) > 0) by decide, if_false]
    split <;> omega
  have I1 : Inv X pins σ H { s with heap := s.heap.push { cls := .type "range", data := .fields #[.int lo t, .int hi u, .int (-1) v] }, toks := tk } := I.kept fun b o e => Heap.get?_push_of_some _ e
  refine ⟨(s.heap.push { cls := .type "range", data := .fields #[.int lo t, .int hi u, .int (-1) v] }).objs.size, [(s.heap.push { cls := .type "range", data := .fields #[.int lo t, .int hi u, .int (-1) v] }).objs.size], _, _, H, rfl,
    I1.kept (t' := tk) fun b o e => Heap.get?_push_of_some _ e, turn_down _ lo (lo - hi).toNat, ?_, fun b hb => ?_, q⟩
  · have e1 : lo + ((0 : Nat) : Int) * (-1) = lo := by simp
    have e2 : (((lo - hi).toNat : Nat) : Int) - ((0 : Nat) : Int) = Builtin.Range.rangeSize lo hi (-1) := by
      unfold Builtin.Range.rangeSize
      rw [if_neg (by omega)]
      split
      · have : (lo - hi - 1) / (- -1) = lo - hi - 1 := by simp
        rw [this]; omega
      · omega
    show IsRangeIter _ _ (lo + ((0 : Nat) : Int) * (-1)) ((((lo - hi).toNat : Nat) : Int) - ((0 : Nat) : Int)) (-1)
    rw [e1, e2]
    exact Heap.get?_push_size _ rfl
  · have e : b = (s.heap.push { cls := .type "range", data := .fields #[.int lo t, .int hi u, .int (-1) v] }).objs.size := by simpa using hb
    subst e
    exact I1.fpOk (Nat.le_refl _) (I1.hok.fresh (Nat.le_refl _))
noncomputable def iDown (ta : TA) : TI := fun σ H R => ta σ H fun vs H1 => ∃ i j : Int, vs = [.int i, .int j, .int (-1)] ∧ (-(2 ^ 62) ≤ i ∧ i < 2 ^ 62 ∧ -(2 ^ 62) ≤ j ∧ j < 2 ^ 62) ∧ R (Itd i (i - j).toNat) H1
private theorem pi_down {a b c : Expr} {ta : TA} {p pos : Pos} (hg : Gl X "range") (hm : X.mg "range" = none) (ha : PA X [a, b, c] ta) (hs : starEach [a, b, c] X.env = [(false, eval a X.env), (false, eval b X.env), (false, eval c X.env)] := by rfl) (hs2 : starEach [b, c] X.env = [(false, eval b X.env), (false, eval c X.env)] := by rfl) :
    PI X tg (.Call (.Name "range" p) [a, b, c] [] pos) (iDown ta) := by
  intro pins s σ H R I h
  refine Call_ (ld_blt I hg hm boot_range (PyProof.Rows.callWith_type1 (thn (ha pos pins s σ H _ I h) fun us s1 ⟨vs, H1, I1, r1, q1⟩ => ?_) (by rw [hs, hs2]) (by rw [hs2]; rfl)))
  obtain ⟨i, j, e, ⟨q1, q2, q3, q4⟩, q⟩ := q1
  subst e
  cases r1 with
  | cons r rr =>
    cases rr with
    | cons r' rr =>
      cases rr with
      | cons r'' rr =>
        cases rr
        obtain ⟨t, rfl⟩ := r
        obtain ⟨t', rfl⟩ := r'
        obtain ⟨t'', rfl⟩ := r''
        exact call_range_3 (by decide) (down_it I1 q1 q2 q3 q4 q) (Or.inl (PyProof.noPylong_small (by omega)))
end
private theorem boot_reversed : bootBuiltins "reversed" = some (.type "reversed") := by kernel_rfl
private theorem rev_len : typeLookup (.type "list_reverseiterator") "__len__" = pure none := by rw [typeLookup_type, builtinLookup_eq_fast]; kernel_rfl
private theorem rev_hint : typeLookup (.type "list_reverseiterator") "__length_hint__" = pure (some (.builtin "list_reverseiterator.__length_hint__")) := by rw [typeLookup_type, builtinLookup_eq_fast]; kernel_rfl
private theorem rev_sub : isSubtype (.type "list_reverseiterator") (.type "list_reverseiterator") = pure true := by rw [isSubtype_type]; kernel_rfl
section
variable {prog : Program} {w : World} {A : Around} {E : Value → Shared → Prop} {s : Shared}
private theorem loop_rev {S it l : Addr} {us : List Value} {R : Result → Shared → Prop} {res : Value} (hh : A.in1.handled = none) (nSi : S ≠ it) (nSl : S ≠ l) (nil : it ≠ l) (hz : us.length ≤ 10000) :
    ∀ (k i : Nat) (s : Shared) (c : Nat), us.length - i = k → i ≤ us.length → s.heap.IsRevIter it l ((us.length : Int) - 1 - i) → s.heap.IsList l us.toArray → s.heap.get? S = some { cls := .type "list", dict := none, data := .seq (us.reverse.take i).toArray c, slots := #[] } →
    (∀ h' c', (∀ b o, b ≠ S → b ≠ it → s.heap.get? b = some o → h'.get? b = some o) → h'.get? S = some { cls := .type "list", dict := none, data := .seq us.reverse.toArray c', slots := #[] } → R (.ok (.ret res)) { s with heap := h' }) →
    codeAny (model prog w) A (.builtin "list.extend.loop" ⟨[.ref S, .ref it, res], []⟩) R s := by
  have lv : us.reverse.length = us.length := List.length_reverse
  intro k
  induction k with
  | zero =>
    intro i s c hk hi hit hm hS hR
    have hin : i = us.length := by omega
    refine codeAny_builtin F.entry_extend_loop ?_
    rw [Around.under_plainId F.plain_extend_loop _]
    show wpAny _ A.in1 (pyNext (.ref it) >>= _) _ _ s
    have e : (us.length : Int) - 1 - i = -1 := by omega
    rw [e] at hit
    refine wpAny_bind (wpAny_pyNext_rev_end hh hit fun h' kk => ?_)
    refine wpAny_pure (hR h' c (fun b o _ hb e => kk b o hb e) ?_)
    have := kk S _ nSi hS
    rw [hin, ← lv, List.take_length] at this
    exact this
  | succ k ih =>
    intro i s c hk hi hit hm hS hR
    have hlt : i < us.length := by omega
    have hj : us.length - 1 - i < us.length := by omega
    have e : (us.length : Int) - 1 - i = ((us.length - 1 - i : Nat) : Int) := by omega
    rw [e] at hit
    refine codeAny_builtin F.entry_extend_loop ?_
    rw [Around.under_plainId F.plain_extend_loop _]
    show wpAny _ A.in1 (pyNext (.ref it) >>= _) _ _ s
    have hx : us.toArray[us.length - 1 - i]? = some us[us.length - 1 - i] := by simp [hj]
    generalize hy : us[us.length - 1 - i] = y at hx
    refine wpAny_bind (wpAny_pyNext_rev_item hit hm hx fun h' hit' sb => ?_)
    have kk : ∀ b o, b ≠ it → s.heap.get? b = some o → h'.get? b = some o := fun b o hb e => (sb.2 b hb).trans e
    have hS2 := kk S _ nSi hS
    show wpAny _ A.in1 (updateSeq S (·.push y) >>= _) _ _ _
    refine wpAny_bind ?_
    have lps : (us.reverse.take i).toArray.size = i := by simp; omega
    refine wpAny_updateSeq hS2 rfl (wpAny_pure ⟨plainId_quiet F.plain_extend_loop _, ?_⟩) (by rw [lps, sizeLine_eq]; omega) (by show ((us.reverse.take i).toArray.push _).size ≤ sizeLine + 1; rw [Array.size_push, lps, sizeLine_eq]; omega)
    have upS := Heap.get?_update_self (Obj.mapSeq (·.push y)) hS2 rfl
    have upO : ∀ b o, b ≠ S → h'.get? b = some o → (h'.update S (Obj.mapSeq (·.push y))).get? b = some o := fun b o hb e => (Heap.get?_update_other _ _ (Ne.symm hb)).trans e
    have earr : (us.reverse.take (i + 1)).toArray = (us.reverse.take i).toArray.push y := by
      have : us.reverse[i]? = some y := by
        rw [List.getElem?_reverse hlt, List.getElem?_eq_getElem hj, hy]
      rw [List.take_add_one, this]; simp
    refine ih (i + 1) { s with heap := h'.update S (Obj.mapSeq (·.push y)) } _ (by omega) hlt ?_ ?_ (by rw [earr]; exact upS) fun h'' c'' k2 q2 => ?_
    · have e2 : (us.length : Int) - 1 - ((i + 1 : Nat) : Int) = ((us.length - 1 - i : Nat) : Int) - 1 := by omega
      rw [e2]
      obtain ⟨o, h1, h2⟩ := hit'
      exact ⟨o, upO _ _ (Ne.symm nSi) h1, h2⟩
    · obtain ⟨o, h1, h2⟩ := hm
      exact ⟨o, upO _ _ (Ne.symm nSl) (kk _ _ (Ne.symm nil) h1), h2⟩
    · exact hR h'' c'' (fun b o h1 h2 e => k2 b o h1 h2 (upO b o h1 (kk b o h2 e))) q2
private theorem init_rev {S it l : Addr} {us : List Value} {R : Result → Shared → Prop} (hh : A.in1.handled = none) (nSi : S ≠ it) (nSl : S ≠ l) (nil : it ≠ l) (hz : us.length ≤ 10000) (hit : s.heap.IsRevIter it l ((us.length : Int) - 1)) (hm : s.heap.IsList l us.toArray) (hSo : s.heap.get? S = some { cls := .type "list", data := .seq #[] })
    (hR : ∀ h' c', (∀ b o, b ≠ S → b ≠ it → s.heap.get? b = some o → h'.get? b = some o) → h'.get? S = some { cls := .type "list", dict := none, data := .seq us.reverse.toArray c', slots := #[] } → R (.ok (.ret .none)) { s with heap := h' }) :
    wpAny (model prog w) A.in1 (Builtin.«list.__init__» ⟨[.ref S, .ref it], []⟩)
      (fun fin s' => match fin with | .done f => R (.ok f) s' | .again c' => c'.quiet = true ∧ codeAny (model prog w) A c' R s') (fun e s' => R (.error e) s') s := by
  show wpAny _ A.in1 (do let was ← Builtin.List.listItems (.ref S); Builtin.List.listUpdate (.ref S) (fun _ => #[]); letGo was.toList.reverse; Builtin.List.listExtendWith (.ref S) (.ref it) .none) _ _ s
  refine wpAny_bind ?_
  unfold Builtin.List.listItems
  refine wpAny_bind (wpAny_seqItems hSo rfl (wpAny_pure ?_))
  show wpAny _ A.in1 (updateSeq S (fun _ => #[]) >>= fun _ => letGo (#[] : Array Value).toList.reverse >>= fun _ => Builtin.List.listExtendWith (.ref S) (.ref it) .none) _ _ s
  refine wpAny_bind (wpAny_updateSeq hSo rfl (wpAny_bind (wpAny_letGo ?_)))
  have q1 := Heap.get?_update_self (Obj.mapSeq (fun _ => (#[] : Array Value))) hSo rfl
  have o1 : ∀ b o, b ≠ S → s.heap.get? b = some o → (s.heap.update S (Obj.mapSeq (fun _ => (#[] : Array Value)))).get? b = some o := fun b o hb e => (Heap.get?_update_other _ _ (Ne.symm hb)).trans e
  generalize hg1 : s.heap.update S (Obj.mapSeq (fun _ => (#[] : Array Value))) = g1 at q1 o1
  have i1 : g1.IsRevIter it l ((us.length : Int) - 1) := let ⟨o, h1, h2⟩ := hit; ⟨o, o1 _ _ (Ne.symm nSi) h1, h2⟩
  have m1 : g1.IsList l us.toArray := let ⟨o, h1, h2⟩ := hm; ⟨o, o1 _ _ (Ne.symm nSl) h1, h2⟩
  have T1 : Shared.TypeIs { s with heap := g1 } (.ref it) "list_reverseiterator" := Heap.IsRevIter.typeIs (s := { s with heap := g1 }) i1
  unfold Builtin.List.listExtendWith
  refine wpAny_bind (wpAny_typeOf T1 ?_)
  have b1 : Builtin.List.listSameRef (.ref S) (.ref it) = false := by simp [Builtin.List.listSameRef, nSi]
  have b2 : (Value.type "list_reverseiterator" == Value.type "list") = false := by decide
  have b3 : (Value.type "list_reverseiterator" == Value.type "tuple") = false := by decide
  simp only [b1, b2, b3, Bool.or_false, Bool.false_eq_true, if_false]
  refine wpAny_bind (wpAny_pyIter_revIter (s := { s with heap := g1 }) i1 (wpAny_bind (wpAny_holding ?_)))
  unfold Builtin.List.listLengthHint
  refine wpAny_bind (wpAny_specialOf T1 rev_len ?_)
  show wpAny _ A.in1 (specialOf (Value.ref it) (Str.ofString "__length_hint__") >>= _) _ _ _
  refine wpAny_bind (wpAny_specialOf T1 rev_hint ?_)
  show wpAny _ A.in1 (isInstance (.ref it) (.type "list_reverseiterator") >>= _) _ _ _
  refine wpAny_bind (wpAny_isInstance T1 rev_sub ?_)
  simp only [Bool.not_true, Bool.false_eq_true, if_false]
  show wpAny _ A.in1 (pure false) _ _ _
  refine wpAny_pure ?_
  show wpAny _ A.in1 (again (.builtin "list.extend.loop" ⟨[.ref S, .ref it, .none], []⟩)) _ _ _
  refine wpAny_pure ⟨plainId_quiet F.plain_extend_loop _, ?_⟩
  refine loop_rev (res := .none) hh nSi nSl nil hz us.length 0 _ _ rfl (Nat.zero_le _) (by simpa using i1) m1 q1 fun h' c' kk u1 => ?_
  exact hR h' c' (fun b o hb hi e => kk b o hb hi (o1 b o hb e)) u1
end
section
variable {X : Cx} {a : Expr} {ta : TA} {p p2 pos pos2 : Pos}
noncomputable def tLRev (K : PySem.W.Frag) (ta : TA) : TE := fun σ H Q => ta σ H fun vs H1 => ∃ l xs, vs = [.ref l] ∧ SqL K H1 l xs ∧ xs.length ≤ 10000 ∧ ∀ q, H1 q = none → Q (.ref q) (upd H1 q (.lst xs.reverse))
private theorem pe_listrev (hgl : Gl X "list") (hml : X.mg "list" = none) (hgz : Gl X "reversed") (hmz : X.mg "reversed" = none) (hc : X.calm = true) (ha : PA X [a] ta)
    (hs : starEach [a] X.env = [(false, eval a X.env)] := by rfl)
    (hs3 : starEach [.Call (.Name "reversed" p2) [a] [] pos2] X.env = [(false, eval (.Call (.Name "reversed" p2) [a] [] pos2) X.env)] := by rfl) :
    PE X (.Call (.Name "list" p) [.Call (.Name "reversed" p2) [a] [] pos2] [] pos) (tLRev X.K ta) := by
  intro pins s σ H Q I h
  refine wpAny_Call_Name_kw (ld_blt I hgl hml boot_list (PyProof.Rows.callWith_type1 ?_ hs3 rfl))
  rw [hs3]
  show wpAny _ _ (spliced ((false, eval (.Call (.Name "reversed" p2) [a] [] pos2) X.env) :: [])) _ _ s
  refine Calls.spliced_cons (wpAny_Call_Name_kw (ld_blt I hgz hmz boot_reversed (PyProof.Rows.callWith_type1 (thn (ha pos2 pins s σ H _ I h) fun us s1 ⟨vs, H1, I1, r1, q1⟩ => ?_) hs rfl)))
  obtain ⟨l, xs, rfl, hq, hz, q⟩ := q1
  obtain ⟨u, rfl, ru⟩ := r1.one
  cases ru
  obtain ⟨its, rv, pl, hz2⟩ := I1.list hq
  have ll := rv.length
  refine call_reversed_list pl.isList (Calls.spliced_nil ?_)
  have i0 : (s1.heap.push (revObj l ((its.toArray.size : Int) - 1))).IsRevIter s1.heap.objs.size l ((its.length : Int) - 1) := ⟨_, Heap.get?_push_size _ rfl, rfl, by simp [revObj]⟩
  have k1 : ∀ b o, s1.heap.get? b = some o → (s1.heap.push (revObj l ((its.toArray.size : Int) - 1))).get? b = some o := fun b o e => Heap.get?_push_of_some _ e
  have sz : (s1.heap.push (revObj l ((its.toArray.size : Int) - 1))).objs.size = s1.heap.objs.size + 1 := Heap.size_push _ _
  generalize s1.heap.push (revObj l ((its.toArray.size : Int) - 1)) = g at i0 k1 sz
  refine callType_codes (Q₁ := fun obj t => obj = .ref g.objs.size ∧ t = { s1 with heap := g.push { cls := .type "list", data := .seq #[] } }) F.called_list (F.typeCall_list_1 _) F.entry_list_init (code_list_new _ ⟨rfl, rfl⟩) fun obj t ht => ?_
  obtain ⟨rfl, rfl⟩ := ht
  have hSo : (g.push { cls := .type "list", data := .seq #[] }).get? g.objs.size = some { cls := .type "list", data := .seq #[] } := Heap.get?_push_size _ rfl
  refine ⟨⟨_, hSo, rfl⟩, F.args_list_init_2 _ _, ?_⟩
  have ltl : l < s1.heap.objs.size := by obtain ⟨o, e, _⟩ := pl.isList; exact Heap.lt_size e
  refine init_rev (us := its) (s := { s1 with heap := g.push { cls := .type "list", data := .seq #[] } }) (I1.ok.hd hc) (Nat.ne_of_gt (by rw [sz]; exact Nat.lt_succ_self _)) (Nat.ne_of_gt (by rw [sz]; exact Nat.lt_succ_of_lt ltl)) (Nat.ne_of_gt ltl) (by omega) (let ⟨o, y1, y2⟩ := i0; ⟨o, Heap.get?_push_of_some _ y1, y2⟩) (let ⟨o, y1, y2⟩ := pl.isList; ⟨o, Heap.get?_push_of_some _ (k1 _ _ y1), y2⟩) hSo fun h' c' kk u1 => ⟨rfl, ?_⟩
  have keep : ∀ b o, s1.heap.get? b = some o → h'.get? b = some o := fun b o e => kk b o (Nat.ne_of_lt (by rw [sz]; exact Nat.lt_succ_of_lt (Heap.lt_size e))) (Nat.ne_of_lt (Heap.lt_size e)) (Heap.get?_push_of_some _ (k1 b o e))
  have rr : ∀ {xs : List V} {us : List Value}, Vals xs us → Vals xs.reverse us.reverse := by
    intro xs us h
    induction h with
    | nil => exact .nil
    | cons h1 _ ih => rw [List.reverse_cons, List.reverse_cons]; exact ih.append (.cons h1 .nil)
  refine ⟨.ref g.objs.size, _, I1.laid (a := g.objs.size) (o := .lst xs.reverse) (t' := s1.toks) keep (by rw [sz]; omega) ⟨?_, _, c', rr rv, u1⟩, rfl, q _ (I1.hok.fresh (by rw [sz]; omega))⟩
  rw [List.length_reverse, sizeLine_eq]; omega
end
end L3
set_option Elab.async false
set_option linter.all false
set_option maxRecDepth 100000
namespace L3
open PySem PySem.Spec PySem.Calls PyProof.Rows L2
section
variable {P : Program} {w : World} {K : PySem.W.Frag} {mg : Str → Option Value} {base : Heap} {A : Around} {outer : List Env} {s : Shared} {H : Hp} {x y qual : Str} {scope : Scope} {f cy c' : Addr} {params : Arguments} {body : Expr} {pm ct u ux : Value} {vx vy : V} {Q : VK}
end
section
variable {X : Cx} {pins : List (Addr × Obj)} {σ : L2.St} {H : Hp} {s : Shared} {l q It S : Addr} {vs : List V} {R : Result → Shared → Prop}
end
noncomputable def CodeX (c : Addr) (q : Str) : Heap → Prop := fun h => h.CodeRec (.ref c) q
noncomputable def TabOk (F : Hp) (pos : Pos) (q : Str) (ps : Array Value) : Prop := TriplesOk ps.toList ∧ (codeAmong pos ps.toList = none ∨ ∃ c, codeAmong pos ps.toList = some (.ref c) ∧ F c = some (.ext (CodeX c q)))
section
variable {X : Cx} {pins : List (Addr × Obj)} {σ : L2.St} {H : Hp} {s : Shared} {c P cy : Addr} {params : Arguments} {body : Expr} {scope : Scope} {pos : Pos} {y : Str} {ps : Array Value} {Q : Value → Shared → Prop} {E : Value → Shared → Prop}
end
section
variable {X : Cx} {e : Expr} {te : TE} {i : Nat} {x y fld : Str} {c P cy C : Addr} {params : Arguments} {scope : Scope} {p pos lpos kp1 kp2 np p1 p2 p3 p4 : Pos}
end
end L3
set_option Elab.async false
set_option linter.all false
set_option maxRecDepth 100000
namespace L4
open PySem PySem.Spec PyProof.Rows L2 L3
private theorem ex5 {α β γ δ ε : Type} {A B C : α → β → γ → δ → ε → Prop} {R : Prop} (h : ∃ z f r m p, A z f r m p ∧ B z f r m p ∧ C z f r m p) (k : ∀ z f r m p, A z f r m p → B z f r m p → C z f r m p → R) : R :=
  h.elim fun z h => h.elim fun f h => h.elim fun r h => h.elim fun m h => h.elim fun p h => k z f r m p h.1 h.2.1 h.2.2
private theorem ex6 {α β γ δ ε ζ : Type} {A B C G : α → β → γ → δ → ε → ζ → Prop} {R : Prop} (h : ∃ z f r m d p, A z f r m d p ∧ B z f r m d p ∧ C z f r m d p ∧ G z f r m d p) (k : ∀ z f r m d p, A z f r m d p → B z f r m d p → C z f r m d p → G z f r m d p → R) : R :=
  h.elim fun z h => h.elim fun f h => h.elim fun r h => h.elim fun m h => h.elim fun d h => h.elim fun p h => k z f r m d p h.1 h.2.1 h.2.2.1 h.2.2.2
mutual
noncomputable def Rp (K : PySem.W.Frag) (F : Hp) : D → V → Prop
  | .non, v => v = .non
  | .bl b, v => v = .bl b
  | .int i, v => v = .int i
  | .str x, v => v = .str x
  | .tup ds, v => ∃ a vs, v = .ref a ∧ SqT K F a vs ∧ Rps K F ds vs
  | .lst ds, v => ∃ a vs, v = .ref a ∧ Rd F a (.lst vs) ∧ Rps K F ds vs
noncomputable def Rps (K : PySem.W.Frag) (F : Hp) : List D → List V → Prop
  | [], vs => vs = []
  | d :: ds, vs => ∃ v r, vs = v :: r ∧ Rp K F d v ∧ Rps K F ds r
end
section
variable {K : PySem.W.Frag} {F F' H : Hp}
private theorem rd_same {a : Addr} {u : HO} (e : Same F F') (h : Rd F a u) : Rd F' a u := by
  rcases h with h | ⟨o, h⟩
  · exact .inl (e _ _ h)
  · exact .inr ⟨o, e _ _ h⟩
private theorem sqT_same {a : Addr} {vs : List V} (e : Same F F') (h : SqT K F a vs) : SqT K F' a vs := h.imp (rd_same e) id
mutual
private theorem Rp.same (e : Same F F') : ∀ {d : D} {v : V}, Rp K F d v → Rp K F' d v
  | .non, _, h => by rw [Rp] at *; exact h
  | .bl _, _, h => by rw [Rp] at *; exact h
  | .int _, _, h => by rw [Rp] at *; exact h
  | .str _, _, h => by rw [Rp] at *; exact h
  | .tup ds, _, h => by
    rw [Rp] at *
    obtain ⟨a, vs, h1, h2, h3⟩ := h
    exact ⟨a, vs, h1, sqT_same e h2, Rps.same e h3⟩
  | .lst ds, _, h => by
    rw [Rp] at *
    obtain ⟨a, vs, h1, h2, h3⟩ := h
    exact ⟨a, vs, h1, rd_same e h2, Rps.same e h3⟩
private theorem Rps.same (e : Same F F') : ∀ {d : List D} {v : List V}, Rps K F d v → Rps K F' d v
  | [], _, h => by rw [Rps] at *; exact h
  | d :: ds, _, h => by
    rw [Rps] at *
    obtain ⟨v, r, h1, h2, h3⟩ := h
    exact ⟨v, r, h1, Rp.same e h2, Rps.same e h3⟩
end
private theorem Rps.nil : Rps K F [] [] := by rw [Rps]
private theorem Rps.cons {d : D} {v : V} {ds : List D} {vs : List V} (h : Rp K F d v) (k : Rps K F ds vs) : Rps K F (d :: ds) (v :: vs) := by
  rw [Rps]; exact ⟨v, vs, rfl, h, k⟩
private theorem Rps.length : ∀ {d : List D} {v : List V}, Rps K F d v → d.length = v.length
  | [], v, h => by rw [Rps] at h; subst h; rfl
  | d :: ds, v, h => by
    rw [Rps] at h
    obtain ⟨v, r, rfl, h2, h3⟩ := h
    rw [List.length_cons, List.length_cons, Rps.length h3]
private theorem Rps.get : ∀ {d : List D} {v : List V} {i : Nat} {x : D}, Rps K F d v → d[i]? = some x → ∃ y, v[i]? = some y ∧ Rp K F x y
  | [], v, i, x, h, e => by simp at e
  | d :: ds, v, 0, x, h, e => by
    rw [Rps] at h
    obtain ⟨v, r, rfl, h2, h3⟩ := h
    simp at e; subst e
    exact ⟨v, rfl, h2⟩
  | d :: ds, v, i + 1, x, h, e => by
    rw [Rps] at h
    obtain ⟨v, r, rfl, h2, h3⟩ := h
    obtain ⟨y, h4, h5⟩ := Rps.get (i := i) (x := x) h3 (by simpa using e)
    exact ⟨y, by simpa using h4, h5⟩
private theorem Rps.append : ∀ {d e : List D} {v w : List V}, Rps K F d v → Rps K F e w → Rps K F (d ++ e) (v ++ w)
  | [], e, v, w, h, k => by rw [Rps] at h; subst h; exact k
  | d :: ds, e, v, w, h, k => by
    rw [Rps] at h
    obtain ⟨v, r, rfl, h2, h3⟩ := h
    rw [List.cons_append, Rps]
    exact ⟨v, r ++ w, rfl, h2, Rps.append h3 k⟩
private theorem Rps.take : ∀ (n : Nat) {d : List D} {v : List V}, Rps K F d v → Rps K F (d.take n) (v.take n)
  | 0, _, _, _ => .nil
  | n + 1, [], v, h => by rw [Rps] at h; subst h; exact .nil
  | n + 1, d :: ds, v, h => by
    rw [Rps] at h
    obtain ⟨v, r, rfl, h2, h3⟩ := h
    exact .cons h2 (Rps.take n h3)
private theorem Rps.drop : ∀ (n : Nat) {d : List D} {v : List V}, Rps K F d v → Rps K F (d.drop n) (v.drop n)
  | 0, _, _, h => h
  | n + 1, [], v, h => by rw [Rps] at h; subst h; exact .nil
  | n + 1, d :: ds, v, h => by
    rw [Rps] at h
    obtain ⟨v, r, rfl, h2, h3⟩ := h
    exact Rps.drop n h3
private theorem Rps.set {x : D} {y : V} (hx : Rp K F x y) : ∀ (n : Nat) {d : List D} {v : List V}, Rps K F d v → Rps K F (d.set n x) (v.set n y)
  | _, [], v, h => by rw [Rps] at h; subst h; exact .nil
  | 0, d :: ds, v, h => by
    rw [Rps] at h
    obtain ⟨v, r, rfl, h2, h3⟩ := h
    exact .cons hx h3
  | n + 1, d :: ds, v, h => by
    rw [Rps] at h
    obtain ⟨v, r, rfl, h2, h3⟩ := h
    exact .cons h2 (Rps.set hx n h3)
end
inductive U where
  | d (x : D) | adr (p : Addr) | tup (us : List U) | ins (C : Addr) (ns : List Str) (ds : List D)
mutual
noncomputable def RU (K : PySem.W.Frag) (F : Hp) : U → V → Prop
  | .d x, v => Rp K F x v
  | .adr p, v => v = .ref p
  | .ins C ns ds, v => ∃ a dx vs, v = .ref a ∧ F a = some (.ins C dx (ns.zip vs)) ∧ Rps K F ds vs
  | .tup us, v => ∃ a vs, v = .ref a ∧ SqT K F a vs ∧ RUs K F us vs
noncomputable def RUs (K : PySem.W.Frag) (F : Hp) : List U → List V → Prop
  | [], vs => vs = []
  | u :: us, vs => ∃ v r, vs = v :: r ∧ RU K F u v ∧ RUs K F us r
end
section
variable {K : PySem.W.Frag} {F F' H : Hp}
mutual
private theorem RU.same (e : Same F F') : ∀ {u : U} {v : V}, RU K F u v → RU K F' u v
  | .d _, _, h => by rw [RU] at *; exact Rp.same e h
  | .adr _, _, h => by rw [RU] at *; exact h
  | .ins _ _ _, _, h => by
    rw [RU] at *
    obtain ⟨a, dx, vs, h1, h2, h3⟩ := h
    exact ⟨a, dx, vs, h1, e _ _ h2, Rps.same e h3⟩
  | .tup us, _, h => by
    rw [RU] at *
    obtain ⟨a, vs, h1, h2, h3⟩ := h
    exact ⟨a, vs, h1, sqT_same e h2, RUs.same e h3⟩
private theorem RUs.same (e : Same F F') : ∀ {u : List U} {v : List V}, RUs K F u v → RUs K F' u v
  | [], _, h => by rw [RUs] at *; exact h
  | u :: us, _, h => by
    rw [RUs] at *
    obtain ⟨v, r, h1, h2, h3⟩ := h
    exact ⟨v, r, h1, RU.same e h2, RUs.same e h3⟩
end
private theorem RUs.nil : RUs K F [] [] := by rw [RUs]
private theorem RUs.cons {u : U} {v : V} {us : List U} {vs : List V} (h : RU K F u v) (k : RUs K F us vs) : RUs K F (u :: us) (v :: vs) := by
  rw [RUs]; exact ⟨v, vs, rfl, h, k⟩
private theorem RUs.length : ∀ {d : List U} {v : List V}, RUs K F d v → d.length = v.length
  | [], v, h => by rw [RUs] at h; subst h; rfl
  | d :: ds, v, h => by
    rw [RUs] at h
    obtain ⟨v, r, rfl, h2, h3⟩ := h
    rw [List.length_cons, List.length_cons, RUs.length h3]
private theorem RUs.append : ∀ {d e : List U} {v w : List V}, RUs K F d v → RUs K F e w → RUs K F (d ++ e) (v ++ w)
  | [], e, v, w, h, k => by rw [RUs] at h; subst h; exact k
  | d :: ds, e, v, w, h, k => by
    rw [RUs] at h
    obtain ⟨v, r, rfl, h2, h3⟩ := h
    rw [List.cons_append, RUs]
    exact ⟨v, r ++ w, rfl, h2, RUs.append h3 k⟩
private theorem RUs.ofD : ∀ {ds : List D} {vs : List V}, Rps K F ds vs → RUs K F (ds.map U.d) vs
  | [], vs, h => by rw [Rps] at h; subst h; exact .nil
  | d :: ds, vs, h => by
    rw [Rps] at h
    obtain ⟨v, r, rfl, h2, h3⟩ := h
    exact .cons (by rw [RU]; exact h2) (RUs.ofD h3)
end
section
variable {X : Cx} {pins : List (Addr × Obj)} {σ : L2.St} {H : Hp} {s : Shared}
mutual
private theorem Rp.inj (I : Inv X pins σ H s) : ∀ {d e : D} {v : V}, Rp X.K H d v → Rp X.K H e v → d = e
  | .non, e, v, h, k => by
    rw [Rp] at h; subst h
    cases e <;> rw [Rp] at k <;> first | (obtain ⟨_, _, k, _⟩ := k; cases k; done) | rfl | (cases k; done)
  | .bl _, e, v, h, k => by
    rw [Rp] at h; subst h
    cases e <;> rw [Rp] at k <;> first | (obtain ⟨_, _, k, _⟩ := k; cases k; done) | (cases k; rfl) | (cases k; done)
  | .int _, e, v, h, k => by
    rw [Rp] at h; subst h
    cases e <;> rw [Rp] at k <;> first | (obtain ⟨_, _, k, _⟩ := k; cases k; done) | (cases k; rfl) | (cases k; done)
  | .str _, e, v, h, k => by
    rw [Rp] at h; subst h
    cases e <;> rw [Rp] at k <;> first | (obtain ⟨_, _, k, _⟩ := k; cases k; done) | (cases k; rfl) | (cases k; done)
  | .tup ds, e, v, h, k => by
    rw [Rp] at h
    obtain ⟨a, vs, rfl, h2, h3⟩ := h
    cases e <;> rw [Rp] at k
    case tup es =>
      obtain ⟨b, ws, e1, k2, k3⟩ := k
      cases e1
      have := I.tuple_inj h2 k2
      subst this
      rw [Rps.inj I h3 k3]
    case lst es =>
      obtain ⟨b, ws, e1, k2, k3⟩ := k
      cases e1
      obtain ⟨_, _, ⟨o, q1, q2, _⟩, _⟩ := I.tuple h2
      obtain ⟨_, _, ⟨o', n', p1, p2, _⟩, _⟩ := I.list (.inl k2)
      rw [q1] at p1
      cases p1
      rw [q2] at p2
      simp at p2
    all_goals cases k
  | .lst ds, e, v, h, k => by
    rw [Rp] at h
    obtain ⟨a, vs, rfl, h2, h3⟩ := h
    cases e <;> rw [Rp] at k
    case lst es =>
      obtain ⟨b, ws, e1, k2, k3⟩ := k
      cases e1
      have := I.list_inj (.inl h2) (.inl k2)
      subst this
      rw [Rps.inj I h3 k3]
    case tup es =>
      obtain ⟨b, ws, e1, k2, k3⟩ := k
      cases e1
      obtain ⟨_, _, ⟨o, q1, q2, _⟩, _⟩ := I.tuple k2
      obtain ⟨_, _, ⟨o', n', p1, p2, _⟩, _⟩ := I.list (.inl h2)
      rw [q1] at p1
      cases p1
      rw [q2] at p2
      simp at p2
    all_goals cases k
private theorem Rps.inj (I : Inv X pins σ H s) : ∀ {d e : List D} {v : List V}, Rps X.K H d v → Rps X.K H e v → d = e
  | [], e, v, h, k => by
    rw [Rps] at h; subst h
    cases e with
    | nil => rfl
    | cons => rw [Rps] at k; obtain ⟨_, _, k, _⟩ := k; cases k
  | d :: ds, e, v, h, k => by
    rw [Rps] at h
    obtain ⟨v, r, rfl, h2, h3⟩ := h
    cases e with
    | nil => rw [Rps] at k; cases k
    | cons e es =>
      rw [Rps] at k
      obtain ⟨v', r', k1, k2, k3⟩ := k
      cases k1
      rw [Rp.inj I h2 k2, Rps.inj I h3 k3]
end
private theorem rp_list {a : Addr} {vs : List V} (I : Inv X pins σ H s) (h : Rd H a (.lst vs)) : ∃ its : List Value, Vals vs its ∧ s.heap.IsList a its.toArray := by
  obtain ⟨its, r, p, _⟩ := I.list (.inl h)
  exact ⟨its, r, p.isList⟩
private theorem rp_tuple {a : Addr} {vs : List V} (I : Inv X pins σ H s) (h : SqT X.K H a vs) : ∃ its : List Value, Vals vs its ∧ s.heap.IsTuple a its.toArray := by
  obtain ⟨its, r, p, _⟩ := I.tuple h
  exact ⟨its, r, p⟩
open SeqAt
private theorem eq_items4 {A : Around} {ds es : List D} {vs ws : List V} {us ts : List Value} (hd : Rps X.K H ds vs) (he : Rps X.K H es ws) (r : Vals vs us) (q : Vals ws ts)
    (ih : ∀ (i : Nat) (d e : D), ds[i]? = some d → es[i]? = some e → ∀ x y u v, Rp X.K H d x → Rp X.K H e y → RelV x u → RelV y v → EqAt A s u v (peq d e)) :
    ∀ j (h1 : j < us.toArray.size) (h2 : j < ts.toArray.size), EqAt A s us.toArray[j] ts.toArray[j] (peq (ds.getD j .non) (es.getD j .non)) := by
  intro j h1 h2
  have l1 : ds.length = us.length := hd.length.trans r.length
  have l2 : es.length = ts.length := he.length.trans q.length
  have h1' : j < ds.length := by rw [l1]; simpa using h1
  have h2' : j < es.length := by rw [l2]; simpa using h2
  have e1 : ds[j]? = some ds[j] := List.getElem?_eq_getElem h1'
  have e2 : es[j]? = some es[j] := List.getElem?_eq_getElem h2'
  obtain ⟨x, hx, rx⟩ := hd.get e1
  obtain ⟨y, hy, ry⟩ := he.get e2
  obtain ⟨u, hu, ru⟩ := r.get hx
  obtain ⟨v, hv, rv⟩ := q.get hy
  have g1 : us.toArray[j] = u := by
    have : us[j]? = some us[j] := List.getElem?_eq_getElem (by simpa using h1)
    rw [this] at hu
    simpa using hu
  have g2 : ts.toArray[j] = v := by
    have : ts[j]? = some ts[j] := List.getElem?_eq_getElem (by simpa using h2)
    rw [this] at hv
    simpa using hv
  rw [g1, g2, List.getD_eq_getElem?_getD, List.getD_eq_getElem?_getD, e1, e2]
  exact ih j _ _ e1 e2 x y u v rx ry ru rv
private theorem deep4 {n : Nat} (I : Inv X pins σ H s) : ∀ (A : Around) (d e : D) (x y : V) (u v : Value), dep d ≤ n → A.units + n < cLine → Rp X.K H d x → Rp X.K H e y → RelV x u → RelV y v →
    EqAt A s u v (peq d e) ∧ RcAt A s u v (peq d e) ∧ RcNeAt A s u v (!peq d e) := by
  induction n with
  | zero =>
    intro A d e x y u v hn hu hd he ru rv
    cases d with
    | tup ds => rw [dep] at hn; omega
    | lst ds => rw [dep] at hn; omega
    | non =>
      rw [Rp] at hd; subst hd; cases ru
      cases e with
      | non => rw [Rp] at he; subst he; cases rv; simp only [peq]; exact ⟨EqAt.same _, RcAt.none_none, RcNeAt.none_none⟩
      | bl b => rw [Rp] at he; subst he; cases rv; simp only [peq]; exact ⟨EqAt.none_bool _, RcAt.none_bool _, RcNeAt.none_bool _⟩
      | int b => rw [Rp] at he; subst he; obtain ⟨t, rfl⟩ := rv; simp only [peq]; exact ⟨EqAt.none_int _ _, RcAt.none_int _ _, RcNeAt.none_int _ _⟩
      | str b => rw [Rp] at he; subst he; obtain ⟨t, rfl⟩ := rv; simp only [peq]; exact ⟨EqAt.none_str _ _, RcAt.none_str _ _, RcNeAt.none_str _ _⟩
      | tup es =>
        rw [Rp] at he; obtain ⟨a, vs, rfl, h2, _⟩ := he; cases rv
        obtain ⟨its, _, ht⟩ := rp_tuple I h2
        simp only [peq]; exact ⟨EqAt.none_tuple ht (Nat.lt_of_le_of_lt (Nat.le_add_right _ _) hu), RcAt.none_tuple ht (Nat.lt_of_le_of_lt (Nat.le_add_right _ _) hu), RcNeAt.none_tuple ht (Nat.lt_of_le_of_lt (Nat.le_add_right _ _) hu)⟩
      | lst es =>
        rw [Rp] at he; obtain ⟨a, vs, rfl, h2, _⟩ := he; cases rv
        obtain ⟨its, _, ht⟩ := rp_list I h2
        simp only [peq]; exact ⟨EqAt.none_list ht (Nat.lt_of_le_of_lt (Nat.le_add_right _ _) hu), RcAt.none_list ht (Nat.lt_of_le_of_lt (Nat.le_add_right _ _) hu), RcNeAt.none_list ht (Nat.lt_of_le_of_lt (Nat.le_add_right _ _) hu)⟩
    | bl c =>
      rw [Rp] at hd; subst hd; cases ru
      cases e with
      | non => rw [Rp] at he; subst he; cases rv; simp only [peq]; exact ⟨EqAt.bool_none _, RcAt.bool_none _, RcNeAt.bool_none _⟩
      | bl b => rw [Rp] at he; subst he; cases rv; simp only [peq]; exact ⟨EqAt.bool_bool _ _, RcAt.bool_bool _ _, RcNeAt.bool_bool _ _⟩
      | int b => rw [Rp] at he; subst he; obtain ⟨t, rfl⟩ := rv; simp only [peq]; exact ⟨EqAt.bool_int _ _ _, RcAt.bool_int _ _ _, RcNeAt.bool_int _ _ _⟩
      | str b => rw [Rp] at he; subst he; obtain ⟨t, rfl⟩ := rv; simp only [peq]; exact ⟨EqAt.bool_str _ _ _, RcAt.bool_str _ _ _, RcNeAt.bool_str _ _ _⟩
      | tup es =>
        rw [Rp] at he; obtain ⟨a, vs, rfl, h2, _⟩ := he; cases rv
        obtain ⟨its, _, ht⟩ := rp_tuple I h2
        simp only [peq]; exact ⟨EqAt.bool_tuple _ ht (Nat.lt_of_le_of_lt (Nat.le_add_right _ _) hu), RcAt.bool_tuple _ ht (Nat.lt_of_le_of_lt (Nat.le_add_right _ _) hu), RcNeAt.bool_tuple _ ht (Nat.lt_of_le_of_lt (Nat.le_add_right _ _) hu)⟩
      | lst es =>
        rw [Rp] at he; obtain ⟨a, vs, rfl, h2, _⟩ := he; cases rv
        obtain ⟨its, _, ht⟩ := rp_list I h2
        simp only [peq]; exact ⟨EqAt.bool_list _ ht (Nat.lt_of_le_of_lt (Nat.le_add_right _ _) hu), RcAt.bool_list _ ht (Nat.lt_of_le_of_lt (Nat.le_add_right _ _) hu), RcNeAt.bool_list _ ht (Nat.lt_of_le_of_lt (Nat.le_add_right _ _) hu)⟩
    | int c =>
      rw [Rp] at hd; subst hd; obtain ⟨t', rfl⟩ := ru
      cases e with
      | non => rw [Rp] at he; subst he; cases rv; simp only [peq]; exact ⟨EqAt.int_none _ _, RcAt.int_none _ _, RcNeAt.int_none _ _⟩
      | bl b => rw [Rp] at he; subst he; cases rv; simp only [peq]; exact ⟨EqAt.int_bool _ _ _, RcAt.int_bool _ _ _, RcNeAt.int_bool _ _ _⟩
      | int b => rw [Rp] at he; subst he; obtain ⟨t, rfl⟩ := rv; simp only [peq]; exact ⟨EqAt.int_int _ _ _ _, RcAt.int_int _ _ _ _, RcNeAt.int_int _ _ _ _⟩
      | str b => rw [Rp] at he; subst he; obtain ⟨t, rfl⟩ := rv; simp only [peq]; exact ⟨EqAt.int_str _ _ _ _, RcAt.int_str _ _ _ _, RcNeAt.int_str _ _ _ _⟩
      | tup es =>
        rw [Rp] at he; obtain ⟨a, vs, rfl, h2, _⟩ := he; cases rv
        obtain ⟨its, _, ht⟩ := rp_tuple I h2
        simp only [peq]; exact ⟨EqAt.int_tuple _ _ ht (Nat.lt_of_le_of_lt (Nat.le_add_right _ _) hu), RcAt.int_tuple _ _ ht (Nat.lt_of_le_of_lt (Nat.le_add_right _ _) hu), RcNeAt.int_tuple _ _ ht (Nat.lt_of_le_of_lt (Nat.le_add_right _ _) hu)⟩
      | lst es =>
        rw [Rp] at he; obtain ⟨a, vs, rfl, h2, _⟩ := he; cases rv
        obtain ⟨its, _, ht⟩ := rp_list I h2
        simp only [peq]; exact ⟨EqAt.int_list _ _ ht (Nat.lt_of_le_of_lt (Nat.le_add_right _ _) hu), RcAt.int_list _ _ ht (Nat.lt_of_le_of_lt (Nat.le_add_right _ _) hu), RcNeAt.int_list _ _ ht (Nat.lt_of_le_of_lt (Nat.le_add_right _ _) hu)⟩
    | str c =>
      rw [Rp] at hd; subst hd; obtain ⟨t', rfl⟩ := ru
      cases e with
      | non => rw [Rp] at he; subst he; cases rv; simp only [peq]; exact ⟨EqAt.str_none _ _, RcAt.str_none _ _, RcNeAt.str_none _ _⟩
      | bl b => rw [Rp] at he; subst he; cases rv; simp only [peq]; exact ⟨EqAt.str_bool _ _ _, RcAt.str_bool _ _ _, RcNeAt.str_bool _ _ _⟩
      | int b => rw [Rp] at he; subst he; obtain ⟨t, rfl⟩ := rv; simp only [peq]; exact ⟨EqAt.str_int _ _ _ _, RcAt.str_int _ _ _ _, RcNeAt.str_int _ _ _ _⟩
      | str b => rw [Rp] at he; subst he; obtain ⟨t, rfl⟩ := rv; simp only [peq]; exact ⟨EqAt.str_str _ _ _ _, RcAt.str_str _ _ _ _, RcNeAt.str_str _ _ _ _⟩
      | tup es =>
        rw [Rp] at he; obtain ⟨a, vs, rfl, h2, _⟩ := he; cases rv
        obtain ⟨its, _, ht⟩ := rp_tuple I h2
        simp only [peq]; exact ⟨EqAt.str_tuple _ _ ht (Nat.lt_of_le_of_lt (Nat.le_add_right _ _) hu), RcAt.str_tuple _ _ ht (Nat.lt_of_le_of_lt (Nat.le_add_right _ _) hu), RcNeAt.str_tuple _ _ ht (Nat.lt_of_le_of_lt (Nat.le_add_right _ _) hu)⟩
      | lst es =>
        rw [Rp] at he; obtain ⟨a, vs, rfl, h2, _⟩ := he; cases rv
        obtain ⟨its, _, ht⟩ := rp_list I h2
        simp only [peq]; exact ⟨EqAt.str_list _ _ ht (Nat.lt_of_le_of_lt (Nat.le_add_right _ _) hu), RcAt.str_list _ _ ht (Nat.lt_of_le_of_lt (Nat.le_add_right _ _) hu), RcNeAt.str_list _ _ ht (Nat.lt_of_le_of_lt (Nat.le_add_right _ _) hu)⟩
  | succ n ih =>
    intro A d e x y u v hn hu hd he ru rv
    by_cases hz : dep d ≤ n
    · exact ih A d e x y u v hz (by omega) hd he ru rv
    cases d with
    | non => simp only [dep] at hz; omega
    | bl _ => simp only [dep] at hz; omega
    | int _ => simp only [dep] at hz; omega
    | str _ => simp only [dep] at hz; omega
    | tup ds =>
      rw [dep] at hn
      have hd0 := hd
      rw [Rp] at hd; obtain ⟨a, vs, rfl, h2, hs⟩ := hd; cases ru
      obtain ⟨its, rI, ht⟩ := rp_tuple I h2
      cases e with
      | non => rw [Rp] at he; subst he; cases rv; simp only [peq]; exact ⟨EqAt.tuple_none ht (Nat.lt_of_le_of_lt (Nat.le_add_right _ _) hu), RcAt.tuple_none ht (Nat.lt_of_le_of_lt (Nat.le_add_right _ _) hu), RcNeAt.tuple_none ht (Nat.lt_of_le_of_lt (Nat.le_add_right _ _) hu)⟩
      | bl b => rw [Rp] at he; subst he; cases rv; simp only [peq]; exact ⟨EqAt.tuple_bool _ ht (Nat.lt_of_le_of_lt (Nat.le_add_right _ _) hu), RcAt.tuple_bool _ ht (Nat.lt_of_le_of_lt (Nat.le_add_right _ _) hu), RcNeAt.tuple_bool _ ht (Nat.lt_of_le_of_lt (Nat.le_add_right _ _) hu)⟩
      | int b => rw [Rp] at he; subst he; obtain ⟨t, rfl⟩ := rv; simp only [peq]; exact ⟨EqAt.tuple_int _ _ ht (Nat.lt_of_le_of_lt (Nat.le_add_right _ _) hu), RcAt.tuple_int _ _ ht (Nat.lt_of_le_of_lt (Nat.le_add_right _ _) hu), RcNeAt.tuple_int _ _ ht (Nat.lt_of_le_of_lt (Nat.le_add_right _ _) hu)⟩
      | str b => rw [Rp] at he; subst he; obtain ⟨t, rfl⟩ := rv; simp only [peq]; exact ⟨EqAt.tuple_str _ _ ht (Nat.lt_of_le_of_lt (Nat.le_add_right _ _) hu), RcAt.tuple_str _ _ ht (Nat.lt_of_le_of_lt (Nat.le_add_right _ _) hu), RcNeAt.tuple_str _ _ ht (Nat.lt_of_le_of_lt (Nat.le_add_right _ _) hu)⟩
      | lst es =>
        rw [Rp] at he; obtain ⟨b, ws, rfl, k2, _⟩ := he; cases rv
        obtain ⟨jts, _, hl⟩ := rp_list I k2
        simp only [peq]; exact ⟨EqAt.tuple_list ht hl (by omega), RcAt.tuple_list ht hl (by omega), RcNeAt.tuple_list ht hl (by omega)⟩
      | tup es =>
        have he0 := he
        rw [Rp] at he; obtain ⟨b, ws, rfl, k2, ks⟩ := he; cases rv
        obtain ⟨jts, rJ, hj⟩ := rp_tuple I k2
        have items := eq_items4 (A := A.in1) (s := s) hs ks rI rJ fun i d e e1 e2 x y u v h1 h2 h3 h4 => (ih A.in1 d e x y u v (by have := dep_le e1; omega) (by rw [in1_units]; omega) h1 h2 h3 h4).1
        have rc := RcAt.tuples ht hj (by omega) items
        rw [seq_bool (hs.length.trans rI.length) (ks.length.trans rJ.length)] at rc
        have rn := RcNeAt.tuples ht hj (by omega) items
        rw [seq_bool (hs.length.trans rI.length) (ks.length.trans rJ.length)] at rn
        simp only [peq]
        refine ⟨?_, rc, rn⟩
        by_cases ab : a = b
        · subst ab
          have := Rp.inj I hd0 he0
          injection this with this
          subst this
          rw [peqs_refl]
          exact EqAt.same _
        · exact EqAt.of_refs ab rc
    | lst ds =>
      rw [dep] at hn
      have hd0 := hd
      rw [Rp] at hd; obtain ⟨a, vs, rfl, h2, hs⟩ := hd; cases ru
      obtain ⟨its, rI, ht⟩ := rp_list I h2
      cases e with
      | non => rw [Rp] at he; subst he; cases rv; simp only [peq]; exact ⟨EqAt.list_none ht (Nat.lt_of_le_of_lt (Nat.le_add_right _ _) hu), RcAt.list_none ht (Nat.lt_of_le_of_lt (Nat.le_add_right _ _) hu), RcNeAt.list_none ht (Nat.lt_of_le_of_lt (Nat.le_add_right _ _) hu)⟩
      | bl b => rw [Rp] at he; subst he; cases rv; simp only [peq]; exact ⟨EqAt.list_bool _ ht (Nat.lt_of_le_of_lt (Nat.le_add_right _ _) hu), RcAt.list_bool _ ht (Nat.lt_of_le_of_lt (Nat.le_add_right _ _) hu), RcNeAt.list_bool _ ht (Nat.lt_of_le_of_lt (Nat.le_add_right _ _) hu)⟩
      | int b => rw [Rp] at he; subst he; obtain ⟨t, rfl⟩ := rv; simp only [peq]; exact ⟨EqAt.list_int _ _ ht (Nat.lt_of_le_of_lt (Nat.le_add_right _ _) hu), RcAt.list_int _ _ ht (Nat.lt_of_le_of_lt (Nat.le_add_right _ _) hu), RcNeAt.list_int _ _ ht (Nat.lt_of_le_of_lt (Nat.le_add_right _ _) hu)⟩
      | str b => rw [Rp] at he; subst he; obtain ⟨t, rfl⟩ := rv; simp only [peq]; exact ⟨EqAt.list_str _ _ ht (Nat.lt_of_le_of_lt (Nat.le_add_right _ _) hu), RcAt.list_str _ _ ht (Nat.lt_of_le_of_lt (Nat.le_add_right _ _) hu), RcNeAt.list_str _ _ ht (Nat.lt_of_le_of_lt (Nat.le_add_right _ _) hu)⟩
      | tup es =>
        rw [Rp] at he; obtain ⟨b, ws, rfl, k2, _⟩ := he; cases rv
        obtain ⟨jts, _, hl⟩ := rp_tuple I k2
        simp only [peq]; exact ⟨EqAt.list_tuple ht hl (by omega), RcAt.list_tuple ht hl (by omega), RcNeAt.list_tuple ht hl (by omega)⟩
      | lst es =>
        have he0 := he
        rw [Rp] at he; obtain ⟨b, ws, rfl, k2, ks⟩ := he; cases rv
        obtain ⟨jts, rJ, hj⟩ := rp_list I k2
        have l1 := hs.length.trans rI.length
        have l2 := ks.length.trans rJ.length
        have items := eq_items4 (A := A.in1) (s := s) hs ks rI rJ fun i d e e1 e2 x y u v h1 h2 h3 h4 => (ih A.in1 d e x y u v (by have := dep_le e1; omega) (by rw [in1_units]; omega) h1 h2 h3 h4).1
        have key : RcAt A s (.ref a) (.ref b) (peqs ds es) ∧ RcNeAt A s (.ref a) (.ref b) (!peqs ds es) := by
          by_cases hl : ds.length = es.length
          · have hz : its.toArray.size = jts.toArray.size := by simp only [List.size_toArray]; omega
            have e1 : its.toArray.size = ds.length := by simp [l1]
            have q1 := RcAt.lists ht hj hz (by omega) items
            have q2 := RcNeAt.lists ht hj hz (by omega) items
            rw [e1] at q1 q2
            rw [peqs_all ds es hl]
            exact ⟨q1, q2⟩
          · have hz : (its.toArray.size != jts.toArray.size) = true := by
              rw [bne_iff_ne]
              simp only [List.size_toArray]
              omega
            rw [peqs_len ds es hl]
            exact ⟨RcAt.lists_lengths ht hj hz (by omega), RcNeAt.lists_lengths ht hj hz (by omega)⟩
        simp only [peq]
        refine ⟨?_, key.1, key.2⟩
        by_cases ab : a = b
        · subst ab
          have := Rp.inj I hd0 he0
          injection this with this
          subst this
          rw [peqs_refl]
          exact EqAt.same _
        · exact EqAt.of_refs ab key.1
end
end L4
set_option Elab.async false
set_option linter.all false
set_option maxRecDepth 100000
namespace L4
open PySem PySem.Spec PyProof.Rows L2 L3
inductive Ent where
  | un | sh (d : D) | ow (ds : List D) | rf (p : Addr) | ut (u : U)
inductive MO where
  | lst (ds : List D) | dct (kvs : List (Key × D)) | xc (C : Addr) | op (φ : HO → Prop) | own (us : List U) | tk (kvs : List (D × D)) | tab (pos : Pos) (q : Str)
noncomputable abbrev Rho := List Ent
noncomputable abbrev Mm := Addr → Option MO
noncomputable def mset (M : Mm) (p : Addr) (o : MO) : Mm := fun q => if q = p then some o else M q
private theorem mset_same {M : Mm} {p : Addr} {o : MO} : mset M p o p = some o := by unfold mset; rw [if_pos rfl]
private theorem mset_ne {M : Mm} {p q : Addr} {o : MO} (h : q ≠ p) : mset M p o q = M q := by unfold mset; rw [if_neg h]
noncomputable def KVp (K : PySem.W.Frag) (F : Hp) (kvs : List (Key × D)) (ws : List (Key × V)) : Prop := Paired (fun (p : Key × D) (q : Key × V) => p.1 = q.1 ∧ Rp K F p.2 q.2) kvs ws
mutual
noncomputable def kOk : D → Bool
  | .int _ => true
  | .tup ds => kOks ds
  | .non => false
  | .bl _ => false
  | .str _ => false
  | .lst _ => false
noncomputable def kOks : List D → Bool
  | [] => true
  | d :: ds => kOk d && kOks ds
end
noncomputable def TKp (K : PySem.W.Frag) (F : Hp) (kvs : List (D × D)) (xs : List (D × Addr × Value)) : Prop := Paired (fun (q : D × D) (x : D × Addr × Value) => q.1 = x.1 ∧ (kOk q.1 = true ∧ dep q.1 ≤ 8) ∧ Rp K F q.1 (.ref x.2.1) ∧ ∃ v, RelV v x.2.2 ∧ Rp K F q.2 v) kvs xs
private theorem TKp.same {K : PySem.W.Frag} {F F' : Hp} (e : Same F F') {kvs : List (D × D)} {xs : List (D × Addr × Value)} (h : TKp K F kvs xs) : TKp K F' kvs xs :=
  Paired.mapP h fun _ _ z => ⟨z.1, z.2.1, Rp.same e z.2.2.1, z.2.2.2.elim fun v q => ⟨v, q.1, Rp.same e q.2⟩⟩
noncomputable def MOk (K : PySem.W.Frag) (F H : Hp) (p : Addr) : MO → Prop
  | .lst ds => ∃ vs, H p = some (.lst vs) ∧ Rps K F ds vs
  | .dct kvs => ∃ ws, H p = some (.dK ws) ∧ KVp K F kvs ws
  | .xc C => H p = some (.ext (IsX p C))
  | .op φ => ∃ o, H p = some o ∧ φ o
  | .own us => ∃ vs, H p = some (.lst vs) ∧ RUs K F us vs
  | .tk kvs => ∃ xs, H p = some (.ext (IsDT p xs)) ∧ TKp K F kvs xs
  | .tab pos q => ∃ ps, H p = some (.tbl ps) ∧ TabOk F pos q ps
structure AgM (K : PySem.W.Frag) (Z F : Hp) (M : Mm) (H : Hp) : Prop where
  sm : Same F H
  zz : ∀ p o, Z p = some o → H p = some o ∧ F p = none ∧ M p = none
  mo : ∀ p o, M p = some o → F p = none ∧ MOk K F H p o
noncomputable def EOk (K : PySem.W.Frag) (Z F : Hp) (M : Mm) (H : Hp) : Ent → Option V → Prop
  | .un, _ => True
  | .sh d, o => ∃ v, o = some v ∧ Rp K F d v
  | .rf p, o => o = some (.ref p)
  | .ut u, o => ∃ v, o = some v ∧ RU K F u v
  | .ow ds, o => ∃ p vs, o = some (.ref p) ∧ H p = some (.lst vs) ∧ F p = none ∧ M p = none ∧ Z p = none ∧ Rps K F ds vs
structure Ag (K : PySem.W.Frag) (Z F : Hp) (M : Mm) (H : Hp) (ρ : Rho) (σ : L2.St) : Prop where
  m : AgM K Z F M H
  len : ρ.length = σ.length
  en : ∀ (i : Nat) (e : Ent), ρ[i]? = some e → EOk K Z F M H e (σ[i]?).join
  di : ∀ (i j : Nat) (ds es : List D) (p : Addr), i ≠ j → ρ[i]? = some (.ow ds) → ρ[j]? = some (.ow es) → σ[i]? = some (some (.ref p)) → σ[j]? ≠ some (some (.ref p))
private theorem KVp.same {K : PySem.W.Frag} {F F' : Hp} (e : Same F F') {kvs : List (Key × D)} {ws : List (Key × V)} (h : KVp K F kvs ws) : KVp K F' kvs ws := Paired.mapP h fun _ _ z => ⟨z.1, Rp.same e z.2⟩
private theorem MOk.same {K : PySem.W.Frag} {F F' H H' : Hp} {p : Addr} {o : MO} (e : Same F F') (h : H' p = H p) (k : MOk K F H p o) : MOk K F' H' p o := by
  cases o with
  | lst ds => obtain ⟨vs, a, b⟩ := k; exact ⟨vs, h.trans a, Rps.same e b⟩
  | dct kvs => obtain ⟨vs, a, b⟩ := k; exact ⟨vs, h.trans a, KVp.same e b⟩
  | xc C => exact h.trans k
  | op φ => obtain ⟨o, a, b⟩ := k; exact ⟨o, h.trans a, b⟩
  | own us => obtain ⟨vs, a, b⟩ := k; exact ⟨vs, h.trans a, RUs.same e b⟩
  | tk kvs => obtain ⟨vs, a, b⟩ := k; exact ⟨vs, h.trans a, TKp.same e b⟩
  | tab pos q =>
    obtain ⟨ps, a, b1, b2⟩ := k
    refine ⟨ps, h.trans a, b1, ?_⟩
    rcases b2 with b2 | ⟨c, b3, b4⟩
    · exact .inl b2
    · exact .inr ⟨c, b3, e _ _ b4⟩
private theorem MOk.there {K : PySem.W.Frag} {F H : Hp} {p : Addr} {o : MO} (k : MOk K F H p o) : ∃ u, H p = some u := by
  cases o with
  | lst ds => obtain ⟨vs, a, b⟩ := k; exact ⟨_, a⟩
  | dct kvs => obtain ⟨vs, a, b⟩ := k; exact ⟨_, a⟩
  | xc C => exact ⟨_, k⟩
  | op φ => obtain ⟨o, a, b⟩ := k; exact ⟨o, a⟩
  | own us => obtain ⟨vs, a, b⟩ := k; exact ⟨_, a⟩
  | tk kvs => obtain ⟨vs, a, b⟩ := k; exact ⟨_, a⟩
  | tab pos q => obtain ⟨ps, a, b⟩ := k; exact ⟨_, a⟩
section
variable {K : PySem.W.Frag} {Z F F' H H' : Hp} {M : Mm} {ρ : Rho} {σ : L2.St}
private theorem AgM.grow (a : AgM K Z F M H) (hF : Same F F') (hH : Same H H') (sm : Same F' H') (new : ∀ p, F p = none → H p ≠ none → F' p = none) : AgM K Z F' M H' := by
  refine ⟨sm, fun p o h => ?_, fun p o h => ?_⟩
  · obtain ⟨z1, z2, z3⟩ := a.zz p o h
    exact ⟨hH _ _ z1, new p z2 (by rw [z1]; simp), z3⟩
  obtain ⟨n, k⟩ := a.mo p o h
  obtain ⟨u, hu⟩ := k.there
  refine ⟨new p n (by rw [hu]; simp), k.same hF ?_⟩
  rw [hu]; exact hH _ _ hu
private theorem Ag.grow (a : Ag K Z F M H ρ σ) (hF : Same F F') (hH : Same H H') (sm : Same F' H') (new : ∀ p, F p = none → H p ≠ none → F' p = none) : Ag K Z F' M H' ρ σ := by
  refine ⟨a.m.grow hF hH sm new, a.len, fun i e h => ?_, a.di⟩
  have := a.en i e h
  cases e with
  | un => trivial
  | sh d => obtain ⟨v, h1, h2⟩ := this; exact ⟨v, h1, Rp.same hF h2⟩
  | rf p => exact this
  | ut u => obtain ⟨v, h1, h2⟩ := this; exact ⟨v, h1, RU.same hF h2⟩
  | ow ds => obtain ⟨p, vs, h1, h2, h3, h4, h6, h5⟩ := this; exact ⟨p, vs, h1, hH _ _ h2, new p h3 (by rw [h2]; simp), h4, h6, Rps.same hF h5⟩
private theorem same_upd {p : Addr} {o : HO} (sm : Same F H) (hp : H p = none) : Same (upd F p o) (upd H p o) := fun b u e => by
  by_cases hb : b = p
  · subst hb; rw [upd_same] at *; exact e
  · rw [upd_ne hb] at *; exact sm b u e
private theorem sub_none {p : Addr} (sm : Same F H) (hp : H p = none) : F p = none := by
  cases e : F p with
  | none => rfl
  | some u => rw [sm _ _ e] at hp; cases hp
private theorem Ag.new {p : Addr} {o : HO} (a : Ag K Z F M H ρ σ) (hp : H p = none) : Ag K Z (upd F p o) M (upd H p o) ρ σ :=
  a.grow (Same.new (sub_none a.m.sm hp)) (Same.new hp) (same_upd a.m.sm hp) fun q h1 h2 => by
    have : q ≠ p := fun z => h2 (z ▸ hp)
    rw [upd_ne this]; exact h1
private theorem Ag.newO {p : Addr} {o : HO} (a : Ag K Z F M H ρ σ) (hp : H p = none) : Ag K Z F M (upd H p o) ρ σ :=
  a.grow (Same.refl _) (Same.new hp) (a.m.sm.trans (Same.new hp)) fun q h1 _ => h1
private theorem Ag.put {i : Nat} {e : Ent} {o : Option V} (a : Ag K Z F M H ρ σ) (h : EOk K Z F M H e o) (hd : ∀ (ds : List D) (p : Addr), e = .ow ds → o = some (.ref p) → ∀ (j : Nat) (es : List D), j ≠ i → ρ[j]? = some (.ow es) → σ[j]? ≠ some (some (.ref p))) : Ag K Z F M H (ρ.set i e) (σ.set i o) := by
  refine ⟨a.m, by rw [List.length_set, List.length_set, a.len], fun j e' q => ?_, fun j k ds es p ne q1 q2 q3 => ?_⟩
  · by_cases hj : j = i
    · subst hj
      have hl : j < ρ.length := by
        have := (List.getElem?_eq_some_iff.mp q).1
        rwa [List.length_set] at this
      rw [List.getElem?_set_self hl] at q
      cases q
      rw [List.getElem?_set_self (by rw [← a.len]; exact hl)]
      exact h
    · rw [List.getElem?_set_ne (Ne.symm hj)] at q ⊢
      exact a.en j e' q
  · have hl : ∀ {j : Nat} {x : Ent}, (ρ.set i e)[j]? = some x → j < ρ.length := fun q => by
      have := (List.getElem?_eq_some_iff.mp q).1
      rwa [List.length_set] at this
    by_cases hj : j = i
    · subst hj
      have hk : k ≠ j := Ne.symm ne
      rw [List.getElem?_set_self (hl q1)] at q1
      cases q1
      have hl3 : j < σ.length := by
        have := (List.getElem?_eq_some_iff.mp q3).1
        rwa [List.length_set] at this
      rw [List.getElem?_set_self hl3] at q3
      rw [List.getElem?_set_ne (Ne.symm hk)] at q2 ⊢
      injection q3 with q3
      exact hd ds p rfl q3 k es hk q2
    · by_cases hk : k = i
      · subst hk
        rw [List.getElem?_set_self (hl q2)] at q2
        cases q2
        rw [List.getElem?_set_ne (Ne.symm hj)] at q1 q3
        intro q4
        rw [List.getElem?_set_self (by
          have := (List.getElem?_eq_some_iff.mp q4).1
          rw [List.length_set] at this
          exact this)] at q4
        injection q4 with q4
        exact hd es p rfl q4 j ds hj q1 q3
      · rw [List.getElem?_set_ne (Ne.symm hj)] at q1 q3
        rw [List.getElem?_set_ne (Ne.symm hk)] at q2 ⊢
        exact a.di j k ds es p ne q1 q2 q3
private theorem Ag.set {i : Nat} {d : D} {v : V} (a : Ag K Z F M H ρ σ) (h : Rp K F d v) : Ag K Z F M H (ρ.set i (.sh d)) (σ.set i (some v)) := a.put ⟨v, rfl, h⟩ fun _ _ z => nomatch z
private theorem Ag.setU {i : Nat} {u : U} {v : V} (a : Ag K Z F M H ρ σ) (h : RU K F u v) : Ag K Z F M H (ρ.set i (.ut u)) (σ.set i (some v)) := a.put ⟨v, rfl, h⟩ fun _ _ z => nomatch z
private theorem Ag.setO {i : Nat} {ds : List D} {p : Addr} {vs : List V} (a : Ag K Z F M H ρ σ) (h1 : H p = some (.lst vs)) (h2 : F p = none) (h3 : M p = none) (hz : Z p = none) (h4 : Rps K F ds vs) (h5 : ∀ (j : Nat) (es : List D), ρ[j]? = some (.ow es) → σ[j]? ≠ some (some (.ref p))) : Ag K Z F M H (ρ.set i (.ow ds)) (σ.set i (some (.ref p))) :=
  a.put ⟨p, vs, rfl, h1, h2, h3, hz, h4⟩ fun _ q _ z j es _ hj => by cases z; exact h5 j es hj
private theorem set_id {α : Type} : ∀ {l : List α} {i : Nat} {x : α}, l[i]? = some x → l.set i x = l
  | [], _, _, h => by simp at h
  | _ :: _, 0, _, h => by simp at h; subst h; rfl
  | _ :: l, i + 1, _, h => by rw [List.set_cons_succ, set_id (by simpa using h)]
private theorem Ag.fz {i : Nat} {ds : List D} (a : Ag K Z F M H ρ σ) (h : ρ[i]? = some (.ow ds)) : ∃ F' v, σ[i]? = some (some v) ∧ Same F F' ∧ Rp K F' (.lst ds) v ∧ Ag K Z F' M H (ρ.set i (.sh (.lst ds))) σ := by
  have hi := a.en i _ h
  obtain ⟨p, vs, h1, h2, h3, h4, h6, h5⟩ := hi
  have hs : σ[i]? = some (some (.ref p)) := by
    cases q : σ[i]? with
    | none => rw [q] at h1; cases h1
    | some o => rw [q] at h1; simp at h1; rw [h1]
  have s1 : Same F (upd F p (.lst vs)) := Same.new h3
  have r : Rp K (upd F p (.lst vs)) (.lst ds) (.ref p) := by rw [Rp]; exact ⟨p, vs, rfl, .inl upd_same, Rps.same s1 h5⟩
  refine ⟨upd F p (.lst vs), .ref p, hs, s1, r, ?_⟩
  have s2 : Same (upd F p (.lst vs)) H := fun b u e => by
    by_cases hb : b = p
    · subst hb; rw [upd_same] at e; cases e; exact h2
    · rw [upd_ne hb] at e; exact a.m.sm b u e
  have nm : ∀ q o, M q = some o → q ≠ p := fun q o e z => by rw [z, h4] at e; cases e
  have e2 : σ = σ.set i (some (.ref p)) := (set_id hs).symm
  have hi' : i < ρ.length := (List.getElem?_eq_some_iff.mp h).1
  refine ⟨⟨s2, fun q o e => ?_, fun q o e => ?_⟩, by rw [List.length_set]; exact a.len, fun j e q => ?_, fun j k es fs q ne q1 q2 q3 => ?_⟩
  · obtain ⟨z1, z2, z3⟩ := a.m.zz q o e
    have : q ≠ p := fun z => by rw [z, h6] at e; cases e
    exact ⟨z1, by rw [upd_ne this]; exact z2, z3⟩
  · obtain ⟨z1, z2⟩ := a.m.mo q o e
    exact ⟨by rw [upd_ne (nm q o e)]; exact z1, z2.same s1 rfl⟩
  · by_cases hj : j = i
    · subst hj
      rw [List.getElem?_set_self hi'] at q
      cases q
      exact ⟨.ref p, by rw [hs]; rfl, r⟩
    · rw [List.getElem?_set_ne (Ne.symm hj)] at q
      have := a.en j e q
      cases e with
      | un => trivial
      | sh d => obtain ⟨v, g1, g2⟩ := this; exact ⟨v, g1, Rp.same s1 g2⟩
      | rf p => exact this
      | ut u => obtain ⟨v, g1, g2⟩ := this; exact ⟨v, g1, RU.same s1 g2⟩
      | ow es =>
        obtain ⟨q', ws, g1, g2, g3, g4, g6, g5⟩ := this
        have hne : q' ≠ p := fun z => by
          subst z
          have hj' : σ[j]? = some (some (.ref q')) := by
            cases y : σ[j]? with
            | none => rw [y] at g1; cases g1
            | some o => rw [y] at g1; simp at g1; rw [g1]
          exact a.di i j ds es q' (Ne.symm hj) h q hs hj'
        exact ⟨q', ws, g1, g2, by rw [upd_ne hne]; exact g3, g4, g6, Rps.same s1 g5⟩
  · have n1 : j ≠ i := fun z => by subst z; rw [List.getElem?_set_self hi'] at q1; cases q1
    have n2 : k ≠ i := fun z => by subst z; rw [List.getElem?_set_self hi'] at q2; cases q2
    rw [List.getElem?_set_ne (Ne.symm n1)] at q1
    rw [List.getElem?_set_ne (Ne.symm n2)] at q2
    exact a.di j k es fs q ne q1 q2 q3
end
end L4
set_option Elab.async false
set_option linter.all false
set_option maxRecDepth 100000
namespace L4
open PySem PySem.Spec PyProof.Rows L2 L3
noncomputable abbrev WE := Rho → Mm → (D → Rho → Mm → Prop) → Prop
noncomputable abbrev WT := Rho → Mm → (Bool → Rho → Mm → Prop) → Prop
noncomputable abbrev WA := Rho → Mm → (List D → Rho → Mm → Prop) → Prop
noncomputable abbrev WN := Rho → Mm → (List D → Rho → Mm → Prop) → Prop
noncomputable abbrev WG := D → Rho → Mm → (Rho → Mm → Prop) → Prop
noncomputable abbrev WGs := List D → Rho → Mm → (Rho → Mm → Prop) → Prop
structure WEnds where
  nx : Rho → Mm → Prop
  rt : U → Mm → Prop
  bk : Rho → Mm → Prop := fun _ _ => False
  ct : Rho → Mm → Prop := fun _ _ => False
noncomputable abbrev WS := WEnds → Rho → Mm → Prop
noncomputable def lf (K : PySem.W.Frag) (f : WE) : TE := fun σ H Q => ∃ Z F ρ M P, Ag K Z F M H ρ σ ∧ f ρ M P ∧ ∀ v H' F' d ρ' M', Same F F' → Ag K Z F' M' H' ρ' σ → Rp K F' d v → P d ρ' M' → Q v H'
noncomputable def lfT (K : PySem.W.Frag) (f : WT) : TT := fun σ H Q => ∃ Z F ρ M P, Ag K Z F M H ρ σ ∧ f ρ M P ∧ ∀ b H' F' ρ' M', Same F F' → Ag K Z F' M' H' ρ' σ → P b ρ' M' → Q b H'
noncomputable def lfA (K : PySem.W.Frag) (f : WA) : TA := fun σ H Q => ∃ Z F ρ M P, Ag K Z F M H ρ σ ∧ f ρ M P ∧ ∀ vs H' F' ds ρ' M', Same F F' → Ag K Z F' M' H' ρ' σ → Rps K F' ds vs → P ds ρ' M' → Q vs H'
noncomputable def lfN (K : PySem.W.Frag) (f : WN) : TE := fun σ H Q => ∃ Z F ρ M P, Ag K Z F M H ρ σ ∧ f ρ M P ∧ ∀ p vs H' F' ds ρ' M', Same F F' → Ag K Z F' M' H' ρ' σ → H' p = some (.lst vs) → F' p = none → M' p = none → Z p = none → (∀ (j : Nat) (es : List D), ρ'[j]? = some (.ow es) → σ[j]? ≠ some (some (.ref p))) → Rps K F' ds vs → P ds ρ' M' → Q (.ref p) H'
noncomputable def lfG (K : PySem.W.Frag) (f : WG) : TG := fun v σ H Q => ∃ Z F ρ M d P, Ag K Z F M H ρ σ ∧ Rp K F d v ∧ f d ρ M P ∧ ∀ σ' H' F' ρ' M', Same F F' → Ag K Z F' M' H' ρ' σ' → P ρ' M' → Q σ' H'
noncomputable def lfGs (K : PySem.W.Frag) (f : WGs) : TGs := fun vs σ H Q => ∃ Z F ρ M ds P, Ag K Z F M H ρ σ ∧ Rps K F ds vs ∧ f ds ρ M P ∧ ∀ σ' H' F' ρ' M', Same F F' → Ag K Z F' M' H' ρ' σ' → P ρ' M' → Q σ' H'
structure EndsOk (K : PySem.W.Frag) (Z F : Hp) (E : WEnds) (D' : Ends) : Prop where
  nx : ∀ σ' H' F' ρ' M', Same F F' → Ag K Z F' M' H' ρ' σ' → E.nx ρ' M' → D'.nx σ' H'
  bk : ∀ σ' H' F' ρ' M', Same F F' → Ag K Z F' M' H' ρ' σ' → E.bk ρ' M' → D'.bk σ' H'
  ct : ∀ σ' H' F' ρ' M', Same F F' → Ag K Z F' M' H' ρ' σ' → E.ct ρ' M' → D'.ct σ' H'
  rt : ∀ v H' F' u M', Same F F' → AgM K Z F' M' H' → RU K F' u v → E.rt u M' → D'.rt v H'
noncomputable def lfS (K : PySem.W.Frag) (f : WS) : TS := fun D' σ H => ∃ Z F ρ M E, Ag K Z F M H ρ σ ∧ f E ρ M ∧ EndsOk K Z F E D'
structure JE (X : Cx) (e : Expr) (f : WE) : Prop where
  h : PE X e (lf X.K f)
structure JT (X : Cx) (e : Expr) (f : WT) : Prop where
  h : PT X e (lfT X.K f)
structure JW (X : Cx) (e : Expr) (f : WT) : Prop where
  h : PW X e (lfT X.K f)
structure JA (X : Cx) (es : List Expr) (f : WA) : Prop where
  h : PA X es (lfA X.K f)
structure JN (X : Cx) (e : Expr) (f : WN) : Prop where
  h : PE X e (lfN X.K f)
structure JG (X : Cx) (e : Expr) (f : WG) : Prop where
  h : PG X e (lfG X.K f)
structure JGs (X : Cx) (es : List Expr) (f : WGs) : Prop where
  h : PGs X es (lfGs X.K f)
structure JS (X : Cx) (st : Stmt) (f : WS) : Prop where
  h : PS X st (lfS X.K f)
structure JSs (X : Cx) (st : List Stmt) (f : WS) : Prop where
  h : PSs X st (lfS X.K f)
private theorem imE {X : Cx} {e : Expr} {t t' : TE} (h : PE X e t) (k : ∀ σ H Q, t' σ H Q → t σ H Q) : PE X e t' := fun pins s σ H Q I q => h pins s σ H Q I (k σ H Q q)
private theorem imT {X : Cx} {e : Expr} {t t' : TT} (h : PT X e t) (k : ∀ σ H Q, t' σ H Q → t σ H Q) : PT X e t' := fun pins s σ H Q I q => h pins s σ H Q I (k σ H Q q)
private theorem imW {X : Cx} {e : Expr} {t t' : TT} (h : PW X e t) (k : ∀ σ H Q, t' σ H Q → t σ H Q) : PW X e t' := fun w pins s σ H Q I q => h w pins s σ H Q I (k σ H Q q)
private theorem imA {X : Cx} {e : List Expr} {t t' : TA} (h : PA X e t) (k : ∀ σ H Q, t' σ H Q → t σ H Q) : PA X e t' := fun pos pins s σ H Q I q => h pos pins s σ H Q I (k σ H Q q)
private theorem imS {X : Cx} {st : Stmt} {t t' : TS} (h : PS X st t) (k : ∀ D' σ H, t' D' σ H → t D' σ H) : PS X st t' := fun pins s σ H D' I q => h pins s σ H D' I (k D' σ H q)
private theorem imSs {X : Cx} {st : List Stmt} {t t' : TS} (h : PSs X st t) (k : ∀ D' σ H, t' D' σ H → t D' σ H) : PSs X st t' := fun pins s σ H D' I q => h pins s σ H D' I (k D' σ H q)
private theorem imG {X : Cx} {e : Expr} {t t' : TG} (h : PG X e t) (k : ∀ v σ H Q, t' v σ H Q → t v σ H Q) : PG X e t' := fun pins s σ H v u Q I r q => h pins s σ H v u Q I r (k v σ H Q q)
private theorem imGs {X : Cx} {e : List Expr} {t t' : TGs} (h : PGs X e t) (k : ∀ v σ H Q, t' v σ H Q → t v σ H Q) : PGs X e t' := fun pins s σ H v u Q I r q => h pins s σ H v u Q I r (k v σ H Q q)
inductive Gw (F H : Hp) : Hp → Hp → Prop where
  | rf : Gw F H F H
  | nw {p : Addr} {o : HO} (hp : H p = none) : Gw F H (upd F p o) (upd H p o)
private theorem Gw.same {F H F' H' : Hp} (sm : Same F H) (g : Gw F H F' H') : Same F F' := by
  cases g with
  | rf => exact Same.refl _
  | nw hp => exact Same.new (sub_none sm hp)
private theorem Gw.ag {K : PySem.W.Frag} {Z F H F' H' : Hp} {M : Mm} {ρ : Rho} {σ : L2.St} (a : Ag K Z F M H ρ σ) (g : Gw F H F' H') : Ag K Z F' M H' ρ σ := by
  cases g with
  | rf => exact a
  | nw hp => exact a.new hp
section
variable {X : Cx} {a b c e : Expr} {es rest : List Expr} {pos : Pos} {fa fb fe : WE} {ft fu : WT} {fl : WA} {fn : WN}
noncomputable def wV (i : Nat) : WE := fun ρ M P => match ρ[i]? with
  | some (.sh d) => P d ρ M
  | some (.ow ds) => P (.lst ds) (ρ.set i (.sh (.lst ds))) M
  | _ => False
private theorem je_of_var {i : Nat} (h : PE X e (tVar i)) : JE X e (wV i) := ⟨imE h fun σ H Q hh => ex5 hh fun Z F ρ M P ag hf k => by
  unfold wV at hf
  split at hf
  · rename_i d hd
    obtain ⟨v, h1, h2⟩ := ag.en i _ hd
    refine ⟨v, ?_, k v H F d ρ M (Same.refl _) ag h2 hf⟩
    cases q : σ[i]? with
    | none => rw [q] at h1; cases h1
    | some o => rw [q] at h1; simp at h1; rw [h1]
  · rename_i ds hd
    obtain ⟨F', v, h1, h2, h3, h4⟩ := ag.fz hd
    exact ⟨v, h1, k v H F' _ _ M h2 h4 h3 hf⟩
  · exact hf.elim⟩
private theorem jv (i : Nat) {x : Str} (hN : X.N[i]? = some x := by rfl) (hv : Vis X.env.scope x := by first | exact Or.inl rfl | exact Or.inr (Or.inl rfl) | exact Or.inr (Or.inr rfl)) (hd : (x == ("__debug__" : Str)) = false := by decide) (hcd : (x == ("__classdict__" : Str)) = false := by decide) : JE X (.Name x pos) (wV i) := je_of_var (L2.pv i hN hv hd hcd)
noncomputable def wC (d : D) : WE := fun ρ M P => P d ρ M
private theorem je_of_c {d : D} {v : V} (h : PE X e (tC v)) (r : ∀ F, Rp X.K F d v) : JE X e (wC d) := ⟨imE h fun σ H Q hh => ex5 hh fun Z F ρ M P ag hf k => k v H F d ρ M (Same.refl _) ag (r F) hf⟩
private theorem j_int {i : Int} {j : Nat} : JE X (.Constant (.int i) j pos) (wC (.int i)) := je_of_c pe_int fun F => by rw [Rp]
private theorem j_bl {i : Bool} {j : Nat} : JE X (.Constant (.bool i) j pos) (wC (.bl i)) := je_of_c pe_bl fun F => by rw [Rp]
private theorem j_non {j : Nat} : JE X (.Constant .none j pos) (wC .non) := je_of_c pe_non fun F => by rw [Rp]
noncomputable def OpW (X : Cx) (r : R2) (R : D → D → (D → Prop) → Prop) : Prop := ∀ (x y : D) (v u : V) (F H : Hp) (Q : VK) (P : D → Prop), Same F H → Rp X.K F x v → Rp X.K F y u → R x y P → (∀ d w F' H', Gw F H F' H' → Rp X.K F' d w → P d → Q w H') → r v u H Q
noncomputable def UnW (X : Cx) (r : V → Hp → VK → Prop) (R : D → (D → Prop) → Prop) : Prop := ∀ (x : D) (v : V) (F H : Hp) (Q : VK) (P : D → Prop), Same F H → Rp X.K F x v → R x P → (∀ d w F' H', Gw F H F' H' → Rp X.K F' d w → P d → Q w H') → r v H Q
noncomputable def CaW (X : Cx) (r : List V → Hp → VK → Prop) (R : List D → (D → Prop) → Prop) : Prop := ∀ (xs : List D) (vs : List V) (F H : Hp) (Q : VK) (P : D → Prop), Same F H → Rps X.K F xs vs → R xs P → (∀ d w F' H', Gw F H F' H' → Rp X.K F' d w → P d → Q w H') → r vs H Q
noncomputable def wOp (R : D → D → (D → Prop) → Prop) (fa fb : WE) : WE := fun ρ M P => fa ρ M fun x ρ1 M1 => fb ρ1 M1 fun y ρ2 M2 => R x y fun d => P d ρ2 M2
noncomputable def wUn (R : D → (D → Prop) → Prop) (fa : WE) : WE := fun ρ M P => fa ρ M fun x ρ1 M1 => R x fun d => P d ρ1 M1
noncomputable def wCall (R : List D → (D → Prop) → Prop) (fl : WA) : WE := fun ρ M P => fl ρ M fun xs ρ1 M1 => R xs fun d => P d ρ1 M1
private theorem of_op {r : R2} {R : D → D → (D → Prop) → Prop} (w : OpW X r R) {fa fb : WE} : ∀ σ H Q, lf X.K (wOp R fa fb) σ H Q → tOp r (lf X.K fa) (lf X.K fb) σ H Q := fun σ H Q hh => ex5 hh fun Z F ρ M P ag hf k =>
  ⟨Z, F, ρ, M, _, ag, hf, fun v H1 F1 d1 ρ1 M1 s1 ag1 r1 h1 => ⟨Z, F1, ρ1, M1, _, ag1, h1, fun u H2 F2 d2 ρ2 M2 s2 ag2 r2 h2 =>
    w d1 d2 v u F2 H2 Q _ ag2.m.sm (r1.same s2) r2 h2 fun d w F' H' g rp hp => k w H' F' d ρ2 M2 (s1.trans (s2.trans (g.same ag2.m.sm))) (g.ag ag2) rp hp⟩⟩
private theorem of_un {r : V → Hp → VK → Prop} {R : D → (D → Prop) → Prop} (w : UnW X r R) {fa : WE} : ∀ σ H Q, lf X.K (wUn R fa) σ H Q → tUn r (lf X.K fa) σ H Q := fun σ H Q hh => ex5 hh fun Z F ρ M P ag hf k =>
  ⟨Z, F, ρ, M, _, ag, hf, fun v H1 F1 d1 ρ1 M1 s1 ag1 r1 h1 => w d1 v F1 H1 Q _ ag1.m.sm r1 h1 fun d w F' H' g rp hp => k w H' F' d ρ1 M1 (s1.trans (g.same ag1.m.sm)) (g.ag ag1) rp hp⟩
private theorem of_call {r : List V → Hp → VK → Prop} {R : List D → (D → Prop) → Prop} (w : CaW X r R) {fl : WA} : ∀ σ H Q, lf X.K (wCall R fl) σ H Q → tCB r (lfA X.K fl) σ H Q := fun σ H Q hh => ex5 hh fun Z F ρ M P ag hf k =>
  ⟨Z, F, ρ, M, _, ag, hf, fun v H1 F1 d1 ρ1 M1 s1 ag1 r1 h1 => w d1 v F1 H1 Q _ ag1.m.sm r1 h1 fun d w F' H' g rp hp => k w H' F' d ρ1 M1 (s1.trans (g.same ag1.m.sm)) (g.ag ag1) rp hp⟩
private theorem j_op {op : Operator} {r : R2} {R : D → D → (D → Prop) → Prop} (o : OpR X (binaryOp op) r) (w : OpW X r R) (ha : JE X a fa) (hb : JE X b fb) : JE X (.BinOp a op b pos) (wOp R fa fb) := ⟨imE (pe_op o ha.h hb.h) (of_op w)⟩
private theorem j_un {op : UnaryOp} {r : V → Hp → VK → Prop} {R : D → (D → Prop) → Prop} (o : UnR X (unaryOp op) r) (w : UnW X r R) (ha : JE X a fa) : JE X (.UnaryOp op a pos) (wUn R fa) := ⟨imE (pe_un o ha.h) (of_un w)⟩
private theorem j_cmp {op : CmpOp} {r : R2} {R : D → D → (D → Prop) → Prop} (o : OpR X (compareOp op) r) (w : OpW X r R) (ha : JE X a fa) (hb : JE X b fb) (hm : behindInMarks op b = false) : JE X (.Compare a [op] [b] pos) (wOp R fa fb) := ⟨imE (pe_cmpR o ha.h hb.h hm) (of_op w)⟩
private theorem j_ix {r : R2} {R : D → D → (D → Prop) → Prop} (o : IxR X r) (w : OpW X r R) (ha : JE X a fa) (hb : JE X b fb) (hs : PlainIx b) : JE X (.Subscript a b pos) (wOp R fa fb) := ⟨imE (pe_ix o ha.h hb.h hs) (of_op w)⟩
noncomputable def RI (C : Int → Int → Prop) (g : Int → Int → D) : D → D → (D → Prop) → Prop := fun x y P => match x, y with
  | .int i, .int j => C i j ∧ P (g i j)
  | _, _ => False
noncomputable def RI0 (g : Int → Int → D) : D → D → (D → Prop) → Prop := fun x y P => match x, y with
  | .int i, .int j => P (g i j)
  | _, _ => False
noncomputable def dI : V → D → Prop := fun v d => match v, d with
  | .int i, .int j => i = j
  | .bl i, .bl j => i = j
  | _, _ => False
private theorem dI.rp {K : PySem.W.Frag} {F : Hp} {v : V} {d : D} (h : dI v d) : Rp K F d v := by
  unfold dI at h
  split at h
  · subst h; rw [Rp]
  · subst h; rw [Rp]
  · exact h.elim
private theorem w_I {C : Int → Int → Prop} {g : Int → Int → V} {g' : Int → Int → D} (e : ∀ i j, dI (g i j) (g' i j)) : OpW X (rI C g) (RI C g') := by
  intro x y v u F H Q P sm rx ry h k
  unfold RI at h
  split at h
  · rename_i i j
    rw [Rp] at rx ry
    exact ⟨i, j, rx, ry, h.1, k _ _ F H .rf (e i j).rp h.2⟩
  · exact h.elim
private theorem w_I0 {g : Int → Int → V} {g' : Int → Int → D} (e : ∀ i j, dI (g i j) (g' i j)) : OpW X (rI0 g) (RI0 g') := by
  intro x y v u F H Q P sm rx ry h k
  unfold RI0 at h
  split at h
  · rename_i i j
    rw [Rp] at rx ry
    exact ⟨i, j, rx, ry, k _ _ F H .rf (e i j).rp h⟩
  · exact h.elim
noncomputable def CM (i j : Int) : Prop := CMul i j ∨ CMulS i j
private theorem op_mulA : OpR X (binaryOp .Mult) (rI CM fun i j => .int (i * j)) := by
  intro pins s σ H x y u v Q I rx ry h
  obtain ⟨i, j, h1, h2, h3, h4⟩ := h
  rcases h3 with h3 | h3
  · exact op_mul pins s σ H x y u v Q I rx ry ⟨i, j, h1, h2, h3, h4⟩
  · exact op_mulS pins s σ H x y u v Q I rx ry ⟨i, j, h1, h2, h3, h4⟩
private theorem j_add (ha : JE X a fa) (hb : JE X b fb) : JE X (.BinOp a .Add b pos) (wOp (RI0 fun i j => .int (i + j)) fa fb) := j_op op_add (w_I0 fun _ _ => rfl) ha hb
private theorem j_sub (ha : JE X a fa) (hb : JE X b fb) : JE X (.BinOp a .Sub b pos) (wOp (RI0 fun i j => .int (i - j)) fa fb) := j_op op_sub (w_I0 fun _ _ => rfl) ha hb
private theorem j_mul (ha : JE X a fa) (hb : JE X b fb) : JE X (.BinOp a .Mult b pos) (wOp (RI CM fun i j => .int (i * j)) fa fb) := j_op op_mulA (w_I fun _ _ => rfl) ha hb
private theorem j_fdiv (ha : JE X a fa) (hb : JE X b fb) : JE X (.BinOp a .FloorDiv b pos) (wOp (RI CDivS fun i j => .int (i.fdiv j)) fa fb) := j_op op_fdivS (w_I fun _ _ => rfl) ha hb
private theorem j_mod (ha : JE X a fa) (hb : JE X b fb) : JE X (.BinOp a .Mod b pos) (wOp (RI (fun _ j => j ≠ 0) fun i j => .int (i.fmod j)) fa fb) := j_op op_modN (w_I fun _ _ => rfl) ha hb
private theorem j_pow (ha : JE X a fa) (hb : JE X b fb) : JE X (.BinOp a .Pow b pos) (wOp (RI CPow fun i j => .int (i ^ j.toNat)) fa fb) := j_op op_pow (w_I fun _ _ => rfl) ha hb
private theorem j_lt (ha : JE X a fa) (hb : JE X b fb) : JE X (.Compare a [.Lt] [b] pos) (wOp (RI0 fun i j => .bl (decide (i < j))) fa fb) := j_cmp op_lt (w_I0 fun _ _ => rfl) ha hb (nomark _)
end
end L4
set_option Elab.async false
set_option linter.all false
set_option maxRecDepth 100000
namespace L4
open PySem PySem.Spec PyProof.Rows L2 L3
section
variable {X : Cx} {a b c e : Expr} {es rest : List Expr} {pos : Pos} {fa fb fe : WE} {ft fu : WT} {fl : WA} {fn : WN}
noncomputable def RE : D → D → (D → Prop) → Prop := fun x y P => dep x ≤ 60 ∧ P (.bl (peq x y))
noncomputable def RNe : D → D → (D → Prop) → Prop := fun x y P => dep x ≤ 60 ∧ P (.bl (!peq x y))
noncomputable def rEq4 (K : PySem.W.Frag) : R2 := fun x y H Q => ∃ d e, Rp K H d x ∧ Rp K H e y ∧ dep d ≤ 60 ∧ Q (.bl (peq d e)) H
noncomputable def rNe4 (K : PySem.W.Frag) : R2 := fun x y H Q => ∃ d e, Rp K H d x ∧ Rp K H e y ∧ dep d ≤ 60 ∧ Q (.bl (!peq d e)) H
private theorem op_eq4 (hu : X.A.units + 60 < cLine) : OpR X (compareOp .Eq) (rEq4 X.K) := by
  intro pins s σ H x y u v Q I rx ry h
  obtain ⟨d, e, hd, he, hn, q⟩ := h
  exact (deep4 I X.A d e x y u v hn hu hd he rx ry).2.1 _ _ _ _ ⟨.bl (peq d e), H, I, rfl, q⟩
private theorem op_ne4 (hu : X.A.units + 60 < cLine) : OpR X (compareOp .NotEq) (rNe4 X.K) := by
  intro pins s σ H x y u v Q I rx ry h
  obtain ⟨d, e, hd, he, hn, q⟩ := h
  exact (deep4 I X.A d e x y u v hn hu hd he rx ry).2.2 _ _ _ _ ⟨.bl (!peq d e), H, I, rfl, q⟩
private theorem w_eq : OpW X (rEq4 X.K) RE := fun x y v u F H Q P sm rx ry h k => ⟨x, y, rx.same sm, ry.same sm, h.1, k _ _ F H .rf (by rw [Rp]) h.2⟩
private theorem w_ne : OpW X (rNe4 X.K) RNe := fun x y v u F H Q P sm rx ry h k => ⟨x, y, rx.same sm, ry.same sm, h.1, k _ _ F H .rf (by rw [Rp]) h.2⟩
private theorem j_eq {k : Nat} (hr : Room k X.A) (ha : JE X a fa) (hb : JE X b fb) : JE X (.Compare a [.Eq] [b] pos) (wOp RE fa fb) := j_cmp (op_eq4 (Room.u60 hr)) w_eq ha hb (nomark _)
noncomputable def RNeg : D → (D → Prop) → Prop := fun x P => match x with
  | .int i => P (.int (-i))
  | _ => False
private theorem j_neg (ha : JE X a fa) : JE X (.UnaryOp .USub a pos) (wUn RNeg fa) := j_un un_neg (fun x v F H Q P sm rx h k => by
  unfold RNeg at h
  split at h
  · rw [Rp] at rx
    exact ⟨_, rx, k _ _ F H .rf (by rw [Rp]) h⟩
  · exact h.elim) ha
noncomputable def wB (f : WE) : WT := fun ρ M P => f ρ M fun d ρ1 M1 => match d with
  | .bl k => P k ρ1 M1
  | _ => False
private theorem of_B {fa : WE} : ∀ σ H Q, lfT X.K (wB fa) σ H Q → tB (lf X.K fa) σ H Q := fun σ H Q hh => ex5 hh fun Z F ρ M P ag hf k => ⟨Z, F, ρ, M, _, ag, hf, fun v H' F' d ρ' M' s' ag' r h => by
  split at h
  · rw [Rp] at r
    exact ⟨_, r, k _ H' F' ρ' M' s' ag' h⟩
  · exact h.elim⟩
private theorem jt (ha : JE X a fa) (he : ∀ whole, isTrue a X.env whole = (do let v ← whole; standAt a.pos; holding [v] (truthy v)) := by intro _; rfl) : JT X a (wB fa) := ⟨imT (pt_val ha.h he) of_B⟩
private theorem jt_cmp {op : CmpOp} {r : R2} {R : D → D → (D → Prop) → Prop} (o : OpR X (compareOp op) r) (w : OpW X r R) (ha : JE X a fa) (hb : JE X b fb) (hm : behindInMarks op b = false) : JT X (.Compare a [op] [b] pos) (wB (wOp R fa fb)) :=
  ⟨imT (pt_cmpR o ha.h hb.h hm) fun σ H Q h => of_op w σ H _ (by
    obtain ⟨Z, F, ρ, M, P, ag, hf, k⟩ := h
    refine ⟨Z, F, ρ, M, _, ag, hf, fun v H' F' d ρ' M' s' ag' r h => ?_⟩
    split at h
    · rw [Rp] at r
      exact ⟨_, r, k _ H' F' ρ' M' s' ag' h⟩
    · exact h.elim)⟩
private theorem jt_lt (ha : JE X a fa) (hb : JE X b fb) : JT X (.Compare a [.Lt] [b] pos) (wB (wOp (RI0 fun i j => .bl (decide (i < j))) fa fb)) := jt_cmp op_lt (w_I0 fun _ _ => rfl) ha hb (nomark _)
private theorem jt_gt (ha : JE X a fa) (hb : JE X b fb) : JT X (.Compare a [.Gt] [b] pos) (wB (wOp (RI0 fun i j => .bl (decide (j < i))) fa fb)) := jt_cmp op_gt (w_I0 fun _ _ => rfl) ha hb (nomark _)
private theorem jt_eq {k : Nat} (hr : Room k X.A) (ha : JE X a fa) (hb : JE X b fb) : JT X (.Compare a [.Eq] [b] pos) (wB (wOp RE fa fb)) := jt_cmp (op_eq4 (Room.u60 hr)) w_eq ha hb (nomark _)
private theorem jt_ne {k : Nat} (hr : Room k X.A) (ha : JE X a fa) (hb : JE X b fb) : JT X (.Compare a [.NotEq] [b] pos) (wB (wOp RNe fa fb)) := jt_cmp (op_ne4 (Room.u60 hr)) w_ne ha hb (nomark _)
noncomputable def wNot (f : WT) : WT := fun ρ M P => f ρ M fun b ρ1 M1 => P (!b) ρ1 M1
noncomputable def wAnd (f g : WT) : WT := fun ρ M P => f ρ M fun b ρ1 M1 => if b = true then g ρ1 M1 P else P false ρ1 M1
private theorem jt_not (ha : JT X a ft) : JT X (.UnaryOp .Not a pos) (wNot ft) := ⟨imT (pt_not ha.h) fun σ H Q hh => ex5 hh fun Z F ρ M P ag hf k => ⟨Z, F, ρ, M, _, ag, hf, fun b H' F' ρ' M' s' ag' h => k _ H' F' ρ' M' s' ag' h⟩⟩
private theorem jw_and1 (ha : JT X a ft) : JW X (.BoolOp .And [a] pos) ft := ⟨pw_and1 ha.h⟩
private theorem jw_and (ha : JT X a ft) (hb : JW X (.BoolOp .And (b :: rest) pos) fu) : JW X (.BoolOp .And (a :: b :: rest) pos) (wAnd ft fu) := ⟨imW (pw_and ha.h hb.h) fun σ H Q hh => ex5 hh fun Z F ρ M P ag hf k => ⟨Z, F, ρ, M, _, ag, hf, fun b H' F' ρ' M' s' ag' h => by
  cases b with
  | true => rw [if_pos rfl] at h ⊢; exact ⟨Z, F', ρ', M', P, ag', h, fun b H2 F2 ρ2 M2 s2 => k b H2 F2 ρ2 M2 (s'.trans s2)⟩
  | false => rw [if_neg Bool.false_ne_true] at h ⊢; exact k _ H' F' ρ' M' s' ag' h⟩⟩
private theorem JW.jt (h : JW X e ft) : JT X e ft := ⟨h.h.pt⟩
noncomputable def wNotV (f : WE) : WE := fun ρ M P => f ρ M fun d ρ1 M1 => match d with
  | .bl k => P (.bl (!k)) ρ1 M1
  | _ => False
noncomputable def wAndV (f g : WE) : WE := fun ρ M P => f ρ M fun d ρ1 M1 => match d with
  | .bl k => if k = true then g ρ1 M1 P else P (.bl false) ρ1 M1
  | _ => False
private theorem j_not (ha : JE X a fa) : JE X (.UnaryOp .Not a pos) (wNotV fa) := ⟨imE (pe_not ha.h) fun σ H Q hh => ex5 hh fun Z F ρ M P ag hf k => ⟨Z, F, ρ, M, _, ag, hf, fun v H' F' d ρ' M' s' ag' r h => by
  split at h
  · rw [Rp] at r
    exact ⟨_, r, k _ H' F' _ ρ' M' s' ag' (by rw [Rp]) h⟩
  · exact h.elim⟩⟩
private theorem j_one {op : BoolOp} (ha : JE X a fa) : JE X (.BoolOp op [a] pos) fa := ⟨pe_one ha.h⟩
private theorem j_and (ha : JE X a fa) (hb : JE X (.BoolOp .And (b :: rest) pos) fb) : JE X (.BoolOp .And (a :: b :: rest) pos) (wAndV fa fb) := ⟨imE (pe_and ha.h hb.h) fun σ H Q hh => ex5 hh fun Z F ρ M P ag hf k => ⟨Z, F, ρ, M, _, ag, hf, fun v H' F' d ρ' M' s' ag' r h => by
  split at h
  · rename_i kk
    rw [Rp] at r
    refine ⟨_, r, ?_⟩
    cases kk with
    | true => rw [if_pos rfl] at h ⊢; exact ⟨Z, F', ρ', M', P, ag', h, fun v H2 F2 d ρ2 M2 s2 => k v H2 F2 d ρ2 M2 (s'.trans s2)⟩
    | false => rw [if_neg Bool.false_ne_true] at h ⊢; exact k _ H' F' _ ρ' M' s' ag' (by rw [Rp]) h
  · exact h.elim⟩⟩
end
end L4
set_option Elab.async false
set_option linter.all false
set_option maxRecDepth 100000
namespace L4
open PySem PySem.Spec PyProof.Rows L2 L3
section
variable {X : Cx} {a b c e : Expr} {es rest : List Expr} {pos : Pos} {fa fb fe : WE} {ft fu : WT} {fl : WA} {fn : WN}
noncomputable def wNil : WA := fun ρ M P => P [] ρ M
noncomputable def wCons (f : WE) (g : WA) : WA := fun ρ M P => f ρ M fun d ρ1 M1 => g ρ1 M1 fun ds ρ2 M2 => P (d :: ds) ρ2 M2
private theorem ja_nil : JA X [] wNil := ⟨imA pa_nil fun σ H Q hh => ex5 hh fun Z F ρ M P ag hf k => k [] H F [] ρ M (Same.refl _) ag .nil hf⟩
private theorem ja_cons (ha : JE X e fe) (hr : JA X es fl) (hs : starEach (e :: es) X.env = (false, eval e X.env) :: starEach es X.env := by rfl) : JA X (e :: es) (wCons fe fl) := ⟨imA (pa_cons ha.h hr.h hs) fun σ H Q hh => ex5 hh fun Z F ρ M P ag hf k =>
  ⟨Z, F, ρ, M, _, ag, hf, fun v H1 F1 d1 ρ1 M1 s1 ag1 r1 h1 => ⟨Z, F1, ρ1, M1, _, ag1, h1, fun vs H2 F2 ds ρ2 M2 s2 ag2 r2 h2 => k _ H2 F2 _ ρ2 M2 (s1.trans s2) ag2 (.cons (r1.same s2) r2) h2⟩⟩⟩
noncomputable def wTup (f : WA) : WE := fun ρ M P => f ρ M fun ds ρ1 M1 => ds.length ≤ sizeLine ∧ P (.tup ds) ρ1 M1
private theorem j_tup {x1} (h : JA X es fl) : JE X (.Tuple es x1 pos) (wTup fl) := ⟨imE (pe_tup h.h) fun σ H Q hh => ex5 hh fun Z F ρ M P ag hf k => ⟨Z, F, ρ, M, _, ag, hf, fun vs H1 F1 ds ρ1 M1 s1 ag1 r1 h1 => by
  refine ⟨by rw [← r1.length]; exact h1.1, fun p hp => ?_⟩
  have s2 : Same F1 (upd F1 p (.tup vs)) := Same.new (sub_none ag1.m.sm hp)
  exact k _ _ (upd F1 p (.tup vs)) _ ρ1 M1 (s1.trans s2) (ag1.new hp) (by rw [Rp]; exact ⟨p, vs, rfl, SqT.of upd_same, r1.same s2⟩) h1.2⟩⟩
private theorem newN {Z F H : Hp} {M : Mm} {ρ : Rho} {σ : L2.St} {p : Addr} {vs : List V} {ds : List D} {K : PySem.W.Frag} (ag : Ag K Z F M H ρ σ) (hp : H p = none) (r : Rps K F ds vs) :
    Ag K Z F M (upd H p (.lst vs)) ρ σ ∧ upd H p (.lst vs) p = some (.lst vs) ∧ F p = none ∧ M p = none ∧ Z p = none ∧ (∀ (j : Nat) (es : List D), ρ[j]? = some (.ow es) → σ[j]? ≠ some (some (.ref p))) ∧ Rps K F ds vs := by
  refine ⟨ag.newO hp, upd_same, sub_none ag.m.sm hp, ?_, ?_, fun j es h z => ?_, r⟩
  · cases q : M p with
    | none => rfl
    | some o =>
      obtain ⟨_, k⟩ := ag.m.mo p o q
      obtain ⟨u, hu⟩ := k.there
      rw [hp] at hu; cases hu
  · cases q : Z p with
    | none => rfl
    | some o => have := (ag.m.zz p o q).1; rw [hp] at this; cases this
  · obtain ⟨q, ws, h1, h2, _⟩ := ag.en j _ h
    rw [z] at h1
    cases h1
    rw [hp] at h2; cases h2
noncomputable def wLst (f : WA) : WN := fun ρ M P => f ρ M fun ds ρ1 M1 => ds.length ≤ sizeLine ∧ P ds ρ1 M1
private theorem jn_lst (h : JA X es fl) : JN X (.List es pos) (wLst fl) := ⟨imE (pe_lst h.h) fun σ H Q hh => ex5 hh fun Z F ρ M P ag hf k => ⟨Z, F, ρ, M, _, ag, hf, fun vs H1 F1 ds ρ1 M1 s1 ag1 r1 h1 => by
  refine ⟨by rw [← r1.length]; exact h1.1, fun p hp => ?_⟩
  obtain ⟨n1, n2, n3, n4, nz, n5, n6⟩ := newN ag1 hp r1
  exact k p vs _ F1 ds ρ1 M1 s1 n1 n2 n3 n4 nz n5 n6 h1.2⟩⟩
noncomputable def wFz (f : WN) : WE := fun ρ M P => f ρ M fun ds ρ1 M1 => P (.lst ds) ρ1 M1
private theorem fz_new {Z F H : Hp} {M : Mm} {ρ : Rho} {σ : L2.St} {p : Addr} {vs : List V} {K : PySem.W.Frag} (ag : Ag K Z F M H ρ σ) (n2 : H p = some (.lst vs)) (n3 : F p = none) (n4 : M p = none) (nz : Z p = none) (n5 : ∀ (j : Nat) (es : List D), ρ[j]? = some (.ow es) → σ[j]? ≠ some (some (.ref p))) :
    Ag K Z (upd F p (.lst vs)) M H ρ σ := by
  have s1 : Same F (upd F p (.lst vs)) := Same.new n3
  refine ⟨⟨fun b u e => ?_, fun q o e => ?_, fun q o e => ?_⟩, ag.len, fun i e h => ?_, ag.di⟩
  · by_cases hb : b = p
    · subst hb; rw [upd_same] at e; cases e; exact n2
    · rw [upd_ne hb] at e; exact ag.m.sm b u e
  · obtain ⟨z1, z2, z3⟩ := ag.m.zz q o e
    have : q ≠ p := fun z => by rw [z, nz] at e; cases e
    exact ⟨z1, by rw [upd_ne this]; exact z2, z3⟩
  · obtain ⟨z1, z2⟩ := ag.m.mo q o e
    have : q ≠ p := fun z => by rw [z, n4] at e; cases e
    exact ⟨by rw [upd_ne this]; exact z1, z2.same s1 rfl⟩
  · have := ag.en i e h
    cases e with
    | un => trivial
    | sh d => obtain ⟨v, h1, h2⟩ := this; exact ⟨v, h1, Rp.same s1 h2⟩
    | rf p => exact this
    | ut u => obtain ⟨v, h1, h2⟩ := this; exact ⟨v, h1, RU.same s1 h2⟩
    | ow es =>
      obtain ⟨q, ws, h1, h2, h3, h4, h6, h5⟩ := this
      have hne : q ≠ p := fun z => by
        subst z
        have hj' : σ[i]? = some (some (.ref q)) := by
          cases y : σ[i]? with
          | none => rw [y] at h1; cases h1
          | some o => rw [y] at h1; simp at h1; rw [h1]
        exact n5 i es h hj'
      exact ⟨q, ws, h1, h2, by rw [upd_ne hne]; exact h3, h4, h6, Rps.same s1 h5⟩
private theorem j_fz (h : JN X e fn) : JE X e (wFz fn) := ⟨imE h.h fun σ H Q hh => ex5 hh fun Z F ρ M P ag hf k => ⟨Z, F, ρ, M, _, ag, hf, fun p vs H1 F1 ds ρ1 M1 s1 ag1 n2 n3 n4 nz n5 r1 h1 => by
  have s2 : Same F1 (upd F1 p (.lst vs)) := Same.new n3
  exact k _ H1 (upd F1 p (.lst vs)) _ ρ1 M1 (s1.trans s2) (fz_new ag1 n2 n3 n4 nz n5) (by rw [Rp]; exact ⟨p, vs, rfl, .inl upd_same, r1.same s2⟩) h1⟩⟩
private theorem at_rps {K : PySem.W.Frag} {F : Hp} {ds : List D} {vs : List V} {i : Int} {d : D} (r : Rps K F ds vs) (h : atI ds i = some d) : ∃ v, atI vs i = some v ∧ Rp K F d v := by
  unfold atI at h ⊢
  rw [r.length] at h
  cases e : ixN vs.length i with
  | none => rw [e] at h; cases h
  | some j =>
    rw [e] at h
    exact r.get h
noncomputable def RIx : D → D → (D → Prop) → Prop := fun x y P => match x, y with
  | .tup ds, .int i => (match atI ds i with
    | some d => P d
    | none => False)
  | .lst ds, .int i => (match atI ds i with
    | some d => P d
    | none => False)
  | _, _ => False
private theorem w_ix : OpW X (rIx X.K) RIx := by
  intro x y v u F H Q P sm rx ry h k
  unfold RIx at h
  split at h
  · rename_i ds i
    rw [Rp] at rx
    rw [Rp] at ry
    obtain ⟨p, vs, rfl, h1, h2⟩ := rx
    split at h
    · rename_i d hd
      obtain ⟨w, h3, h4⟩ := at_rps h2 hd
      exact .inr (.inl ⟨p, vs, i, w, rfl, ry, sqT_same sm h1, h3, k d w F H .rf h4 h⟩)
    · exact h.elim
  · rename_i ds i
    rw [Rp] at rx
    rw [Rp] at ry
    obtain ⟨p, vs, rfl, h1, h2⟩ := rx
    split at h
    · rename_i d hd
      obtain ⟨w, h3, h4⟩ := at_rps h2 hd
      exact .inl ⟨p, vs, i, w, rfl, ry, .inl (rd_same sm h1), h3, k d w F H .rf h4 h⟩
    · exact h.elim
  · exact h.elim
private theorem j_at (ha : JE X a fa) (hb : JE X b fb) (hs : PlainIx b := by intro _ _; rfl) : JE X (.Subscript a b pos) (wOp RIx fa fb) := j_ix ix_seq w_ix ha hb hs
section
variable {x : Str} {p : Pos} {id T : String} {r : List V → Hp → VK → Prop} {R : List D → (D → Prop) → Prop}
private theorem j_callB (hc : CallR X (.builtin id) r) (w : CaW X r R) (hg : Gl X x) (hm : X.mg x = none) (hv : bootBuiltins x = some (.builtin id)) (ha : JA X (e :: es) fl) (hn : x ≠ "__name__" := by decide) (hdb : (x == ("__debug__" : Str)) = false := by decide)
    (he : starEach (e :: es) X.env = (false, eval e X.env) :: starEach es X.env := by rfl) (hpl : (backTo pos (starEach es X.env)).any (·.1) = false := by rfl) : JE X (.Call (.Name x p) (e :: es) [] pos) (wCall R fl) := ⟨imE (pe_callB hc hg hm hv ha.h hn hdb he hpl) (of_call w)⟩
private theorem j_callTy (hc : CallR X (.type T) r) (w : CaW X r R) (hg : Gl X x) (hm : X.mg x = none) (hv : bootBuiltins x = some (.type T)) (ha : JA X (e :: es) fl) (hn : x ≠ "__name__" := by decide) (hdb : (x == ("__debug__" : Str)) = false := by decide)
    (he : starEach (e :: es) X.env = (false, eval e X.env) :: starEach es X.env := by rfl) (hpl : (backTo pos (starEach es X.env)).any (·.1) = false := by rfl) : JE X (.Call (.Name x p) (e :: es) [] pos) (wCall R fl) := ⟨imE (pe_callTy hc hg hm hv ha.h hn hdb he hpl) (of_call w)⟩
end
noncomputable def RLen : List D → (D → Prop) → Prop := fun xs P => match xs with
  | [.lst ds] => P (.int ds.length)
  | [.tup ds] => P (.int ds.length)
  | _ => False
private theorem rps1 {K : PySem.W.Frag} {F : Hp} {d : D} {vs : List V} (h : Rps K F [d] vs) : ∃ v, vs = [v] ∧ Rp K F d v := by
  rw [Rps] at h
  obtain ⟨v, r, rfl, h1, h2⟩ := h
  rw [Rps] at h2
  subst h2
  exact ⟨v, rfl, h1⟩
private theorem rps2 {K : PySem.W.Frag} {F : Hp} {d e : D} {vs : List V} (h : Rps K F [d, e] vs) : ∃ v u, vs = [v, u] ∧ Rp K F d v ∧ Rp K F e u := by
  rw [Rps] at h
  obtain ⟨v, r, rfl, h1, h2⟩ := h
  obtain ⟨u, rfl, h3⟩ := rps1 h2
  exact ⟨v, u, rfl, h1, h3⟩
private theorem w_len : CaW X (fun xs H Q => ∃ p ys, xs = [.ref p] ∧ (SqL X.K H p ys ∨ SqT X.K H p ys) ∧ Q (.int ys.length) H) RLen := by
  intro xs vs F H Q P sm rs h k
  unfold RLen at h
  split at h
  · rename_i ds
    obtain ⟨v, rfl, r⟩ := rps1 rs
    rw [Rp] at r
    obtain ⟨p, ws, rfl, h1, h2⟩ := r
    refine ⟨p, ws, rfl, .inl (.inl (rd_same sm h1)), k _ _ F H .rf ?_ h⟩
    rw [Rp, h2.length]
  · rename_i ds
    obtain ⟨v, rfl, r⟩ := rps1 rs
    rw [Rp] at r
    obtain ⟨p, ws, rfl, h1, h2⟩ := r
    refine ⟨p, ws, rfl, .inr (sqT_same sm h1), k _ _ F H .rf ?_ h⟩
    rw [Rp, h2.length]
  · exact h.elim
noncomputable def RAbs : List D → (D → Prop) → Prop := fun xs P => match xs with
  | [.int i] => P (.int (if i < 0 then -i else i))
  | _ => False
private theorem w_abs : CaW X (fun xs H Q => ∃ i, xs = [.int i] ∧ Q (.int (if i < 0 then -i else i)) H) RAbs := by
  intro xs vs F H Q P sm rs h k
  unfold RAbs at h
  split at h
  · obtain ⟨v, rfl, r⟩ := rps1 rs
    rw [Rp] at r
    subst r
    exact ⟨_, rfl, k _ _ F H .rf (by rw [Rp]) h⟩
  · exact h.elim
noncomputable def RInt : List D → (D → Prop) → Prop := fun xs P => match xs with
  | [.int i] => P (.int i)
  | [.bl i] => P (.int (if i then 1 else 0))
  | _ => False
private theorem w_int : CaW X (fun xs H Q => (∃ i, xs = [.int i] ∧ Q (.int i) H) ∨ ∃ k, xs = [.bl k] ∧ Q (.int (if k then 1 else 0)) H) RInt := by
  intro xs vs F H Q P sm rs h k
  unfold RInt at h
  split at h
  · obtain ⟨v, rfl, r⟩ := rps1 rs
    rw [Rp] at r
    subst r
    exact .inl ⟨_, rfl, k _ _ F H .rf (by rw [Rp]) h⟩
  · obtain ⟨v, rfl, r⟩ := rps1 rs
    rw [Rp] at r
    subst r
    exact .inr ⟨_, rfl, k _ _ F H .rf (by rw [Rp]) h⟩
  · exact h.elim
end
end L4
set_option Elab.async false
set_option linter.all false
set_option maxRecDepth 100000
namespace L4
open PySem PySem.Spec PyProof.Rows L2 L3
noncomputable def Zof (F : Hp) (M : Mm) (H : Hp) : Hp := fun p => if (F p).isNone = true ∧ (M p).isNone = true then H p else none
private theorem zof_some {F H : Hp} {M : Mm} {p : Addr} {o : HO} (h : Zof F M H p = some o) : H p = some o ∧ F p = none ∧ M p = none := by
  unfold Zof at h
  split at h
  · rename_i c
    exact ⟨h, Option.isNone_iff_eq_none.mp c.1, Option.isNone_iff_eq_none.mp c.2⟩
  · cases h
private theorem zof_of {F H : Hp} {M : Mm} {p : Addr} {o : HO} (h1 : H p = some o) (h2 : F p = none) (h3 : M p = none) : Zof F M H p = some o := by
  unfold Zof
  rw [if_pos ⟨by rw [h2]; rfl, by rw [h3]; rfl⟩]
  exact h1
section
variable {K : PySem.W.Frag} {Z F F' H H' : Hp} {M M' : Mm} {ρ : Rho} {σ : L2.St}
private theorem AgM.inner (a : AgM K Z F M H) : AgM K (Zof F M H) F M H := ⟨a.sm, fun _ _ h => zof_some h, a.mo⟩
private theorem AgM.back (a : AgM K Z F M H) (b : AgM K (Zof F M H) F' M' H') : AgM K Z F' M' H' := ⟨b.sm, fun p o h => by
  obtain ⟨z1, z2, z3⟩ := a.zz p o h
  exact b.zz p o (zof_of z1 z2 z3), b.mo⟩
private theorem Ag.back (a : Ag K Z F M H ρ σ) (s : Same F F') (b : AgM K (Zof F M H) F' M' H') : Ag K Z F' M' H' ρ σ := by
  refine ⟨a.m.back b, a.len, fun i e h => ?_, a.di⟩
  have := a.en i e h
  cases e with
  | un => trivial
  | sh d => obtain ⟨v, h1, h2⟩ := this; exact ⟨v, h1, Rp.same s h2⟩
  | rf p => exact this
  | ut u => obtain ⟨v, h1, h2⟩ := this; exact ⟨v, h1, RU.same s h2⟩
  | ow ds =>
    obtain ⟨p, vs, h1, h2, h3, h4, h5, h6⟩ := this
    obtain ⟨z1, z2, z3⟩ := b.zz p _ (zof_of h2 h3 h4)
    exact ⟨p, vs, h1, z1, z2, z3, h5, Rps.same s h6⟩
end
noncomputable abbrev WF := List D → Mm → (D → Mm → Prop) → Prop
noncomputable def spW (K : PySem.W.Frag) (g : WF) : Sp := fun vs H Q _ => ∃ Z F M ds P, AgM K Z F M H ∧ Rps K F ds vs ∧ g ds M P ∧ ∀ v H' F' d M', Same F F' → AgM K Z F' M' H' → Rp K F' d v → P d M' → Q v H'
noncomputable def wFn (g : WF) (fl : WA) : WE := fun ρ M P => fl ρ M fun ds ρ1 M1 => g ds M1 fun d M2 => P d ρ1 M2
section
variable {X : Cx} {a b c e : Expr} {es rest : List Expr} {pos p : Pos} {fa fb fe : WE} {ft fu : WT} {fl : WA} {fn : WN} {st : Stmt} {sts : List Stmt} {fs gs : WS} {x : Str}
private theorem j_h {g : WF} {k : Nat} {ps : List Str} (F : Has X.prog X.w X.K X.mg X.base CX0 k x ps (spW X.K g)) (hr : Room k X.A) (hg : Gl X x) (ha : JA X (e :: es) fl) (hdb : (x == ("__debug__" : Str)) = false := by decide) (he : starEach (e :: es) X.env = (false, eval e X.env) :: starEach es X.env := by rfl) (hpl : (backTo pos (starEach es X.env)).any (·.1) = false := by rfl) :
    JE X (.Call (.Name x p) (e :: es) [] pos) (wFn g fl) := ⟨imE (pe_h F hr hg pass0 ha.h hdb he hpl) fun σ H Q hh => ex5 hh fun Z F ρ M P ag hf k => ⟨Z, F, ρ, M, _, ag, hf, fun vs H1 F1 ds ρ1 M1 s1 ag1 r1 h1 => by
  show spW X.K g (vs ++ []) H1 Q E0
  rw [List.append_nil]
  exact ⟨_, F1, M1, ds, _, ag1.m.inner, r1, h1, fun v H' F' d M' s' m' r h => k v H' F' d ρ1 M' (s1.trans s') (ag1.back s' m') r h⟩⟩⟩
private theorem EndsOk.mono {K : PySem.W.Frag} {Z F F' : Hp} {E : WEnds} {D' : Ends} (h : EndsOk K Z F E D') (s : Same F F') : EndsOk K Z F' E D' :=
  ⟨fun σ' H' G ρ' M' t => h.nx σ' H' G ρ' M' (s.trans t), fun σ' H' G ρ' M' t => h.bk σ' H' G ρ' M' (s.trans t), fun σ' H' G ρ' M' t => h.ct σ' H' G ρ' M' (s.trans t), fun v H' G d M' t => h.rt v H' G d M' (s.trans t)⟩
noncomputable def wNext : WS := fun E ρ M => E.nx ρ M
noncomputable def wSeq (f g : WS) : WS := fun E ρ M => f ⟨fun ρ1 M1 => g E ρ1 M1, E.rt, E.bk, E.ct⟩ ρ M
private theorem jss_nil : JSs X [] wNext := ⟨imSs pss_nil fun D' σ H hh => ex5 hh fun Z F ρ M E ag hf k => k.nx σ H F ρ M (Same.refl _) ag hf⟩
private theorem jss_one (h : JS X st fs) : JSs X [st] fs := ⟨pss_one h.h⟩
private theorem jss_cons (h : JS X st fs) (h2 : JSs X sts gs) : JSs X (st :: sts) (wSeq fs gs) := ⟨imSs (pss_cons h.h h2.h) fun D' σ H hh => ex5 hh fun Z F ρ M E ag hf k =>
  ⟨Z, F, ρ, M, _, ag, hf, ⟨fun σ' H' F' ρ' M' s' ag' h => ⟨Z, F', ρ', M', E, ag', h, k.mono s'⟩, k.bk, k.ct, k.rt⟩⟩⟩
noncomputable def wNever : WS := fun _ _ _ => False
private theorem js_never : JS X st wNever := ⟨imS ps_never fun D' σ H hh => ex5 hh fun Z F ρ M E ag hf k => hf⟩
noncomputable def wRet (f : WE) : WS := fun E ρ M => f ρ M fun d _ M1 => E.rt (.d d) M1
private theorem js_ret (h : JE X e fe) : JS X (.Return (some e) pos) (wRet fe) := ⟨imS (ps_ret h.h) fun D' σ H hh => ex5 hh fun Z F ρ M E ag hf k => ⟨Z, F, ρ, M, _, ag, hf, fun v H' F' d ρ' M' s' ag' r h => k.rt v H' F' (.d d) M' s' ag'.m (by rw [RU]; exact r) h⟩⟩
noncomputable def wIf (c : WT) (f g : WS) : WS := fun E ρ M => c ρ M fun b ρ1 M1 => if b = true then f E ρ1 M1 else g E ρ1 M1
private theorem js_if {sa sb : List Stmt} (hc : JT X c ft) (ha : JSs X sa fs) (hb : JSs X sb gs) : JS X (.If c sa sb pos) (wIf ft fs gs) := ⟨imS (ps_if hc.h ha.h hb.h) fun D' σ H hh => ex5 hh fun Z F ρ M E ag hf k => ⟨Z, F, ρ, M, _, ag, hf, fun b H' F' ρ' M' s' ag' h => by
  cases b with
  | true => rw [if_pos rfl] at h ⊢; exact ⟨Z, F', ρ', M', E, ag', h, k.mono s'⟩
  | false => rw [if_neg Bool.false_ne_true] at h ⊢; exact ⟨Z, F', ρ', M', E, ag', h, k.mono s'⟩⟩⟩
section
variable {i : Nat} {pos' : Pos}
noncomputable def wSet (i : Nat) (f : WE) : WS := fun E ρ M => f ρ M fun d ρ1 M1 => E.nx (ρ1.set i (.sh d)) M1
private theorem js_set (hN : X.N.Nodup) (hi : X.N[i]? = some x) (hx : Loc X.env.scope x) (he : JE X e fe) (hs : swapsWith e (some (.Name x pos')) pos.line X.env = pure false := by rfl) (hf : X.fn x = true ∨ X.env.scope.names.lookup x = some .local := by first | exact .inl rfl | exact .inr rfl | assumption) :
    JS X (.Assign [.Name x pos'] e pos) (wSet i fe) := ⟨imS (ps_set hN hi hx he.h hs hf) fun D' σ H hh => ex5 hh fun Z F ρ M E ag hf k => ⟨Z, F, ρ, M, _, ag, hf, fun v H' F' d ρ' M' s' ag' r h => k.nx _ H' F' _ M' s' (ag'.set r) h⟩⟩
noncomputable def wSetN (i : Nat) (f : WN) : WS := fun E ρ M => f ρ M fun ds ρ1 M1 => E.nx (ρ1.set i (.ow ds)) M1
private theorem js_setN (hN : X.N.Nodup) (hi : X.N[i]? = some x) (hx : Loc X.env.scope x) (he : JN X e fn) (hs : swapsWith e (some (.Name x pos')) pos.line X.env = pure false := by rfl) (hf : X.fn x = true ∨ X.env.scope.names.lookup x = some .local := by first | exact .inl rfl | exact .inr rfl | assumption) :
    JS X (.Assign [.Name x pos'] e pos) (wSetN i fn) := ⟨imS (ps_set hN hi hx he.h hs hf) fun D' σ H hh => ex5 hh fun Z F ρ M E ag hf k => ⟨Z, F, ρ, M, _, ag, hf, fun p vs H' F' ds ρ' M' s' ag' n2 n3 n4 nz n5 r h => k.nx _ H' F' _ M' s' (ag'.setO n2 n3 n4 nz r n5) h⟩⟩
end
private theorem ow_get {K : PySem.W.Frag} {Z F H : Hp} {M : Mm} {ρ : Rho} {σ : L2.St} {i : Nat} {ds : List D} (ag : Ag K Z F M H ρ σ) (h : ρ[i]? = some (.ow ds)) : ∃ p vs, σ[i]? = some (some (.ref p)) ∧ H p = some (.lst vs) ∧ F p = none ∧ M p = none ∧ Z p = none ∧ Rps K F ds vs := by
  obtain ⟨p, vs, h1, h2⟩ := ag.en i _ h
  refine ⟨p, vs, ?_, h2⟩
  cases y : σ[i]? with
  | none => rw [y] at h1; cases h1
  | some o => rw [y] at h1; simp at h1; rw [h1]
private theorem Ag.chg {K : PySem.W.Frag} {Z F H : Hp} {M : Mm} {ρ : Rho} {σ : L2.St} {i : Nat} {ds es : List D} {p : Addr} {vs ws : List V} (ag : Ag K Z F M H ρ σ) (h : ρ[i]? = some (.ow ds)) (hs : σ[i]? = some (some (.ref p))) (h2 : H p = some (.lst vs)) (h3 : F p = none) (h4 : M p = none) (h5 : Z p = none) (r : Rps K F es ws) :
    Ag K Z F M (upd H p (.lst ws)) (ρ.set i (.ow es)) σ := by
  have hi : i < ρ.length := (List.getElem?_eq_some_iff.mp h).1
  have ne : ∀ {q : Addr} {u : HO}, F q = some u → q ≠ p := fun e z => by rw [z, h3] at e; cases e
  refine ⟨⟨fun q u e => by rw [upd_ne (ne e)]; exact ag.m.sm q u e, fun q o e => ?_, fun q o e => ?_⟩, by rw [List.length_set]; exact ag.len, fun j e q => ?_, fun j k ds' es' q n q1 q2 q3 => ?_⟩
  · obtain ⟨z1, z2, z3⟩ := ag.m.zz q o e
    have : q ≠ p := fun z => by rw [z, h5] at e; cases e
    exact ⟨by rw [upd_ne this]; exact z1, z2, z3⟩
  · obtain ⟨z1, z2⟩ := ag.m.mo q o e
    have : q ≠ p := fun z => by rw [z, h4] at e; cases e
    exact ⟨z1, z2.same (Same.refl _) (upd_ne this)⟩
  · by_cases hj : j = i
    · subst hj
      rw [List.getElem?_set_self hi] at q
      cases q
      exact ⟨p, ws, by rw [hs]; rfl, upd_same, h3, h4, h5, r⟩
    · rw [List.getElem?_set_ne (Ne.symm hj)] at q
      have := ag.en j e q
      cases e with
      | un => trivial
      | sh d => exact this
      | rf p => exact this
      | ut u => exact this
      | ow ds' =>
        obtain ⟨q', us, g1, g2, g3⟩ := this
        have hne : q' ≠ p := fun z => by
          subst z
          have hj' : σ[j]? = some (some (.ref q')) := by
            cases y : σ[j]? with
            | none => rw [y] at g1; cases g1
            | some o => rw [y] at g1; simp at g1; rw [g1]
          exact ag.di i j ds ds' q' (Ne.symm hj) h q hs hj'
        exact ⟨q', us, g1, by rw [upd_ne hne]; exact g2, g3⟩
  · have key : ∀ {j : Nat} {ds' : List D}, (ρ.set i (.ow es))[j]? = some (.ow ds') → ∃ ds'', ρ[j]? = some (.ow ds'') := fun {j ds'} q => by
      by_cases hj : j = i
      · subst hj; exact ⟨ds, h⟩
      · rw [List.getElem?_set_ne (Ne.symm hj)] at q; exact ⟨ds', q⟩
    obtain ⟨d1, e1⟩ := key q1
    obtain ⟨d2, e2⟩ := key q2
    exact ag.di j k d1 d2 q n e1 e2 q3
noncomputable def isOw : Option Ent → Prop
  | some (.ow _) => True
  | _ => False
private theorem isOw_of {o : Option Ent} (h : isOw o) : ∃ ds, o = some (.ow ds) := by
  unfold isOw at h
  split at h
  · exact ⟨_, rfl⟩
  · exact h.elim
noncomputable def wApp (i : Nat) (f : WE) : WS := fun E ρ M => isOw ρ[i]? ∧ f ρ M fun d ρ1 M1 => match ρ1[i]? with
  | some (.ow ds) => ds.length < sizeLine ∧ E.nx (ρ1.set i (.ow (ds ++ [d]))) M1
  | _ => False
private theorem js_app {i : Nat} (hh : PS X st (tDrop (tBM X.K "list" rAppend (tVar i) (lfA X.K (wCons fe wNil))))) : JS X st (wApp i fe) := ⟨imS hh fun D' σ H hh => ex5 hh fun Z F ρ M E ag hf k => by
  obtain ⟨ho, hf⟩ := hf
  obtain ⟨ds0, ho⟩ := isOw_of ho
  obtain ⟨p, vs, h1, h2, h3, h4, h5, h6⟩ := ow_get ag ho
  refine ⟨.ref p, h1, .inl ⟨rfl, vs, SqL.of h2⟩, Z, F, ρ, M, fun es ρ1 M1 => match es with
    | [d] => (match ρ1[i]? with
      | some (.ow ds) => ds.length < sizeLine ∧ E.nx (ρ1.set i (.ow (ds ++ [d]))) M1
      | _ => False)
    | _ => False, ag, hf, fun ws H1 F1 es ρ1 M1 s1 ag1 r1 hh => ?_⟩
  dsimp only at hh
  split at hh
  · rename_i d
    split at hh
    · rename_i ds hd
      obtain ⟨v, rfl, rv⟩ := rps1 r1
      obtain ⟨p', us, g1, g2, g3, g4, g5, g6⟩ := ow_get ag1 hd
      rw [h1] at g1
      cases g1
      refine ⟨p, us, v, rfl, rfl, g2, by rw [← g6.length]; exact hh.1, k.nx σ _ F1 _ M1 s1 (ag1.chg hd h1 g2 g3 g4 g5 (g6.append (.cons rv .nil))) hh.2⟩
    · exact hh.elim
  · exact hh.elim⟩
noncomputable def wSetIx (i : Nat) (fk fe : WE) : WS := fun E ρ M => fe ρ M fun d ρ1 M1 => isOw ρ1[i]? ∧ fk ρ1 M1 fun k ρ2 M2 => match ρ2[i]?, k with
  | some (.ow ds), .int j => (match ixN ds.length j with
    | some n => E.nx (ρ2.set i (.ow (ds.set n d))) M2
    | none => False)
  | _, _ => False
private theorem js_setIx {i : Nat} {fk : WE} (hh : PS X st (tAsg (lf X.K fe) (gSub (tVar i) (lf X.K fk) rSetL))) : JS X st (wSetIx i fk fe) := ⟨imS hh fun D' σ H hh => ex5 hh fun Z F ρ M E ag hf k => by
  refine ⟨Z, F, ρ, M, _, ag, hf, fun v H1 F1 d ρ1 M1 s1 ag1 r1 h1 => ?_⟩
  obtain ⟨ho, h1⟩ := h1
  obtain ⟨ds0, ho⟩ := isOw_of ho
  obtain ⟨p, vs, e1, e2, e3, e4, e5, e6⟩ := ow_get ag1 ho
  refine ⟨.ref p, e1, Z, F1, ρ1, M1, _, ag1, h1, fun u H2 F2 dk ρ2 M2 s2 ag2 r2 h2 => ?_⟩
  split at h2
  · rename_i ds j hd
    rw [Rp] at r2
    split at h2
    · rename_i n hn
      obtain ⟨p', us, g1, g2, g3, g4, g5, g6⟩ := ow_get ag2 hd
      rw [e1] at g1
      cases g1
      refine ⟨p, us, j, n, rfl, r2, g2, by rw [← g6.length]; exact hn, k.nx σ _ F2 _ M2 (s1.trans s2) (ag2.chg hd e1 g2 g3 g4 g5 (g6.set (r1.same s2) n)) h2⟩
    · exact h2.elim
  · exact h2.elim⟩
noncomputable def wAtO (i : Nat) (fk : WE) : WE := fun ρ M P => isOw ρ[i]? ∧ fk ρ M fun k ρ1 M1 => match ρ1[i]?, k with
  | some (.ow ds), .int j => (match atI ds j with
    | some d => P d ρ1 M1
    | none => False)
  | _, _ => False
private theorem j_atO {i : Nat} {fk : WE} (hh : PE X e (tOp (rIx X.K) (tVar i) (lf X.K fk))) : JE X e (wAtO i fk) := ⟨imE hh fun σ H Q hh => ex5 hh fun Z F ρ M P ag hf k => by
  obtain ⟨ho, hf⟩ := hf
  obtain ⟨ds0, ho⟩ := isOw_of ho
  obtain ⟨p, vs, e1, e2, e3, e4, e5, e6⟩ := ow_get ag ho
  refine ⟨.ref p, e1, Z, F, ρ, M, _, ag, hf, fun u H2 F2 dk ρ2 M2 s2 ag2 r2 h2 => ?_⟩
  split at h2
  · rename_i ds j hd
    rw [Rp] at r2
    split at h2
    · rename_i d hn
      obtain ⟨p', us, g1, g2, g3, g4, g5, g6⟩ := ow_get ag2 hd
      rw [e1] at g1
      cases g1
      obtain ⟨w, a1, a2⟩ := at_rps g6 hn
      exact .inl ⟨p, us, j, w, rfl, r2, SqL.of g2, a1, k w H2 F2 d ρ2 M2 s2 ag2 a2 h2⟩
    · exact h2.elim
  · exact h2.elim⟩
end
end L4
set_option Elab.async false
set_option linter.all false
set_option maxRecDepth 100000
namespace L4
open PySem PySem.Spec PyProof.Rows L2 L3
structure ItOk (K : PySem.W.Frag) (J : It) (F : Hp) (ds : List D) : Prop where
  go : ∀ i F' H, i < ds.length → Same F F' → Same F' H → J.go i H
  stop : ∀ F' H, Same F F' → Same F' H → J.stop ds.length H
  yld : ∀ (i : Nat) d F' H x H', ds[i]? = some d → Same F F' → Same F' H → J.yld i H x H' → ∃ F'', Gw F' H F'' H' ∧ Rp K F'' d x
noncomputable abbrev WI := Rho → Mm → (List D → Rho → Mm → Prop) → Prop
noncomputable def lfI (K : PySem.W.Frag) (f : WI) : TI := fun σ H R => ∃ Z F ρ M P, Ag K Z F M H ρ σ ∧ f ρ M P ∧ ∀ J H' F' ds ρ' M', Same F F' → Ag K Z F' M' H' ρ' σ → ItOk K J F' ds → P ds ρ' M' → R J H'
structure JI (X : Cx) (tg iter : Expr) (f : WI) : Prop where
  h : PI X tg iter (lfI X.K f)
private theorem imI {X : Cx} {tg iter : Expr} {t t' : TI} (h : PI X tg iter t) (k : ∀ σ H R, t' σ H R → t σ H R) : PI X tg iter t' := fun pins s σ H R I q => h pins s σ H R I (k σ H R q)
section
variable {X : Cx} {a b c e tg iter : Expr} {es rest : List Expr} {pos p : Pos} {fa fb fe : WE} {ft fu : WT} {fl : WA} {fn : WN} {st : Stmt} {sts : List Stmt} {fs gs : WS} {x : Str} {fi : WI} {fg : WG}
noncomputable def wIL (f : WE) : WI := fun ρ M P => f ρ M fun d ρ1 M1 => match d with
  | .lst ds => P ds ρ1 M1
  | _ => False
private theorem ji_list (ha : JE X a fa) : JI X tg a (wIL fa) := ⟨imI (pi_list ha.h) fun σ H R hh => ex5 hh fun Z F ρ M P ag hf k => ⟨Z, F, ρ, M, _, ag, hf, fun v H1 F1 d ρ1 M1 s1 ag1 r1 h1 => by
  split at h1
  · rename_i ds
    rw [Rp] at r1
    obtain ⟨q, vs, rfl, g1, g2⟩ := r1
    refine ⟨q, rfl, ⟨vs, .inl (rd_same ag1.m.sm g1)⟩, k _ H1 F1 ds ρ1 M1 s1 ag1 ⟨fun i F' H hi s s' => ?_, fun F' H s s' => ?_, fun i d F' H x H' hd s s' y => ?_⟩ h1⟩
    · exact ⟨vs, _, .inl (rd_same s' (rd_same s g1)), List.getElem?_eq_getElem (by rw [← g2.length]; exact hi)⟩
    · exact ⟨vs, .inl (rd_same s' (rd_same s g1)), by rw [g2.length]; exact Nat.le_refl _⟩
    · obtain ⟨rfl, y⟩ := y
      obtain ⟨w, h2, h3⟩ := g2.get hd
      have := y vs (.inl (rd_same s' (rd_same s g1)))
      rw [h2] at this
      cases this
      exact ⟨F', .rf, h3.same s⟩
  · exact h1.elim⟩⟩
noncomputable def rngD (lo : Int) (n : Nat) : List D := (List.range n).map fun (k : Nat) => D.int (lo + (k : Int))
private theorem it_rng {K : PySem.W.Frag} {F : Hp} (lo : Int) (n : Nat) : ItOk K (Itr lo n) F (rngD lo n) := by
  have hl : (rngD lo n).length = n := by unfold rngD; simp
  refine ⟨fun i F' H hi _ _ => ?_, fun F' H _ _ => ?_, fun i d F' H x H' hd s s' y => ?_⟩
  · show i < n
    omega
  · show n ≤ _
    omega
  · obtain ⟨rfl, rfl⟩ := y
    refine ⟨F', .rf, ?_⟩
    unfold rngD at hd
    rw [List.getElem?_map] at hd
    cases q : (List.range n)[i]? with
    | none => rw [q] at hd; cases hd
    | some j =>
      rw [q] at hd
      obtain ⟨hj, e⟩ := List.getElem?_eq_some_iff.mp q
      simp at e
      subst e
      simp at hd
      subst hd
      rw [Rp]
noncomputable def wIR1 (f : WA) : WI := fun ρ M P => f ρ M fun ds ρ1 M1 => match ds with
  | [.int j] => (-(2 ^ 62) ≤ j ∧ j < 2 ^ 62) ∧ P (rngD 0 j.toNat) ρ1 M1
  | _ => False
noncomputable def wIR2 (f : WA) : WI := fun ρ M P => f ρ M fun ds ρ1 M1 => match ds with
  | [.int i, .int j] => (-(2 ^ 62) ≤ i ∧ i < 2 ^ 62 ∧ -(2 ^ 62) ≤ j ∧ j < 2 ^ 62) ∧ P (rngD i (j - i).toNat) ρ1 M1
  | _ => False
private theorem ji_rng1 (hg : Gl X "range") (hm : X.mg "range" = none) (ha : JA X [a] fl) (hs : starEach [a] X.env = [(false, eval a X.env)] := by rfl) : JI X tg (.Call (.Name "range" p) [a] [] pos) (wIR1 fl) := ⟨imI (pi_range1 hg hm ha.h hs) fun σ H R hh => ex5 hh fun Z F ρ M P ag hf k => ⟨Z, F, ρ, M, _, ag, hf, fun vs H1 F1 ds ρ1 M1 s1 ag1 r1 h1 => by
  split at h1
  · rename_i j
    obtain ⟨v, rfl, rv⟩ := rps1 r1
    rw [Rp] at rv
    subst rv
    exact ⟨j, rfl, h1.1.1, h1.1.2, k _ H1 F1 _ ρ1 M1 s1 ag1 (it_rng 0 _) h1.2⟩
  · exact h1.elim⟩⟩
private theorem ji_rng2 (hg : Gl X "range") (hm : X.mg "range" = none) (ha : JA X [a, b] fl) (hs : starEach [a, b] X.env = [(false, eval a X.env), (false, eval b X.env)] := by rfl) (hs2 : starEach [b] X.env = [(false, eval b X.env)] := by rfl) : JI X tg (.Call (.Name "range" p) [a, b] [] pos) (wIR2 fl) := ⟨imI (pi_range2 hg hm ha.h hs hs2) fun σ H R hh => ex5 hh fun Z F ρ M P ag hf k => ⟨Z, F, ρ, M, _, ag, hf, fun vs H1 F1 ds ρ1 M1 s1 ag1 r1 h1 => by
  split at h1
  · rename_i i j
    obtain ⟨v, u, rfl, rv, ru⟩ := rps2 r1
    rw [Rp] at rv ru
    subst rv ru
    exact ⟨i, j, rfl, h1.1, k _ H1 F1 _ ρ1 M1 s1 ag1 (it_rng i _) h1.2⟩
  · exact h1.elim⟩⟩
noncomputable def zipD : List D → List D → List D
  | x :: xs, y :: ys => .tup [x, y] :: zipD xs ys
  | _, _ => []
private theorem zipD_len : ∀ (xs ys : List D), (zipD xs ys).length = min xs.length ys.length
  | [], _ => by simp [zipD]
  | _ :: _, [] => by simp [zipD]
  | x :: xs, y :: ys => by rw [zipD, List.length_cons, zipD_len xs ys]; simp
private theorem zipD_get : ∀ {xs ys : List D} {i : Nat} {d : D}, (zipD xs ys)[i]? = some d → ∃ x y, xs[i]? = some x ∧ ys[i]? = some y ∧ d = .tup [x, y]
  | [], _, _, _, h => by simp [zipD] at h
  | _ :: _, [], _, _, h => by simp [zipD] at h
  | x :: xs, y :: ys, 0, d, h => by simp [zipD] at h; exact ⟨x, y, rfl, rfl, h.symm⟩
  | x :: xs, y :: ys, i + 1, d, h => by
    rw [zipD, List.getElem?_cons_succ] at h
    obtain ⟨a, b, h1, h2, h3⟩ := zipD_get h
    exact ⟨a, b, by simpa using h1, by simpa using h2, h3⟩
noncomputable def wIZ (f : WA) : WI := fun ρ M P => f ρ M fun ds ρ1 M1 => match ds with
  | [.lst xs, .lst ys] => P (zipD xs ys) ρ1 M1
  | _ => False
private theorem ji_zip {tpos : Pos} {elts : List Expr} {k : Nat} (hg : Gl X "zip") (hm : X.mg "zip" = none) (ha : JA X [a, b] fl) (hs : starEach [a, b] X.env = [(false, eval a X.env), (false, eval b X.env)] := by rfl) (hs2 : starEach [b] X.env = [(false, eval b X.env)] := by rfl) : JI X (.Tuple elts k tpos) (.Call (.Name "zip" p) [a, b] [] pos) (wIZ fl) := ⟨imI (pi_zip hg hm ha.h hs hs2) fun σ H R hh => ex5 hh fun Z F ρ M P ag hf k => ⟨Z, F, ρ, M, _, ag, hf, fun vs H1 F1 ds ρ1 M1 s1 ag1 r1 h1 => by
  split at h1
  · rename_i xs ys
    obtain ⟨v, u, rfl, rv, ru⟩ := rps2 r1
    rw [Rp] at rv ru
    obtain ⟨q, vs, rfl, g1, g2⟩ := rv
    obtain ⟨q', us, rfl, g3, g4⟩ := ru
    refine ⟨q, q', rfl, ⟨vs, .inl (rd_same ag1.m.sm g1)⟩, ⟨us, .inl (rd_same ag1.m.sm g3)⟩, k _ H1 F1 _ ρ1 M1 s1 ag1 ⟨fun i F' H hi s s' => ?_, fun F' H s s' => ?_, fun i d F' H x H' hd s s' y => ?_⟩ h1⟩
    · rw [zipD_len, g2.length, g4.length] at hi
      exact ⟨vs, us, _, _, .inl (rd_same s' (rd_same s g1)), .inl (rd_same s' (rd_same s g3)), List.getElem?_eq_getElem (by omega), List.getElem?_eq_getElem (by omega)⟩
    · refine ⟨vs, us, .inl (rd_same s' (rd_same s g1)), .inl (rd_same s' (rd_same s g3)), ?_⟩
      rw [zipD_len, g2.length, g4.length]
      omega
    · obtain ⟨p, w1, w2, rfl, hp, rfl, y1, y2⟩ := y
      obtain ⟨d1, d2, e1, e2, rfl⟩ := zipD_get hd
      obtain ⟨z1, f1, f2⟩ := g2.get e1
      obtain ⟨z2, f3, f4⟩ := g4.get e2
      have q1 := y1 vs (.inl (rd_same s' (rd_same s g1)))
      have q2 := y2 us (.inl (rd_same s' (rd_same s g3)))
      rw [f1] at q1
      cases q1
      rw [f3] at q2
      cases q2
      have hF : F' p = none := sub_none s' hp
      have sn : Same F' (upd F' p (.tup [w1, w2])) := Same.new hF
      refine ⟨_, .nw hp, ?_⟩
      rw [Rp]
      exact ⟨p, _, rfl, SqT.of upd_same, .cons ((f2.same s).same sn) (.cons ((f4.same s).same sn) .nil)⟩
  · exact h1.elim⟩⟩
noncomputable def gN (i : Nat) : WG := fun d ρ M P => P (ρ.set i (.sh d)) M
private theorem jg_name {i : Nat} (hN : X.N.Nodup) (hi : X.N[i]? = some x) (hx : Loc X.env.scope x) (hf : X.fn x = true ∨ X.env.scope.names.lookup x = some .local := by first | exact .inl rfl | exact .inr rfl | assumption) : JG X (.Name x pos) (gN i) := ⟨imG (pg_name hN hi hx hf) fun v σ H Q hh => ex6 hh fun Z F ρ M d P ag r hf k => k _ H F _ M (Same.refl _) (ag.set r) hf⟩
noncomputable def gNil4 : WGs := fun ds ρ M P => match ds with
  | [] => P ρ M
  | _ => False
noncomputable def gCons4 (g : WG) (h : WGs) : WGs := fun ds ρ M P => match ds with
  | d :: r => g d ρ M fun ρ1 M1 => h r ρ1 M1 P
  | _ => False
private theorem jgs_nil : JGs X [] gNil4 := ⟨imGs pgs_nil fun vs σ H Q hh => ex6 hh fun Z F ρ M ds P ag r hf k => by
  unfold gNil4 at hf
  split at hf
  · rw [Rps] at r
    exact ⟨r, k σ H F ρ M (Same.refl _) ag hf⟩
  · exact hf.elim⟩
private theorem jgs_cons {fh : WGs} (h1 : JG X e fg) (h2 : JGs X es fh) (hs : (assignEach (e :: es) X.env).map (·.2) = assign e X.env :: (assignEach es X.env).map (·.2) := by rfl) : JGs X (e :: es) (gCons4 fg fh) := ⟨imGs (pgs_cons h1.h h2.h hs) fun vs σ H Q hh => ex6 hh fun Z F ρ M ds P ag r hf k => by
  unfold gCons4 at hf
  split at hf
  · rw [Rps] at r
    obtain ⟨v, vr, rfl, r1, r2⟩ := r
    exact ⟨v, vr, rfl, Z, F, ρ, M, _, _, ag, r1, hf, fun σ' H' F' ρ' M' s' ag' h => ⟨Z, F', ρ', M', _, P, ag', r2.same s', h, fun σ2 H2 F2 ρ2 M2 s2 => k σ2 H2 F2 ρ2 M2 (s'.trans s2)⟩⟩
  · exact hf.elim⟩
noncomputable def gTup4 (n : Nat) (g : WGs) : WG := fun d ρ M P => match d with
  | .tup ds => ds.length = n ∧ g ds ρ M P
  | _ => False
private theorem jg_tup {fh : WGs} {k n : Nat} (hc : X.calm = true) (h : JGs X es fh) (hn : (assignEach es X.env).length = n := by rfl) (hst : (assignEach es X.env).findIdx? (·.1) = none := by rfl) : JG X (.Tuple es k pos) (gTup4 n fh) := ⟨imG (pg_tup hc h.h hn hst) fun v σ H Q hh => ex6 hh fun Z F ρ M d P ag r hf k => by
  unfold gTup4 at hf
  split at hf
  · rw [Rp] at r
    obtain ⟨q, vs, rfl, g1, g2⟩ := r
    exact ⟨q, vs, rfl, sqT_same ag.m.sm g1, by rw [← g2.length]; exact hf.1, Z, F, ρ, M, _, P, ag, g2, hf.2, k⟩
  · exact hf.elim⟩
noncomputable def wPar (i j : Nat) (f : WA) : WS := fun E ρ M => f ρ M fun ds ρ1 M1 => match ds with
  | [d, e] => E.nx ((ρ1.set i (.sh d)).set j (.sh e)) M1
  | _ => False
private theorem js_par {i j : Nat} (hh : PS X st (tPar i j (lfA X.K fl))) : JS X st (wPar i j fl) := ⟨imS hh fun D' σ H hh => ex5 hh fun Z F ρ M E ag hf k =>
  ⟨Z, F, ρ, M, _, ag, hf, fun vs H1 F1 ds ρ1 M1 s1 ag1 r1 h1 => by
    split at h1
    · obtain ⟨v, u, rfl, rv, ru⟩ := rps2 r1
      exact ⟨v, u, rfl, k.nx _ H1 F1 _ M1 s1 ((ag1.set rv).set ru) h1⟩
    · exact h1.elim⟩⟩
noncomputable def wFor (f : WI) (g : WG) (b : WS) : WS := fun E ρ M => f ρ M fun ds ρ1 M1 => ∃ I : Nat → Rho → Mm → Prop, I 0 ρ1 M1 ∧ (∀ (i : Nat) d ρ2 M2, ds[i]? = some d → I i ρ2 M2 → g d ρ2 M2 fun ρ3 M3 => b ⟨I (i + 1), E.rt, E.nx, I (i + 1)⟩ ρ3 M3) ∧ ∀ ρ2 M2, I ds.length ρ2 M2 → E.nx ρ2 M2
private theorem js_for {body : List Stmt} (hp : PassesOwn (model X.prog X.w) X.A X.env X.xe) (hc : X.calm = true) (hi : JI X tg iter fi) (hg : JG X tg fg) (hb : JSs X body fs) (hs : ∀ x, foldedSetIterable iter X.env x = pure x := by intro _; rfl) : JS X (.For tg iter body [] pos) (wFor fi fg fs) := ⟨imS (ps_for hp hc hi.h hg.h hb.h hs) fun D' σ H hh => ex5 hh fun Z F ρ M E ag hf k => ⟨Z, F, ρ, M, _, ag, hf, fun J H1 F1 ds ρ1 M1 s1 ag1 it h1 => by
  obtain ⟨In, i0, step, fin⟩ := h1
  refine ⟨fun i m σ' H' => m = ds.length - i ∧ i ≤ ds.length ∧ ∃ F' ρ' M', Same F1 F' ∧ Ag X.K Z F' M' H' ρ' σ' ∧ In i ρ' M', ⟨_, rfl, Nat.zero_le _, F1, ρ1, M1, Same.refl _, ag1, i0⟩, ?_⟩
  rintro i m σ2 H2 ⟨rfl, hi, F2, ρ2, M2, s2, ag2, h2⟩
  by_cases hl : i < ds.length
  · have e : ds[i]? = some ds[i] := List.getElem?_eq_getElem hl
    refine .inr ⟨it.go i F2 H2 hl s2 ag2.m.sm, fun σ' H' => ∃ F' ρ' M', Same F1 F' ∧ Ag X.K Z F' M' H' ρ' σ' ∧ In (i + 1) ρ' M', fun σ' H' q => ⟨ds.length - (i + 1), by omega, rfl, hl, q⟩, fun x H' y => ?_⟩
    obtain ⟨F3, gw, r3⟩ := it.yld i _ F2 H2 x H' e s2 ag2.m.sm y
    have s3 := gw.same ag2.m.sm
    refine ⟨Z, F3, ρ2, M2, _, _, gw.ag ag2, r3, step i _ ρ2 M2 e h2, fun σ4 H4 F4 ρ4 M4 s4 ag4 h4 => ⟨Z, F4, ρ4, M4, _, ag4, h4, ?_⟩⟩
    have s14 := s2.trans (s3.trans s4)
    refine ⟨fun σ' H' F' ρ' M' t a q => ⟨F', ρ', M', s14.trans t, a, q⟩, fun σ' H' F' ρ' M' t a q => k.nx σ' H' F' ρ' M' (s1.trans (s14.trans t)) a q, fun σ' H' F' ρ' M' t a q => ⟨F', ρ', M', s14.trans t, a, q⟩, fun v H' F' d M' t a r q => k.rt v H' F' d M' (s1.trans (s14.trans t)) a r q⟩
  · have : i = ds.length := by omega
    subst this
    exact .inl ⟨it.stop F2 H2 s2 ag2.m.sm, k.nx σ2 H2 F2 ρ2 M2 (s1.trans s2) ag2 (fin ρ2 M2 h2)⟩⟩⟩
noncomputable def wWhile (c : WT) (b : WS) : WS := fun E ρ M => ∃ W : Nat → Rho → Mm → Prop, (∃ m, W m ρ M) ∧ ∀ m ρ M, W m ρ M → c ρ M fun k ρ1 M1 => if k = true then b ⟨fun ρ2 M2 => ∃ m', m' < m ∧ W m' ρ2 M2, E.rt, E.nx, fun ρ2 M2 => ∃ m', m' < m ∧ W m' ρ2 M2⟩ ρ1 M1 else E.nx ρ1 M1
private theorem js_while {body : List Stmt} (hp : PassesOwn (model X.prog X.w) X.A X.env X.xe) (hc : JT X c ft) (hb : JSs X body fs) : JS X (.While c body [] pos) (wWhile ft fs) := ⟨imS (ps_while hp hc.h hb.h) fun D' σ H hh => ex5 hh fun Z F ρ M E ag hf k => by
  obtain ⟨W, ⟨m0, w0⟩, turn⟩ := hf
  refine ⟨fun m σ' H' => ∃ F' ρ' M', Same F F' ∧ Ag X.K Z F' M' H' ρ' σ' ∧ W m ρ' M', ⟨m0, F, ρ, M, Same.refl _, ag, w0⟩, ?_⟩
  rintro m σ1 H1 ⟨F1, ρ1, M1, s1, ag1, w1⟩
  refine ⟨Z, F1, ρ1, M1, _, ag1, turn m ρ1 M1 w1, fun b H2 F2 ρ2 M2 s2 ag2 h2 => ?_⟩
  cases b with
  | false => rw [if_neg Bool.false_ne_true] at h2 ⊢; exact k.nx σ1 H2 F2 ρ2 M2 (s1.trans s2) ag2 h2
  | true =>
    rw [if_pos rfl] at h2 ⊢
    refine ⟨fun σ' H' => ∃ m', m' < m ∧ ∃ F' ρ' M', Same F F' ∧ Ag X.K Z F' M' H' ρ' σ' ∧ W m' ρ' M', fun _ _ h => h, Z, F2, ρ2, M2, _, ag2, h2, ?_⟩
    have s02 := s1.trans s2
    exact ⟨fun σ' H' F' ρ' M' t a ⟨m', hm, q⟩ => ⟨m', hm, F', ρ', M', s02.trans t, a, q⟩, fun σ' H' F' ρ' M' t a q => k.nx σ' H' F' ρ' M' (s02.trans t) a q, fun σ' H' F' ρ' M' t a ⟨m', hm, q⟩ => ⟨m', hm, F', ρ', M', s02.trans t, a, q⟩, fun v H' F' d M' t a r q => k.rt v H' F' d M' (s02.trans t) a r q⟩⟩
end
noncomputable def iniR (src : List (Option Nat)) (ρ : Rho) : Rho := src.map fun o => match o with
  | none => .un
  | some j => (match ρ[j]? with
    | some (.sh d) => .sh d
    | some (.rf p) => .rf p
    | some (.ut u) => .ut u
    | _ => .un)
private theorem ag_ini {K : PySem.W.Frag} {Z F H : Hp} {M : Mm} {ρ : Rho} {σ : L2.St} (src : List (Option Nat)) (ag : Ag K Z F M H ρ σ) : Ag K (Zof F M H) F M H (iniR src ρ) (ini src σ) := by
  refine ⟨ag.m.inner, by unfold iniR ini; rw [List.length_map, List.length_map], fun i e h => ?_, fun i j ds es p n h1 h2 h3 => ?_⟩
  · unfold iniR at h
    rw [List.getElem?_map] at h
    unfold ini
    rw [List.getElem?_map]
    cases q : src[i]? with
    | none => rw [q] at h; cases h
    | some o =>
      rw [q] at h
      cases o with
      | none => cases h; trivial
      | some j =>
        simp only [Option.map_some, Option.some.injEq] at h
        simp only [Option.map_some, Option.bind_some, Option.join_some]
        cases q2 : ρ[j]? with
        | none => rw [q2] at h; subst h; trivial
        | some en =>
          rw [q2] at h
          have hen := ag.en j en q2
          cases en with
          | un => subst h; trivial
          | sh d => subst h; exact hen
          | rf p => subst h; exact hen
          | ut u => subst h; exact hen
          | ow ds => subst h; trivial
  · exfalso
    unfold iniR at h1
    rw [List.getElem?_map] at h1
    cases q : src[i]? with
    | none => rw [q] at h1; cases h1
    | some o =>
      rw [q] at h1
      cases o with
      | none => cases h1
      | some j =>
        simp only [Option.map_some, Option.some.injEq] at h1
        split at h1 <;> cases h1
noncomputable def clr (ρ : Rho) : Rho := ρ.map fun e => match e with
  | .ow _ => .un
  | e => e
private theorem ag_clr {K : PySem.W.Frag} {Z Z' F H : Hp} {M : Mm} {ρ : Rho} {σ : L2.St} (ag : Ag K Z F M H ρ σ) (m : AgM K Z' F M H) : Ag K Z' F M H (clr ρ) σ := by
  have key : ∀ {i : Nat} {e : Ent}, (clr ρ)[i]? = some e → (e = .un ∨ ρ[i]? = some e) ∧ ∀ ds, e ≠ .ow ds := fun {i e} h => by
    unfold clr at h
    rw [List.getElem?_map] at h
    cases q : ρ[i]? with
    | none => rw [q] at h; cases h
    | some en =>
      rw [q] at h
      cases en with
      | un => cases h; exact ⟨.inl rfl, fun _ z => nomatch z⟩
      | sh d => cases h; exact ⟨.inr rfl, fun _ z => nomatch z⟩
      | rf p => cases h; exact ⟨.inr rfl, fun _ z => nomatch z⟩
      | ut u => cases h; exact ⟨.inr rfl, fun _ z => nomatch z⟩
      | ow ds => cases h; exact ⟨.inl rfl, fun _ z => nomatch z⟩
  refine ⟨m, by unfold clr; rw [List.length_map]; exact ag.len, fun i e h => ?_, fun i j ds es p n h1 _ _ => absurd rfl ((key h1).2 ds)⟩
  obtain ⟨h1, h2⟩ := key h
  rcases h1 with rfl | h1
  · trivial
  · have := ag.en i e h1
    cases e with
    | un => trivial
    | sh d => exact this
    | rf p => exact this
    | ut u => exact this
    | ow ds => exact absurd rfl (h2 ds)
noncomputable def wComp (fi : WI) (g : WG) (c : WT) (f : WE) (src : List (Option Nat)) : WN := fun ρ M P => fi ρ M fun ds ρ1 M1 => ∃ I : Nat → List D → Rho → Mm → Prop, I 0 [] (iniR src ρ1) M1 ∧
  (∀ (i : Nat) d out ρ2 M2, ds[i]? = some d → I i out ρ2 M2 → g d ρ2 M2 fun ρ3 M3 => c ρ3 M3 fun b ρ4 M4 => if b = true then f ρ4 M4 fun y ρ5 M5 => out.length < sizeLine ∧ I (i + 1) (out ++ [y]) (clr ρ5) M5 else I (i + 1) out (clr ρ4) M4) ∧
  ∀ out ρ2 M2, I ds.length out ρ2 M2 → P out ρ1 M2
noncomputable def wYes : WT := fun ρ M P => P true ρ M
private theorem of_yes {K : PySem.W.Frag} : ∀ σ H Q, lfT K wYes σ H Q → tYes σ H Q := fun σ H Q hh => ex5 hh fun Z F ρ M P ag hf k => k true H F ρ M (Same.refl _) ag hf
noncomputable abbrev lfX {α : Type} (K : PySem.W.Frag) (R : Hp → α → V → Prop) (f : Rho → Mm → (α → Rho → Mm → Prop) → Prop) : TE := fun σ H Q => ∃ Z F ρ M P, Ag K Z F M H ρ σ ∧ f ρ M P ∧ ∀ v H' F' d ρ' M', Same F F' → Ag K Z F' M' H' ρ' σ → R F' d v → P d ρ' M' → Q v H'
noncomputable abbrev lfNX {α : Type} (K : PySem.W.Frag) (RL : Hp → List α → List V → Prop) (f : Rho → Mm → (List α → Rho → Mm → Prop) → Prop) : TE := fun σ H Q => ∃ Z F ρ M P, Ag K Z F M H ρ σ ∧ f ρ M P ∧ ∀ p vs H' F' ds ρ' M', Same F F' → Ag K Z F' M' H' ρ' σ → H' p = some (.lst vs) → F' p = none → M' p = none → Z p = none → (∀ (j : Nat) (es : List D), ρ'[j]? = some (.ow es) → σ[j]? ≠ some (some (.ref p))) → RL F' ds vs → P ds ρ' M' → Q (.ref p) H'
noncomputable abbrev wCompX {α : Type} (fi : WI) (g : WG) (c : WT) (f : Rho → Mm → (α → Rho → Mm → Prop) → Prop) (src : List (Option Nat)) : Rho → Mm → (List α → Rho → Mm → Prop) → Prop := fun ρ M P => fi ρ M fun ds ρ1 M1 => ∃ I : Nat → List α → Rho → Mm → Prop, I 0 [] (iniR src ρ1) M1 ∧
  (∀ (i : Nat) d out ρ2 M2, ds[i]? = some d → I i out ρ2 M2 → g d ρ2 M2 fun ρ3 M3 => c ρ3 M3 fun b ρ4 M4 => if b = true then f ρ4 M4 fun y ρ5 M5 => out.length < sizeLine ∧ I (i + 1) (out ++ [y]) (clr ρ5) M5 else I (i + 1) out (clr ρ4) M4) ∧
  ∀ out ρ2 M2, I ds.length out ρ2 M2 → P out ρ1 M2
private theorem of_compX {α : Type} {K : PySem.W.Frag} {R : Hp → α → V → Prop} {RL : Hp → List α → List V → Prop} (rn : ∀ F, RL F [] []) (rs : ∀ {F F' out ws}, Same F F' → RL F out ws → RL F' out ws) (rl : ∀ {F out ws}, RL F out ws → out.length = ws.length) (rc : ∀ {F out ws d v}, RL F out ws → R F d v → RL F (out ++ [d]) (ws ++ [v]))
    {fi : WI} {fg : WG} {fc : WT} {fe : Rho → Mm → (α → Rho → Mm → Prop) → Prop} {src : List (Option Nat)} {g : TG} {tc : TT} {te : TE} (hg : ∀ v σ H Q, lfG K fg v σ H Q → g v σ H Q) (hc : ∀ σ H Q, lfT K fc σ H Q → tc σ H Q) (he : ∀ σ H Q, lfX K R fe σ H Q → te σ H Q) :
    ∀ σ H Q, lfNX K RL (wCompX fi fg fc fe src) σ H Q → tComp (lfI K fi) g tc te src σ H Q := fun σ H Q hh => ex5 hh fun Z F ρ M P ag hf k => ⟨Z, F, ρ, M, _, ag, hf, fun J H1 F1 ds ρ1 M1 s1 ag1 it h1 D0 hD => by
  -- the new list at D0, the outer state as it was
  obtain ⟨In, i0, step, fin⟩ := h1
  obtain ⟨n1, n2, n3, n4, n5, n6, _⟩ := newN (ds := []) (vs := []) ag1 hD .nil
  refine ⟨fun i m σc Hc => m = ds.length - i ∧ i ≤ ds.length ∧ ∃ F' ρc M' out ws, Same F1 F' ∧ AgM K (Zof F1 M1 H1) F' M' Hc ∧ Hc D0 = some (.lst ws) ∧ F' D0 = none ∧ M' D0 = none ∧ RL F' out ws ∧
      Ag K (Zof F' M' Hc) F' M' Hc ρc σc ∧ In i out ρc M', ⟨_, rfl, Nat.zero_le _, F1, iniR src ρ1, M1, [], [], Same.refl _, ?_, n2, n3, n4, rn _, ?_, i0⟩, ?_⟩
  · refine ⟨n1.m.sm, fun p o h => ?_, n1.m.mo⟩
    obtain ⟨z1, z2, z3⟩ := zof_some h
    have : p ≠ D0 := fun z => by rw [z, hD] at z1; cases z1
    exact ⟨by rw [upd_ne this]; exact z1, z2, z3⟩
  · exact ag_ini src n1
  rintro i m σ2 H2 ⟨rfl, hi, F2, ρ2, M2, out, ws, s2, m2, d1, d2, d3, r2, ag2, h2⟩
  by_cases hl : i < ds.length
  · have e : ds[i]? = some ds[i] := List.getElem?_eq_getElem hl
    refine .inr ⟨it.go i F2 H2 hl s2 ag2.m.sm, fun σc Hc => ∃ F' ρc M' out ws, Same F1 F' ∧ AgM K (Zof F1 M1 H1) F' M' Hc ∧ Hc D0 = some (.lst ws) ∧ F' D0 = none ∧ M' D0 = none ∧ RL F' out ws ∧
      Ag K (Zof F' M' Hc) F' M' Hc ρc σc ∧ In (i + 1) out ρc M', fun σ' H' q => ⟨ds.length - (i + 1), by omega, rfl, hl, q⟩, fun x H' y => ?_⟩
    obtain ⟨F3, gw, r3⟩ := it.yld i _ F2 H2 x H' e s2 ag2.m.sm y
    have s3 := gw.same ag2.m.sm
    have zd : Zof F2 M2 H2 D0 = some (.lst ws) := zof_of d1 d2 d3
    refine hg _ _ _ _ ⟨Zof F2 M2 H2, F3, ρ2, M2, _, _, gw.ag ag2, r3, step i _ out ρ2 M2 e h2, fun σ4 H4 F4 ρ4 M4 s4 ag4 h4 => ?_⟩
    refine hc _ _ _ ⟨Zof F2 M2 H2, F4, ρ4, M4, _, ag4, h4, fun b H5 F5 ρ5 M5 s5 ag5 h5 => ?_⟩
    have s25 := s3.trans (s4.trans s5)
    dsimp only
    cases b with
    | false =>
      rw [if_neg Bool.false_ne_true] at h5 ⊢
      obtain ⟨z1, z2, z3⟩ := ag5.m.zz _ _ zd
      exact ⟨F5, clr ρ5, M5, out, ws, s2.trans s25, m2.back ag5.m, z1, z2, z3, rs s25 r2, ag_clr ag5 ag5.m.inner, h5⟩
    | true =>
      rw [if_pos rfl] at h5 ⊢
      refine he _ _ _ ⟨Zof F2 M2 H2, F5, ρ5, M5, _, ag5, h5, fun v H6 F6 d ρ6 M6 s6 ag6 r6 h6 => ?_⟩
      obtain ⟨z1, z2, z3⟩ := ag6.m.zz _ _ zd
      have s26 := s25.trans s6
      have m6 := m2.back ag6.m
      have ne : ∀ {q : Addr} {u : HO}, F6 q = some u → q ≠ D0 := fun e z => by rw [z, z2] at e; cases e
      have nz : Zof F1 M1 H1 D0 = none := by
        cases q : Zof F1 M1 H1 D0 with
        | none => rfl
        | some o => have := (zof_some q).1; rw [hD] at this; cases this
      have up : ∀ {Z' : Hp}, (∀ p o, Z' p = some o → p ≠ D0) → AgM K Z' F6 M6 H6 → AgM K Z' F6 M6 (upd H6 D0 (.lst (ws ++ [v]))) := fun {Z'} hz a => ⟨fun q u e => by rw [upd_ne (ne e)]; exact a.sm q u e, fun q o e => by
          obtain ⟨y1, y2, y3⟩ := a.zz q o e
          exact ⟨by rw [upd_ne (hz q o e)]; exact y1, y2, y3⟩, fun q o e => by
          obtain ⟨y1, y2⟩ := a.mo q o e
          have : q ≠ D0 := fun z => by rw [z, z3] at e; cases e
          exact ⟨y1, y2.same (Same.refl _) (upd_ne this)⟩⟩
      have a6 := up (Z' := Zof F1 M1 H1) (fun p o e z => by rw [z, nz] at e; cases e) m6
      refine ⟨ws, z1, by rw [← rl r2]; exact h6.1, F6, clr ρ6, M6, out ++ [d], ws ++ [v], s2.trans s26, a6, upd_same, z2, z3, rc (rs s26 r2) r6, ?_, h6.2⟩
      have b6 : Ag K (fun _ => none) F6 M6 H6 (clr ρ6) σ4 := ag_clr ag6 ⟨ag6.m.sm, fun p o e => (nomatch e), ag6.m.mo⟩
      have c6 : Ag K (fun _ => none) F6 M6 (upd H6 D0 (.lst (ws ++ [v]))) (clr ρ6) σ4 := by
        refine ⟨up (fun p o e => (nomatch e)) b6.m, b6.len, fun i e h => ?_, b6.di⟩
        have := b6.en i e h
        cases e with
        | un => trivial
        | sh d => exact this
        | rf p => exact this
        | ut u => exact this
        | ow ds' =>
          exfalso
          unfold clr at h
          rw [List.getElem?_map] at h
          cases q : ρ6[i]? with
          | none => rw [q] at h; cases h
          | some en => rw [q] at h; cases en <;> cases h
      have e6 := ag_clr c6 c6.m.inner
      have ce : clr (clr ρ6) = clr ρ6 := by
        unfold clr
        rw [List.map_map]
        congr 1
        funext en
        cases en <;> rfl
      rw [ce] at e6
      exact e6
  · have : i = ds.length := by omega
    subst this
    refine .inl ⟨it.stop F2 H2 s2 ag2.m.sm, ?_⟩
    have ag3 := ag1.back s2 m2
    refine k D0 ws H2 F2 out ρ1 M2 (s1.trans s2) ag3 d1 d2 d3 n5 n6 r2 (fin out ρ2 M2 h2)⟩
private theorem of_comp {K : PySem.W.Frag} {fi : WI} {fg : WG} {fc : WT} {fe : WE} {src : List (Option Nat)} {g : TG} {tc : TT} {te : TE} (hg : ∀ v σ H Q, lfG K fg v σ H Q → g v σ H Q) (hc : ∀ σ H Q, lfT K fc σ H Q → tc σ H Q) (he : ∀ σ H Q, lf K fe σ H Q → te σ H Q) :
    ∀ σ H Q, lfN K (wComp fi fg fc fe src) σ H Q → tComp (lfI K fi) g tc te src σ H Q :=
  of_compX (R := Rp K) (RL := Rps K) (fun _ => .nil) (fun s r => r.same s) (fun r => r.length) (fun r q => r.append (.cons q .nil)) hg hc he
section
variable {X : Cx} {tg elt iter : Expr} {pos : Pos} {fi : WI}
end
end L4
set_option Elab.async false
set_option linter.all false
set_option maxRecDepth 100000
namespace L4
open PySem PySem.Spec PyProof.Rows L2 L3
section
variable {X : Cx} {a b c e tg elt iter : Expr} {es ifs : List Expr} {pos cpos pos' p2 : Pos} {fa fb fe : WE} {fl : WA} {fn fm : WN} {fi : WI} {fg : WG} {fc : WT} {scope : Scope} {N : List Str} {src : List (Option Nat)} {x : Str} {k : Nat}
structure JC (X : Cx) (ifs : List Expr) (f : WT) : Prop where
  h : PIfs X ifs (lfT X.K f)
private theorem imC {t t' : TT} (h : PIfs X ifs t) (k : ∀ σ H Q, t' σ H Q → t σ H Q) : PIfs X ifs t' := fun pins s σ H Q I q => h pins s σ H Q I (k σ H Q q)
private theorem jc_nil : JC X [] wYes := ⟨imC ifs_nil of_yes⟩
private theorem jc_one (h : JT X c fc) : JC X [c] fc := ⟨ifs_one h.h⟩
private theorem jn_lc (N : List Str) (src : List (Option Nat)) (ok : CompOk X scope N src) (hcalm : X.calm = true) (hi : JI X tg iter fi)
    (hg : ∀ pins s2 H2 C fp, JG (cxComp X pins s2 H2 N scope C fp) tg fg) (hc : ∀ pins s2 H2 C fp, JC (cxComp X pins s2 H2 N scope C fp) ifs fc) (he : ∀ pins s2 H2 C fp, JE (cxComp X pins s2 H2 N scope C fp) elt fe)
    (hs : ∀ x, foldedSetIterable iter X.env x = pure x := by intro _; rfl) : JN X (.ListComp elt [⟨tg, iter, ifs, 0⟩] scope pos) (wComp fi fg fc fe src) :=
  ⟨imE (pe_comp N src ok hcalm hi.h (fun a b c d e => (hg a b c d e).h) (fun a b c d e => (hc a b c d e).h) (fun a b c d e => (he a b c d e).h) hs) (of_comp (fun _ _ _ _ h => h) (fun _ _ _ h => h) fun _ _ _ h => h)⟩
private theorem js_setC (hN : X.N.Nodup) (hk : X.N[k]? = some x) (hx : Loc X.env.scope x) (N : List Str) (src : List (Option Nat)) (ok : CompOk X scope N src) (hcalm : X.calm = true) (hi : JI X tg iter fi)
    (hg : ∀ pins s2 H2 C fp, JG (cxComp X pins s2 H2 N scope C fp) tg fg) (hc : ∀ pins s2 H2 C fp, JC (cxComp X pins s2 H2 N scope C fp) ifs fc) (he : ∀ pins s2 H2 C fp, JE (cxComp X pins s2 H2 N scope C fp) elt fe)
    (hsw : swapsWith (.ListComp elt [⟨tg, iter, ifs, 0⟩] scope cpos) (some (.Name x pos')) pos.line X.env = pure true := by rfl)
    (hs : ∀ x, foldedSetIterable iter X.env x = pure x := by intro _; rfl) (hfn : X.fn x = true ∨ X.env.scope.names.lookup x = some .local := by first | exact .inl rfl | exact .inr rfl | assumption) :
    JS X (.Assign [.Name x pos'] (.ListComp elt [⟨tg, iter, ifs, 0⟩] scope cpos) pos) (wSetN k (wComp fi fg fc fe src)) :=
  ⟨imS (ps_setComp hN hk hx N src ok hcalm hi.h (fun a b c d e => (hg a b c d e).h) (fun a b c d e => (hc a b c d e).h) (fun a b c d e => (he a b c d e).h) hsw hs hfn) fun D' σ H hh => ex5 hh fun Z F ρ M E ag hf k =>
    of_comp (fun _ _ _ _ h => h) (fun _ _ _ h => h) (fun _ _ _ h => h) σ H _ ⟨Z, F, ρ, M, _, ag, hf, fun p vs H' F' ds ρ' M' s' ag' n2 n3 n4 nz n5 r h => k.nx _ H' F' _ M' s' (ag'.setO n2 n3 n4 nz r n5) h⟩⟩
noncomputable def wList (fl : WA) : WN := fun ρ M P => fl ρ M fun ds ρ1 M1 => match ds with
  | [.lst xs] => P xs ρ1 M1
  | [.tup xs] => P xs ρ1 M1
  | _ => False
private theorem jn_list {p : Pos} (hg : Gl X "list") (hm : X.mg "list" = none) (ha : JA X [a] fl) (he : starEach [a] X.env = [(false, eval a X.env)] := by rfl) : JN X (.Call (.Name "list" p) [a] [] pos) (wList fl) := ⟨imE (pe_callTy call_list_of hg hm boot_list ha.h (by decide) (by decide) he rfl) fun σ H Q hh => ex5 hh fun Z F ρ M P ag hf k => ⟨Z, F, ρ, M, _, ag, hf, fun vs H1 F1 ds ρ1 M1 s1 ag1 r1 h1 => by
  split at h1
  · obtain ⟨v, rfl, rv⟩ := rps1 r1
    rw [Rp] at rv
    obtain ⟨q, ws, rfl, g1, g2⟩ := rv
    refine ⟨q, ws, rfl, .inl (.inl (rd_same ag1.m.sm g1)), fun p hp => ?_⟩
    obtain ⟨n1, n2, n3, n4, nz, n5, n6⟩ := newN ag1 hp g2
    exact k p ws _ F1 _ ρ1 M1 s1 n1 n2 n3 n4 nz n5 n6 h1
  · obtain ⟨v, rfl, rv⟩ := rps1 r1
    rw [Rp] at rv
    obtain ⟨q, ws, rfl, g1, g2⟩ := rv
    refine ⟨q, ws, rfl, .inr (sqT_same ag1.m.sm g1), fun p hp => ?_⟩
    obtain ⟨n1, n2, n3, n4, nz, n5, n6⟩ := newN ag1 hp g2
    exact k p ws _ F1 _ ρ1 M1 s1 n1 n2 n3 n4 nz n5 n6 h1
  · exact h1.elim⟩⟩
noncomputable def rCat4 : R2 := fun x y H Q => ∃ l b xs zs, x = .ref l ∧ y = .ref b ∧ Rd H l (.lst xs) ∧ Rd H b (.lst zs) ∧ xs.length + zs.length ≤ sizeLine ∧ ∀ p, H p = none → Q (.ref p) (upd H p (.lst (xs ++ zs)))
private theorem op_cat4 : OpR X (binaryOp .Add) rCat4 := by
  intro pins s σ H x y v u Q I rx ry h
  obtain ⟨l, b, xs, zs, rfl, rfl, hH, hB, hz, q⟩ := h
  cases rx
  cases ry
  obtain ⟨z, its, n, r, e⟩ := hH.ok I.hok
  obtain ⟨z2, its2, n2, r2, e2⟩ := hB.ok I.hok
  have hl := r.length
  have hl2 := r2.length
  refine PySem.P.add_list e e2 ?_ (by rw [List.size_toArray, List.size_toArray]; omega)
  have ea : its.toArray ++ its2.toArray = (its ++ its2).toArray := by simp
  rw [ea]
  exact ⟨.ref _, _, I.lnew (t' := s.toks) (r.append r2) (by rw [List.length_append]; omega), rfl, q _ I.fresh⟩
noncomputable def wCat (fa fb : WE) : WN := fun ρ M P => fa ρ M fun x ρ1 M1 => fb ρ1 M1 fun y ρ2 M2 => match x, y with
  | .lst xs, .lst ys => xs.length + ys.length ≤ sizeLine ∧ P (xs ++ ys) ρ2 M2
  | _, _ => False
private theorem jn_cat (ha : JE X a fa) (hb : JE X b fb) : JN X (.BinOp a .Add b pos) (wCat fa fb) := ⟨imE (pe_op op_cat4 ha.h hb.h) fun σ H Q hh => ex5 hh fun Z F ρ M P ag hf k => ⟨Z, F, ρ, M, _, ag, hf, fun v H1 F1 d ρ1 M1 s1 ag1 r1 h1 => ⟨Z, F1, ρ1, M1, _, ag1, h1, fun u H2 F2 d2 ρ2 M2 s2 ag2 r2 h2 => by
  split at h2
  · rename_i xs ys
    have r1 := r1.same s2
    rw [Rp] at r1 r2
    obtain ⟨q, ws, rfl, g1, g2⟩ := r1
    obtain ⟨q', us, rfl, g3, g4⟩ := r2
    refine ⟨q, q', ws, us, rfl, rfl, rd_same ag2.m.sm g1, rd_same ag2.m.sm g3, by rw [← g2.length, ← g4.length]; exact h2.1, fun p hp => ?_⟩
    obtain ⟨n1, n2, n3, n4, nz, n5, n6⟩ := newN ag2 hp (g2.append g4)
    exact k p _ _ F2 _ ρ2 M2 (s1.trans s2) n1 n2 n3 n4 nz n5 n6 h2.2
  · exact h2.elim⟩⟩⟩
noncomputable abbrev WO := Rho → Mm → (Option Int → Rho → Mm → Prop) → Prop
noncomputable def lfO (K : PySem.W.Frag) (f : WO) : TO := fun σ H Q => ∃ Z F ρ M P, Ag K Z F M H ρ σ ∧ f ρ M P ∧ ∀ o H' F' ρ' M', Same F F' → Ag K Z F' M' H' ρ' σ → P o ρ' M' → Q o H'
structure JO (X : Cx) (e : Option Expr) (f : WO) : Prop where
  h : PO X e (lfO X.K f)
noncomputable def wO0 : WO := fun ρ M P => P none ρ M
noncomputable def wO1 (f : WE) : WO := fun ρ M P => f ρ M fun d ρ1 M1 => match d with
  | .int i => P (some i) ρ1 M1
  | _ => False
private theorem imO {e : Option Expr} {t t' : TO} (h : PO X e t) (k : ∀ σ H Q, t' σ H Q → t σ H Q) : PO X e t' := fun pins s σ H Q I q => h pins s σ H Q I (k σ H Q q)
private theorem jo_none : JO X none wO0 := ⟨imO po_none fun σ H Q hh => ex5 hh fun Z F ρ M P ag hf k => k none H F ρ M (Same.refl _) ag hf⟩
private theorem jo_some (h : JE X e fe) : JO X (some e) (wO1 fe) := ⟨imO (po_some h.h) fun σ H Q hh => ex5 hh fun Z F ρ M P ag hf k => ⟨Z, F, ρ, M, _, ag, hf, fun v H1 F1 d ρ1 M1 s1 ag1 r1 h1 => by
  split at h1
  · rw [Rp] at r1
    exact ⟨_, r1, k _ H1 F1 ρ1 M1 s1 ag1 h1⟩
  · exact h1.elim⟩⟩
private theorem Rps.cut {K : PySem.W.Frag} {F : Hp} {ds : List D} {vs : List V} (lo hi : Option Int) (h : Rps K F ds vs) : Rps K F (L3.cutD ds lo hi) (cutV vs lo hi) := by
  unfold L3.cutD cutV
  rw [h.length]
  exact (h.drop _).take _
noncomputable def wSl (fa : WE) (fl fh : WO) : WN := fun ρ M P => fa ρ M fun x ρ1 M1 => fl ρ1 M1 fun lo ρ2 M2 => fh ρ2 M2 fun hi ρ3 M3 => match x with
  | .lst xs => P (L3.cutD xs lo hi) ρ3 M3
  | _ => False
private theorem jn_sl {lo hi : Option Expr} {fl fh : WO} (ha : JE X a fa) (hl : JO X lo fl) (hh : JO X hi fh) : JN X (.Subscript a (.Slice lo hi none p2) pos) (wSl fa fl fh) := ⟨imE (pe_slice sl_list ha.h hl.h hh.h) fun σ H Q hh => ex5 hh fun Z F ρ M P ag hf k => ⟨Z, F, ρ, M, _, ag, hf, fun v H1 F1 d ρ1 M1 s1 ag1 r1 h1 => ⟨Z, F1, ρ1, M1, _, ag1, h1, fun lo H2 F2 ρ2 M2 s2 ag2 h2 => ⟨Z, F2, ρ2, M2, _, ag2, h2, fun hi H3 F3 ρ3 M3 s3 ag3 h3 => by
  split at h3
  · rename_i xs
    have r1 := (r1.same s2).same s3
    rw [Rp] at r1
    obtain ⟨q, ws, rfl, g1, g2⟩ := r1
    refine ⟨q, ws, rfl, .inl (rd_same ag3.m.sm g1), fun p hp => ?_⟩
    obtain ⟨n1, n2, n3, n4, nz, n5, n6⟩ := newN ag3 hp (g2.cut lo hi)
    exact k p _ _ F3 _ ρ3 M3 (s1.trans (s2.trans s3)) n1 n2 n3 n4 nz n5 n6 h3
  · exact h3.elim⟩⟩⟩⟩
end
noncomputable def Sub (M' M : Mm) : Prop := ∀ p o, M' p = some o → M p = some o
private theorem AgM.sub {K : PySem.W.Frag} {Z F H : Hp} {M M' : Mm} (a : AgM K Z F M H) (s : Sub M' M) : AgM K Z F M' H := ⟨a.sm, fun p o h => by
  obtain ⟨z1, z2, z3⟩ := a.zz p o h
  refine ⟨z1, z2, ?_⟩
  cases q : M' p with
  | none => rfl
  | some o => exact absurd ((s p o q).symm.trans z3) (by simp), fun p o h => a.mo p o (s p o h)⟩
noncomputable def startR (N : List Str) (ds : List D) : Rho := ds.map Ent.sh ++ List.replicate (N.length - ds.length) .un
noncomputable def rtD (q : D → Mm → Prop) : U → Mm → Prop := fun u M => match u with
  | .d d => q d M
  | _ => False
noncomputable def endR (P : D → Mm → Prop) : WEnds := ⟨fun _ M' => ∃ M'', Sub M'' M' ∧ P .non M'', rtD fun d M' => ∃ M'', Sub M'' M' ∧ P d M'', fun _ _ => False, fun _ _ => False⟩
private theorem rtD_of {K : PySem.W.Frag} {F : Hp} {q : D → Mm → Prop} {u : U} {v : V} {M : Mm} (h : rtD q u M) (r : RU K F u v) : ∃ d, Rp K F d v ∧ q d M := by
  cases u with
  | d x => rw [RU] at r; exact ⟨x, r, h⟩
  | adr p => exact h.elim
  | ins C ns ds => exact h.elim
  | tup us => exact h.elim
private theorem ag_start {K : PySem.W.Frag} {Z F H : Hp} {M : Mm} {ds : List D} {vs : List V} (N : List Str) (m : AgM K Z F M H) (r : Rps K F ds vs) : Ag K Z F M H (startR N ds) (L2.start N vs) := by
  have hl := r.length
  refine ⟨m, by unfold startR L2.start; simp [hl], fun i e h => ?_, fun i j es fs p n h1 _ _ => ?_⟩
  · unfold startR at h
    by_cases hi : i < ds.length
    · rw [List.getElem?_append_left (by simpa using hi), List.getElem?_map] at h
      rw [List.getElem?_eq_getElem hi] at h
      cases h
      obtain ⟨v, h1, h2⟩ := r.get (List.getElem?_eq_getElem hi)
      refine ⟨v, ?_, h2⟩
      unfold L2.start
      rw [List.getElem?_append_left (by simpa [← hl] using hi), List.getElem?_map, h1]
      rfl
    · rw [List.getElem?_append_right (by simpa using hi), List.getElem?_replicate] at h
      split at h
      · cases h; trivial
      · cases h
  · unfold startR at h1
    by_cases hi : i < ds.length
    · rw [List.getElem?_append_left (by simpa using hi), List.getElem?_map, List.getElem?_eq_getElem hi] at h1
      cases h1
    · rw [List.getElem?_append_right (by simpa using hi), List.getElem?_replicate] at h1
      split at h1 <;> cases h1
private theorem _root_.L3.Def.hasW {P : Program} {w : World} {K : PySem.W.Frag} {mg : Str → Option Value} {base : Heap} {k : Nat} {x : Str} {st : Stmt} {N ps : List Str} {g : WF} (F : Def K mg x st ps) (sc : FnScope N ps (defScope st)) (len : ∀ ds M P, g ds M P → ds.length = ps.length)
    (hbody : ∀ (f : Addr) (cdv : Value) (A : Around) (outer : List Env) (s : Shared) (H : Hp) (E : XK), Room k (A.deeper (envOfC x (defScope st) s.heap.objs.size f cdv)) →
      ∃ G, JSs (cxOf CX0 P w K mg base N x (defScope st) f cdv A outer s H E).nox (defBody st) G ∧ ∀ ds M Q, g ds M Q → G (endR Q) (startR N ds) M) : Has P w K mg base CX0 (k + 1) x ps (spW K g) := by
  refine F.has sc (fun vs H Q E h => ?_) fun f cdv A outer s H vs Q E hr h => ?_
  · obtain ⟨Z, F', M, ds, P, m, r, hg, _⟩ := h
    rw [← r.length]
    exact len ds M P hg
  · obtain ⟨Z, F', M, ds, P', m, r, hg, kk⟩ := h
    obtain ⟨G, hG, hh⟩ := hbody f cdv A outer s H E hr
    refine ⟨_, hG.h, Z, F', startR N ds, M, endR P', ag_start N m r, hh ds M P' hg, ⟨fun σ' H' F2 ρ' M' s' ag' ⟨M2, hs, q⟩ => kk _ H' F2 _ M2 s' (ag'.m.sub hs) (by rw [Rp]) q, fun _ _ _ _ _ _ _ q => q.elim, fun _ _ _ _ _ _ _ q => q.elim, fun v H' F2 u M' s' m' r' q => by
      obtain ⟨d, r', M2, hs, q⟩ := rtD_of (q := fun d M' => ∃ M'', Sub M'' M' ∧ P' d M'') q r'
      exact kk v H' F2 d M2 s' (m'.sub hs) r' q⟩⟩
noncomputable def pur (g : List D → (D → Prop) → Prop) : WF := fun ds M P => g ds fun d => P d M
private theorem Sub.refl (M : Mm) : Sub M M := fun _ _ h => h
private theorem _root_.L3.Def.hasP {P : Program} {w : World} {K : PySem.W.Frag} {mg : Str → Option Value} {base : Heap} {k : Nat} {x : Str} {st : Stmt} {N ps : List Str} {g : List D → (D → Prop) → Prop} (F : Def K mg x st ps) (sc : FnScope N ps (defScope st)) (len : ∀ ds P, g ds P → ds.length = ps.length)
    (hbody : ∀ (f : Addr) (cdv : Value) (A : Around) (outer : List Env) (s : Shared) (H : Hp) (E : XK), Room k (A.deeper (envOfC x (defScope st) s.heap.objs.size f cdv)) →
      ∃ G, JSs (cxOf CX0 P w K mg base N x (defScope st) f cdv A outer s H E).nox (defBody st) G ∧ ∀ ds M Q, g ds (fun d => Q d M) → G (endR Q) (startR N ds) M) : Has P w K mg base CX0 (k + 1) x ps (spW K (pur g)) :=
  F.hasW sc (fun ds M P h => len ds _ h) hbody
end L4
set_option Elab.async false
set_option linter.all false
set_option maxRecDepth 100000
namespace L4
open PySem PySem.Spec PyProof.Rows L2 L3
section
variable {X : Cx} {a b c e o : Expr} {es : List Expr} {pos cpos apos np p : Pos} {fa fb fe fk : WE} {fl : WA} {x : Str}
noncomputable def wAtV (i : Nat) (fk : WE) : WE := fun ρ M P => match ρ[i]? with
  | some (.ow _) => wAtO i fk ρ M P
  | some (.sh d) => fk ρ M fun k ρ1 M1 => RIx d k fun z => P z ρ1 M1
  | _ => False
private theorem j_atV (i : Nat) (hk : JE X b fk) (hN : X.N[i]? = some x := by rfl) (hv : Vis X.env.scope x := by first | exact Or.inl rfl | exact Or.inr (Or.inl rfl) | exact Or.inr (Or.inr rfl)) (hs : PlainIx b := by intro _ _; rfl) (hd : (x == ("__debug__" : Str)) = false := by decide) (hcd : (x == ("__classdict__" : Str)) = false := by decide) :
    JE X (.Subscript (.Name x np) b pos) (wAtV i fk) := by
  have h1 := j_atO (fk := fk) (pe_ix (pos := pos) ix_seq (L2.pv (pos := np) i hN hv hd hcd) hk.h hs)
  have h2 := j_at (pos := pos) (jv (pos := np) i hN hv hd hcd) hk hs
  refine ⟨imE (pe_ix (pos := pos) ix_seq (L2.pv (pos := np) i hN hv hd hcd) hk.h hs) fun σ H Q hh => ex5 hh fun Z F ρ M P ag hf k => ?_⟩
  unfold wAtV at hf
  split at hf
  · obtain ⟨ho, hf⟩ := hf
    obtain ⟨ds0, ho⟩ := isOw_of ho
    obtain ⟨q, vs, e1, e2, e3, e4, e5, e6⟩ := ow_get ag ho
    refine ⟨.ref q, e1, Z, F, ρ, M, _, ag, hf, fun u H2 F2 dk ρ2 M2 s2 ag2 r2 h2 => ?_⟩
    split at h2
    · rename_i ds j hd
      rw [Rp] at r2
      split at h2
      · rename_i d hn
        obtain ⟨q', us, g1, g2, g3, g4, g5, g6⟩ := ow_get ag2 hd
        rw [e1] at g1
        cases g1
        obtain ⟨w, a1, a2⟩ := at_rps g6 hn
        exact .inl ⟨q, us, j, w, rfl, r2, SqL.of g2, a1, k w H2 F2 d ρ2 M2 s2 ag2 a2 h2⟩
      · exact h2.elim
    · exact h2.elim
  · rename_i d hd
    obtain ⟨v, g1, g2⟩ := ag.en i _ hd
    have g1' : σ[i]? = some (some v) := by
      cases q : σ[i]? with
      | none => rw [q] at g1; cases g1
      | some o => rw [q] at g1; simp at g1; rw [g1]
    refine ⟨v, g1', Z, F, ρ, M, _, ag, hf, fun u H2 F2 dk ρ2 M2 s2 ag2 r2 h2 => ?_⟩
    exact w_ix d dk v u F2 H2 Q _ ag2.m.sm (g2.same s2) r2 h2 fun z w F' H' g rp hp => k w H' F' z ρ2 M2 (s2.trans (g.same ag2.m.sm)) (g.ag ag2) rp hp
  · exact hf.elim
noncomputable def wLenV (i : Nat) : WE := fun ρ M P => match ρ[i]? with
  | some (.ow ds) => P (.int ds.length) ρ M
  | some (.sh (.lst ds)) => P (.int ds.length) ρ M
  | some (.sh (.tup ds)) => P (.int ds.length) ρ M
  | _ => False
private theorem j_lenV (i : Nat) (hg : Gl X "len") (hm : X.mg "len" = none) (hN : X.N[i]? = some x := by rfl) (hv : Vis X.env.scope x := by first | exact Or.inl rfl | exact Or.inr (Or.inl rfl) | exact Or.inr (Or.inr rfl)) (hd : (x == ("__debug__" : Str)) = false := by decide) (hcd : (x == ("__classdict__" : Str)) = false := by decide)
    (he : starEach [.Name x np] X.env = [(false, eval (.Name x np) X.env)] := by rfl) : JE X (.Call (.Name "len" p) [.Name x np] [] pos) (wLenV i) := by
  refine ⟨imE (pe_callB (pos := pos) (p := p) call_len_seq hg hm boot_len (pa_cons (L2.pv (pos := np) i hN hv hd hcd) pa_nil he) (by decide) (by decide) he rfl) fun σ H Q hh => ex5 hh fun Z F ρ M P ag hf k => ?_⟩
  have sl : ∀ {v : V}, (σ[i]?).join = some v → σ[i]? = some (some v) := fun {v} g1 => by
    cases q : σ[i]? with
    | none => rw [q] at g1; cases g1
    | some o => rw [q] at g1; simp at g1; rw [g1]
  unfold wLenV at hf
  split at hf
  · rename_i ds hd
    obtain ⟨q, vs, e1, e2, e3, e4, e5, e6⟩ := ow_get ag hd
    refine ⟨.ref q, e1, q, vs, rfl, .inl (SqL.of e2), k _ H F _ ρ M (Same.refl _) ag ?_ hf⟩
    rw [Rp, e6.length]
  · rename_i ds hd
    obtain ⟨v, g1, g2⟩ := ag.en i _ hd
    rw [Rp] at g2
    obtain ⟨q, vs, rfl, g2, g3⟩ := g2
    refine ⟨.ref q, sl g1, q, vs, rfl, .inl (.inl (rd_same ag.m.sm g2)), k _ H F _ ρ M (Same.refl _) ag ?_ hf⟩
    rw [Rp, g3.length]
  · rename_i ds hd
    obtain ⟨v, g1, g2⟩ := ag.en i _ hd
    rw [Rp] at g2
    obtain ⟨q, vs, rfl, g2, g3⟩ := g2
    refine ⟨.ref q, sl g1, q, vs, rfl, .inr (sqT_same ag.m.sm g2), k _ H F _ ρ M (Same.refl _) ag ?_ hf⟩
    rw [Rp, g3.length]
  · exact hf.elim
private theorem j_len (hg : Gl X "len") (hm : X.mg "len" = none) (ha : JA X [a] fl) (he : starEach [a] X.env = [(false, eval a X.env)] := by rfl) : JE X (.Call (.Name "len" p) [a] [] pos) (wCall RLen fl) := j_callB call_len_seq w_len hg hm boot_len ha (by decide) (by decide) he rfl
private theorem j_abs (hg : Gl X "abs") (hm : X.mg "abs" = none) (ha : JA X [a] fl) (he : starEach [a] X.env = [(false, eval a X.env)] := by rfl) : JE X (.Call (.Name "abs" p) [a] [] pos) (wCall RAbs fl) := j_callB call_abs w_abs hg hm boot_abs ha (by decide) (by decide) he rfl
private theorem j_intc (hg : Gl X "int") (hm : X.mg "int" = none) (ha : JA X [a] fl) (he : starEach [a] X.env = [(false, eval a X.env)] := by rfl) : JE X (.Call (.Name "int" p) [a] [] pos) (wCall RInt fl) := j_callTy call_int1 w_int hg hm boot_int ha (by decide) (by decide) he rfl
private theorem js_appW (i : Nat) (he : JE X e fe) (hN : X.N[i]? = some x := by rfl) (hv : Vis X.env.scope x := by first | exact Or.inl rfl | exact Or.inr (Or.inl rfl) | exact Or.inr (Or.inr rfl)) (hd : (x == ("__debug__" : Str)) = false := by decide) (hcd : (x == ("__classdict__" : Str)) = false := by decide)
    (hbase : attributeBase (.Name x np) "append" X.env (eval (.Name x np) X.env) = eval (.Name x np) X.env := by rfl)
    (hfew : ((backTo cpos (starEach [e] X.env)).all (fun x => !x.1) && (backToKw cpos (keywordEach [] X.env)).all (fun x => x.1.isSome) && decide ([e].length + ([] : List Keyword).length + (if ([] : List Keyword).isEmpty then 0 else 1) < 30)) = true := by rfl)
    (hline : (apos.endLine == cpos.line) = true := by rfl) (hs : starEach [e] X.env = [(false, eval e X.env)] := by rfl) (hplain : (backTo cpos (starEach [] X.env)).any (·.1) = false := by rfl)
    (hsw : swapsWith (.Call (.Attribute (.Name x np) "append" apos) [e] [] cpos) none pos.line X.env = pure false := by rfl) : JS X (.Expr (.Call (.Attribute (.Name x np) "append" apos) [e] [] cpos) pos) (wApp i fe) :=
  js_app (ps_expr (pe_bm PySem.F.plainAttrs_list PySem.F.slot_list_append PySem.F.type_list_append mt_append (L2.pv i hN hv hd hcd) (ja_cons he ja_nil hs).h hbase hfew hline hs hplain) hsw)
private theorem js_setIxW (i : Nat) {k : Expr} {spos : Pos} (he : JE X e fe) (hk : JE X k fk) (hN : X.N[i]? = some x := by rfl) (hv : Vis X.env.scope x := by first | exact Or.inl rfl | exact Or.inr (Or.inl rfl) | exact Or.inr (Or.inr rfl)) (hd : (x == ("__debug__" : Str)) = false := by decide) (hcd : (x == ("__classdict__" : Str)) = false := by decide)
    (ha : ∀ v, assign (.Subscript (.Name x np) k spos) X.env v = (do
      let ov ← holding [v] (eval (.Name x np) X.env)
      let iv ← holding [v, ov] (eval k X.env)
      standAt spos
      holding [v, ov, iv] (setItem ov iv v)
      release [v, ov, iv] []) := by intro _; rfl)
    (hs : swapsWithSole [.Subscript (.Name x np) k spos] e pos.line X.env = pure false := by rfl) (hw : swappedStores [.Subscript (.Name x np) k spos] e X.env = pure none := by rfl) (h1 : (assignEach [.Subscript (.Name x np) k spos] X.env).map (·.2) = [assign (.Subscript (.Name x np) k spos) X.env] := by rfl) :
    JS X (.Assign [.Subscript (.Name x np) k spos] e pos) (wSetIx i fk fe) := js_setIx (ps_asg he.h (pg_sub (L2.pv i hN hv hd hcd) hk.h set_list ha) hs hw h1)
structure Cst (K : PySem.W.Frag) (mg : Str → Option Value) (x : Str) (d : D) : Prop where
  ex : ∃ v u, mg x = some u ∧ RelV v u ∧ ∀ F, Rp K F d v
private theorem j_glob {d : D} (C : Cst X.K X.mg x d) (hg : Gl X x) (hd : (x == ("__debug__" : Str)) = false := by decide) : JE X (.Name x pos) (wC d) := by
  obtain ⟨v, u, h1, h2, h3⟩ := C.ex
  exact je_of_c (pe_glob hg h1 h2 hd) h3
end
end L4
set_option Elab.async false
set_option linter.all false
set_option maxRecDepth 100000
namespace L4
open PySem PySem.Spec PyProof.Rows L2 L3
noncomputable def Ite (K : PySem.W.Frag) (a : Addr) : It :=
  ⟨fun i H => ∃ xs x, SqL K H a xs ∧ xs[i]? = some x, fun i H v H' => ∃ p x, v = .ref p ∧ H p = none ∧ H' = upd H p (.tup [.int i, x]) ∧ ∀ xs, SqL K H a xs → xs[i]? = some x, fun i H => ∃ xs, SqL K H a xs ∧ xs.length ≤ i⟩
noncomputable def EnSt (a e it : Addr) (i : Nat) (h : Heap) : Prop := (∃ old, IsEnum h e it i old) ∧ h.IsListIter it a i
private theorem turn_enum {P : Program} {w : World} {K : PySem.W.Frag} {elts : List Expr} {k : Nat} {pos : Pos} {a e it : Addr} (hne : e ≠ it) : Turn P w K (.Tuple elts k pos) (Ite K a) [e, it] e (EnSt a e it) where
  mem := by simp
  obj := fun i h st b' hb => by
    obtain ⟨⟨old, h1⟩, h2⟩ := st
    simp only [List.mem_cons, List.not_mem_nil, or_false] at hb
    rcases hb with rfl | rfl
    · exact ⟨_, h1, fun v z => by cases z⟩
    · obtain ⟨o, q, c, d⟩ := h2
      exact ⟨o, q, fun v z => by rw [d] at z; cases z⟩
  keep := fun i h h' st kp => by
    obtain ⟨⟨old, h1⟩, h2⟩ := st
    exact ⟨⟨old, kp e (by simp) _ h1⟩, h2.at fun o q => kp it (by simp) o q⟩
  item := by
    intro X hP hw hK hc i pins s σ H E I hf st hg
    subst hP hw hK
    obtain ⟨xs, x, hqa, hx⟩ := hg
    obtain ⟨ia, ra, pa, za⟩ := I.list hqa
    obtain ⟨u, hu, ru⟩ := ra.get hx
    obtain ⟨⟨old, h1⟩, h2⟩ := st
    have h20 := h2
    obtain ⟨o2, e2, _⟩ := h20
    refine wpAny_pyNext_enum_item h1 h2 pa.isList (x := u) (by simpa using hu) hne fun h' g1 g2 g3 g4 g5 => ?_
    refine ⟨_, rfl, wpAny_letOwnedTupleGo_enum g1 fun h'' k1 k2 => ?_⟩
    have nz : s.heap.objs.size ≠ e := fun z => Nat.lt_irrefl _ (by have := Heap.lt_size h1; rw [← z] at this; exact this)
    have kA : ∀ b o, b ∉ [e, it] → s.heap.get? b = some o → h''.get? b = some o := fun b o hb q => by
      simp only [List.mem_cons, List.not_mem_nil, or_false, not_or] at hb
      exact k2.extBut b o hb.1 (g5 b o hb.1 hb.2 q)
    have I2 : Inv X pins σ (upd H s.heap.objs.size (.tup [.int i, x])) { s with heap := h'', toks := s.toks + 1 } :=
      turnedT (t' := s.toks + 1) (xs := [.int i, x]) (us := [.int i s.toks, u]) I kA hf (Nat.le_refl _) (by show 2 ≤ sizeLine; decide) (.cons ⟨_, rfl⟩ (.cons ru .nil)) ⟨_, k2.extBut _ _ nz g3, rfl, _, rfl⟩
    refine ⟨.ref s.heap.objs.size, _, I2, rfl, ⟨_, x, rfl, I.fresh, rfl, fun zs hz => by rw [I.list_inj hz hqa]; exact hx⟩, ⟨⟨_, by simpa using k1⟩, g2.at fun o q => k2.extBut _ o (Ne.symm hne) q⟩, fun b hb => ?_⟩
    rw [upd_ne]
    · exact (hf b hb).1
    · intro z
      simp only [List.mem_cons, List.not_mem_nil, or_false] at hb
      rcases hb with rfl | rfl
      · exact nz z.symm
      · exact Nat.ne_of_lt (Heap.lt_size e2) z
  done := by
    intro X hP hw hK hc i pins s σ H E I hf st hg
    subst hP hw hK
    obtain ⟨xs, hqa, hend⟩ := hg
    obtain ⟨ia, ra, pa, za⟩ := I.list hqa
    obtain ⟨⟨old, h1⟩, h2⟩ := st
    have la := ra.length
    refine wpAny_pyNext_enum_end (I.ok.hd hc) h1 h2 pa.isList (by simp; omega) fun h' kk => ⟨rfl, turnedL (t' := s.toks) I (fun b o hb q => ?_) hf⟩
    simp only [List.mem_cons, List.not_mem_nil, or_false, not_or] at hb
    exact kk b o hb.2 q
  self := fun _ _ _ _ _ st h => by
    obtain ⟨⟨old, h1⟩, _⟩ := st
    exact wpAny_pyIter_enum h1 h
private theorem boot_enumerate : bootBuiltins "enumerate" = some (.type "enumerate") := by decide +kernel
section
variable {X : Cx} {a : Expr} {ta : TA} {p pos tpos : Pos} {elts : List Expr} {k : Nat} {fl : WA}
noncomputable def iEnu (K : PySem.W.Frag) (ta : TA) : TI := fun σ H R => ta σ H fun vs H1 => ∃ a, vs = [.ref a] ∧ (∃ xs, SqL K H1 a xs) ∧ R (Ite K a) H1
private theorem pi_enu (hg : Gl X "enumerate") (hm : X.mg "enumerate" = none) (ha : PA X [a] ta) (hs : starEach [a] X.env = [(false, eval a X.env)] := by rfl) : PI X (.Tuple elts k tpos) (.Call (.Name "enumerate" p) [a] [] pos) (iEnu X.K ta) := by
  intro pins s σ H R I h
  refine Call_ (ld_blt I hg hm boot_enumerate (PyProof.Rows.callWith_type1 (thn (ha pos pins s σ H _ I h) fun us s1 ⟨vs, H1, I1, r1, q1⟩ => ?_) hs rfl))
  obtain ⟨a, rfl, ⟨xs, hqa⟩, q⟩ := q1
  obtain ⟨u, rfl, ru⟩ := vals1 r1
  cases ru
  obtain ⟨ia, ra, pa, za⟩ := I1.list hqa
  refine call_enumerate_list pa.isList fun h' he hi hz hk => ?_
  refine wpAny_pyIter_enum (s := { s1 with heap := h' }) he ⟨_, _, _, _, H1, rfl, I1.kept (t' := s1.toks) hk, turn_enum (Nat.succ_ne_self _), ⟨⟨_, he⟩, hi⟩, fun c hc => ?_, q⟩
  have hle : s1.heap.objs.size ≤ c := by
    simp only [List.mem_cons, List.not_mem_nil, or_false] at hc
    rcases hc with rfl | rfl
    · exact Nat.le_add_right _ 1
    · exact Nat.le_refl _
  exact I1.fpOk hle (I1.hok.fresh hle)
noncomputable def enuD (n : Nat) : List D → List D
  | [] => []
  | d :: ds => .tup [.int n, d] :: enuD (n + 1) ds
private theorem enuD_len : ∀ (n : Nat) (ds : List D), (enuD n ds).length = ds.length
  | _, [] => rfl
  | n, d :: ds => by rw [enuD, List.length_cons, enuD_len, List.length_cons]
private theorem enuD_get : ∀ {n : Nat} {ds : List D} {i : Nat} {d : D}, (enuD n ds)[i]? = some d → ∃ x, ds[i]? = some x ∧ d = .tup [.int ((n + i : Nat) : Int), x]
  | _, [], _, _, h => by simp [enuD] at h
  | n, d :: ds, 0, e, h => by simp [enuD] at h; exact ⟨d, rfl, h.symm⟩
  | n, d :: ds, i + 1, e, h => by
    rw [enuD, List.getElem?_cons_succ] at h
    obtain ⟨x, h1, h2⟩ := enuD_get h
    refine ⟨x, by simpa using h1, ?_⟩
    rw [h2]
    congr 4
    omega
noncomputable def wIE (f : WA) : WI := fun ρ M P => f ρ M fun ds ρ1 M1 => match ds with
  | [.lst xs] => P (enuD 0 xs) ρ1 M1
  | _ => False
private theorem ji_enu (hg : Gl X "enumerate") (hm : X.mg "enumerate" = none) (ha : JA X [a] fl) (hs : starEach [a] X.env = [(false, eval a X.env)] := by rfl) : JI X (.Tuple elts k tpos) (.Call (.Name "enumerate" p) [a] [] pos) (wIE fl) := ⟨imI (pi_enu hg hm ha.h hs) fun σ H R hh => ex5 hh fun Z F ρ M P ag hf k => ⟨Z, F, ρ, M, _, ag, hf, fun vs H1 F1 ds ρ1 M1 s1 ag1 r1 h1 => by
  split at h1
  · rename_i xs
    obtain ⟨v, rfl, rv⟩ := rps1 r1
    rw [Rp] at rv
    obtain ⟨q, vs, rfl, g1, g2⟩ := rv
    refine ⟨q, rfl, ⟨vs, .inl (rd_same ag1.m.sm g1)⟩, k _ H1 F1 _ ρ1 M1 s1 ag1 ⟨fun i F' H hi s s' => ?_, fun F' H s s' => ?_, fun i d F' H x H' hd s s' y => ?_⟩ h1⟩
    · rw [enuD_len, g2.length] at hi
      exact ⟨vs, _, .inl (rd_same s' (rd_same s g1)), List.getElem?_eq_getElem hi⟩
    · exact ⟨vs, .inl (rd_same s' (rd_same s g1)), by rw [enuD_len, g2.length]; exact Nat.le_refl _⟩
    · obtain ⟨p, w1, rfl, hp, rfl, y1⟩ := y
      obtain ⟨d1, e1, rfl⟩ := enuD_get hd
      obtain ⟨z1, f1, f2⟩ := g2.get e1
      have q1 := y1 vs (.inl (rd_same s' (rd_same s g1)))
      rw [f1] at q1
      cases q1
      have hF : F' p = none := sub_none s' hp
      have sn : Same F' (upd F' p (.tup [.int i, w1])) := Same.new hF
      refine ⟨_, .nw hp, ?_⟩
      rw [Rp]
      refine ⟨p, _, rfl, SqT.of upd_same, .cons ?_ (.cons ((f2.same s).same sn) .nil)⟩
      rw [Rp, Nat.zero_add]
  · exact h1.elim⟩⟩
end
structure Bl2 (mg : Str → Option Value) : Prop extends Bl mg where
  enumerate : mg "enumerate" = none
  sum : mg "sum" = none
  min : mg "min" = none
  max : mg "max" = none
  sorted : mg "sorted" = none
  reversed : mg "reversed" = none
  dict : mg "dict" = none
end L4
set_option Elab.async false
set_option linter.all false
set_option maxRecDepth 100000
namespace L4
open PySem PySem.Spec PyProof.Rows L2 L3
noncomputable abbrev Pool := Mm → Addr → Prop
noncomputable def spD (K : PySem.W.Frag) (Pl : Pool) (g : List D → (D → Prop) → Prop) : Sp := fun vs H Q _ => ∃ Z F M p vs' ds P, vs = .ref p :: vs' ∧ AgM K Z F M H ∧ Pl M p ∧ Rps K F ds vs' ∧ g ds P ∧ ∀ v H' F' d, Same F F' → AgM K Z F' M H' → Rp K F' d v → P d → Q v H'
noncomputable def wDr (Pl : Pool) (i : Nat) (g : List D → (D → Prop) → Prop) (fl : WA) : WE := fun ρ M P => match ρ[i]? with
  | some (.rf p) => fl ρ M fun ds ρ1 M1 => Pl M1 p ∧ g ds fun d => P d ρ1 M1
  | _ => False
section
variable {X : Cx} {e : Expr} {es : List Expr} {pos np p : Pos} {fl : WA} {x y : Str} {Pl : Pool} {g : List D → (D → Prop) → Prop} {k : Nat} {ps : List Str}
private theorem j_hD (i : Nat) (F : Has X.prog X.w X.K X.mg X.base CX0 k x ps (spD X.K Pl g)) (hr : Room k X.A) (hg : Gl X x) (ha : JA X es fl) (hN : X.N[i]? = some y := by rfl) (hv : Vis X.env.scope y := by first | exact Or.inl rfl | exact Or.inr (Or.inl rfl) | exact Or.inr (Or.inr rfl)) (hd : (y == ("__debug__" : Str)) = false := by decide) (hcd : (y == ("__classdict__" : Str)) = false := by decide)
    (hdb : (x == ("__debug__" : Str)) = false := by decide) (he : starEach (.Name y np :: es) X.env = (false, eval (.Name y np) X.env) :: starEach es X.env := by rfl) (hpl : (backTo pos (starEach es X.env)).any (·.1) = false := by rfl) :
    JE X (.Call (.Name x p) (.Name y np :: es) [] pos) (wDr Pl i g fl) := ⟨imE (pe_h F hr hg pass0 (pa_cons (L2.pv i hN hv hd hcd) ha.h he) hdb he hpl) fun σ H Q hh => ex5 hh fun Z F ρ M P ag hf k => by
  unfold wDr at hf
  split at hf
  · rename_i q hq
    have h0 := ag.en i _ hq
    have hs : σ[i]? = some (some (.ref q)) := by
      have h0 : (σ[i]?).join = some (.ref q) := h0
      cases z : σ[i]? with
      | none => rw [z] at h0; cases h0
      | some o => rw [z] at h0; simp at h0; rw [h0]
    refine ⟨.ref q, hs, Z, F, ρ, M, _, ag, hf, fun vs H1 F1 ds ρ1 M1 s1 ag1 r1 h1 => ?_⟩
    show spD X.K Pl g ((.ref q :: vs) ++ []) H1 Q E0
    rw [List.append_nil]
    exact ⟨_, F1, M1, q, vs, ds, _, rfl, ag1.m.inner, h1.1, r1, h1.2, fun v H' F' d s' m' r h => k v H' F' d ρ1 M1 (s1.trans s') (ag1.back s' m') r h⟩
  · exact hf.elim⟩
end
noncomputable def startD (N : List Str) (p : Addr) (ds : List D) : Rho := .rf p :: (ds.map Ent.sh ++ List.replicate (N.length - (ds.length + 1)) .un)
private theorem ag_startD {K : PySem.W.Frag} {Z F H : Hp} {M : Mm} {p : Addr} {ds : List D} {vs : List V} (N : List Str) (m : AgM K Z F M H) (r : Rps K F ds vs) : Ag K Z F M H (startD N p ds) (L2.start N (.ref p :: vs)) := by
  have hl := r.length
  have ei : L2.start N (.ref p :: vs) = some (.ref p) :: (vs.map some ++ List.replicate (N.length - (vs.length + 1)) none) := by
    unfold L2.start
    simp
  rw [ei]
  have key : ∀ {i : Nat} {e : Ent}, (ds.map Ent.sh ++ List.replicate (N.length - (ds.length + 1)) Ent.un)[i]? = some e → (e = .un) ∨ ∃ d, e = .sh d ∧ ds[i]? = some d := fun {i e} h => by
    by_cases hi : i < ds.length
    · rw [List.getElem?_append_left (by simpa using hi), List.getElem?_map, List.getElem?_eq_getElem hi] at h
      cases h
      exact .inr ⟨_, rfl, List.getElem?_eq_getElem hi⟩
    · rw [List.getElem?_append_right (by simpa using hi), List.getElem?_replicate] at h
      split at h
      · cases h; exact .inl rfl
      · cases h
  refine ⟨m, by unfold startD; simp [hl], fun i e h => ?_, fun i j es fs q n h1 _ _ => ?_⟩
  · cases i with
    | zero => unfold startD at h; simp at h; subst h; rfl
    | succ i =>
      unfold startD at h
      rw [List.getElem?_cons_succ] at h
      rcases key h with rfl | ⟨d, rfl, hd⟩
      · trivial
      · obtain ⟨v, h1, h2⟩ := r.get hd
        refine ⟨v, ?_, h2⟩
        rw [List.getElem?_cons_succ, List.getElem?_append_left (by simp [← hl]; exact (List.getElem?_eq_some_iff.mp hd).1), List.getElem?_map, h1]
        rfl
  · cases i with
    | zero => unfold startD at h1; simp at h1
    | succ i =>
      unfold startD at h1
      rw [List.getElem?_cons_succ] at h1
      rcases key h1 with z | ⟨d, z, _⟩
      · cases z
      · cases z
private theorem _root_.L3.Def.hasD {P : Program} {w : World} {K : PySem.W.Frag} {mg : Str → Option Value} {base : Heap} {k : Nat} {x : Str} {st : Stmt} {N ps : List Str} {Pl : Pool} {g : List D → (D → Prop) → Prop} (F : Def K mg x st ps) (sc : FnScope N ps (defScope st)) (len : ∀ ds P, g ds P → ds.length + 1 = ps.length)
    (hbody : ∀ (f : Addr) (cdv : Value) (A : Around) (outer : List Env) (s : Shared) (H : Hp) (E : XK), Room k (A.deeper (envOfC x (defScope st) s.heap.objs.size f cdv)) →
      ∃ G, JSs (cxOf CX0 P w K mg base N x (defScope st) f cdv A outer s H E).nox (defBody st) G ∧ ∀ p ds M Q, Pl M p → g ds Q → G ⟨fun _ M' => Sub M M' ∧ Q .non, rtD fun d M' => Sub M M' ∧ Q d, fun _ _ => False, fun _ _ => False⟩ (startD N p ds) M) : Has P w K mg base CX0 (k + 1) x ps (spD K Pl g) := by
  refine F.has sc (fun vs H Q E h => ?_) fun f cdv A outer s H vs Q E hr h => ?_
  · obtain ⟨Z, F', M, p, vs', ds, P, rfl, m, hp, r, hg, _⟩ := h
    rw [List.length_cons, ← r.length]
    exact len ds P hg
  · obtain ⟨Z, F', M, p, vs', ds, P', rfl, m, hp, r, hg, kk⟩ := h
    obtain ⟨G, hG, hh⟩ := hbody f cdv A outer s H E hr
    refine ⟨_, hG.h, Z, F', startD N p ds, M, _, ag_startD N m r, hh p ds M P' hp hg, ⟨fun σ' H' F2 ρ' M' s' ag' ⟨hs, q⟩ => kk _ H' F2 _ s' (ag'.m.sub hs) (by rw [Rp]) q, fun _ _ _ _ _ _ _ q => q.elim, fun _ _ _ _ _ _ _ q => q.elim, fun v H' F2 u M' s' m' r' q => by
      obtain ⟨d, r', hs, q⟩ := rtD_of (q := fun d M' => Sub M M' ∧ P' d) q r'
      exact kk v H' F2 d s' (m'.sub hs) r' q⟩⟩
end L4
set_option Elab.async false
set_option linter.all false
set_option maxRecDepth 100000
namespace L4
open PySem PySem.Spec PyProof.Rows L2 L3
section
variable {X : Cx} {a b c e : Expr} {es : List Expr} {pos cpos apos np p p2 : Pos} {fa fb fe fk : WE} {fl : WA} {fn : WN} {x : Str}
noncomputable def bls : List D → Option (List Bool)
  | [] => some []
  | .bl b :: r => (bls r).map (b :: ·)
  | _ :: _ => none
private theorem bls_rps {K : PySem.W.Frag} {F : Hp} : ∀ {ds : List D} {bs : List Bool} {vs : List V}, bls ds = some bs → Rps K F ds vs → vs = bs.map V.bl
  | [], bs, vs, h, r => by rw [Rps] at r; subst r; cases h; rfl
  | .bl b :: ds, bs, vs, h, r => by
    rw [bls] at h
    cases q : bls ds with
    | none => rw [q] at h; cases h
    | some l =>
      rw [q] at h
      cases h
      rw [Rps] at r
      obtain ⟨v, w, rfl, h1, h2⟩ := r
      rw [Rp] at h1
      rw [h1, bls_rps q h2]
      rfl
  | .non :: _, _, _, h, _ => by cases h
  | .int _ :: _, _, _, h, _ => by cases h
  | .str _ :: _, _, _, h, _ => by cases h
  | .tup _ :: _, _, _, h, _ => by cases h
  | .lst _ :: _, _, _, h, _ => by cases h
private theorem bls_map (bs : List Bool) : bls (bs.map D.bl) = some bs := by
  induction bs with
  | nil => rfl
  | cons b r ih => rw [List.map_cons, bls, ih]; rfl
noncomputable def RAll (g : List Bool → Bool) : List D → (D → Prop) → Prop := fun xs P => match xs with
  | [.lst ds] => (match bls ds with
    | some bs => P (.bl (g bs))
    | none => False)
  | _ => False
private theorem w_all {g : List Bool → Bool} : CaW X (fun xs H Q => ∃ (p : Addr) (bs : List Bool), xs = [.ref p] ∧ SqL X.K H p (bs.map V.bl) ∧ Q (.bl (g bs)) H) (RAll g) := by
  intro xs vs F H Q P sm rs h k
  unfold RAll at h
  split at h
  · rename_i ds
    split at h
    · rename_i bs hb
      obtain ⟨v, rfl, r⟩ := rps1 rs
      rw [Rp] at r
      obtain ⟨q, ws, rfl, h1, h2⟩ := r
      have := bls_rps hb h2
      subst this
      exact ⟨q, bs, rfl, .inl (rd_same sm h1), k _ _ F H .rf (by rw [Rp]) h⟩
    · exact h.elim
  · exact h.elim
private theorem j_all (hg : Gl X "all") (hm : X.mg "all" = none) (hc : X.calm = true) (ha : JA X [a] fl) (he : starEach [a] X.env = [(false, eval a X.env)] := by rfl) : JE X (.Call (.Name "all" p) [a] [] pos) (wCall (RAll fun bs => bs.all id) fl) := j_callB (call_all hc) w_all hg hm boot_all ha (by decide) (by decide) he rfl
private theorem j_any (hg : Gl X "any") (hm : X.mg "any" = none) (hc : X.calm = true) (ha : JA X [a] fl) (he : starEach [a] X.env = [(false, eval a X.env)] := by rfl) : JE X (.Call (.Name "any" p) [a] [] pos) (wCall (RAll fun bs => bs.any id) fl) := j_callB (call_any hc) w_all hg hm boot_any ha (by decide) (by decide) he rfl
noncomputable def wRep (fn : WN) (fb : WE) : WN := fun ρ M P => fn ρ M fun ds ρ1 M1 => fb ρ1 M1 fun y ρ2 M2 => match y with
  | .int k => (-(2 ^ 63) ≤ k ∧ k < 2 ^ 63 ∧ ds.length * k.toNat ≤ sizeLine) ∧ P (List.replicate k.toNat ds).flatten ρ2 M2
  | _ => False
private theorem Rps.rep {K : PySem.W.Frag} {F : Hp} {ds : List D} {vs : List V} (h : Rps K F ds vs) : ∀ k : Nat, Rps K F (List.replicate k ds).flatten (List.replicate k vs).flatten
  | 0 => by simp; exact .nil
  | k + 1 => by rw [List.replicate_succ, List.replicate_succ, List.flatten_cons, List.flatten_cons]; exact h.append (Rps.rep h k)
private theorem jn_rep (ha : JN X a fn) (hb : JE X b fb) : JN X (.BinOp a .Mult b pos) (wRep fn fb) := ⟨imE (pe_op op_rep ha.h hb.h) fun σ H Q hh => ex5 hh fun Z F ρ M P ag hf k => ⟨Z, F, ρ, M, _, ag, hf, fun p vs H1 F1 ds ρ1 M1 s1 ag1 n2 n3 n4 nz n5 r1 h1 => by
  have sF : Same F1 (upd F1 p (.lst vs)) := Same.new n3
  refine ⟨Z, upd F1 p (.lst vs), ρ1, M1, _, fz_new ag1 n2 n3 n4 nz n5, h1, fun u H2 F2 d2 ρ2 M2 s2 ag2 r2 h2 => ?_⟩
  split at h2
  · rename_i kk
    rw [Rp] at r2
    have hp : H2 p = some (.lst vs) := ag2.m.sm _ _ (s2 _ _ upd_same)
    have r1 := (r1.same sF).same s2
    refine ⟨p, kk, vs, rfl, r2, hp, h2.1.1, h2.1.2.1, by rw [← r1.length]; exact h2.1.2.2, fun l hl => ?_⟩
    obtain ⟨n1, n2, n3, n4, nz, n5, n6⟩ := newN ag2 hl (r1.rep kk.toNat)
    exact k l _ _ F2 _ ρ2 M2 (s1.trans (sF.trans s2)) n1 n2 n3 n4 nz n5 n6 h2.2
  · exact h2.elim⟩⟩
end
end L4
set_option Elab.async false
set_option linter.all false
set_option maxRecDepth 100000
namespace L4
open PySem PySem.Spec PyProof.Rows L2 L3
section
variable {X : Cx} {e st : Expr} {pos p2 p3 p4 : Pos} {te : TE} {fe : WE}
private theorem Rps.rev {K : PySem.W.Frag} {F : Hp} : ∀ {ds : List D} {vs : List V}, Rps K F ds vs → Rps K F ds.reverse vs.reverse
  | [], vs, h => by rw [Rps] at h; subst h; exact .nil
  | d :: ds, vs, h => by
    rw [Rps] at h
    obtain ⟨v, r, rfl, h1, h2⟩ := h
    rw [List.reverse_cons, List.reverse_cons]
    exact (Rps.rev h2).append (by rw [Rps]; exact ⟨_, _, rfl, h1, .nil⟩)
end
noncomputable def wCut (f : WS) : WS := fun E ρ M => ∃ I : Rho → Mm → Prop, f ⟨I, E.rt, E.bk, E.ct⟩ ρ M ∧ ∀ ρ1 M1, I ρ1 M1 → E.nx ρ1 M1
private theorem js_cut {X : Cx} {st : Stmt} {f : WS} (h : JS X st f) : JS X st (wCut f) := ⟨imS h.h fun D' σ H ⟨Z, F, ρ, M, E, ag, ⟨I, hf, hI⟩, k⟩ => ⟨Z, F, ρ, M, ⟨I, E.rt, E.bk, E.ct⟩, ag, hf, ⟨fun σ' H' F' ρ' M' s ag' i => k.nx σ' H' F' ρ' M' s ag' (hI ρ' M' i), k.bk, k.ct, k.rt⟩⟩⟩
private theorem rng_get {lo : Int} {n i : Nat} {d : D} (h : (rngD lo n)[i]? = some d) : d = .int (lo + (i : Int)) ∧ i < n := by
  have hi := (List.getElem?_eq_some_iff.mp h).1
  unfold rngD at h hi
  rw [List.length_map, List.length_range] at hi
  rw [List.getElem?_map, List.getElem?_range hi] at h
  exact ⟨(Option.some.inj h).symm, hi⟩
private theorem rng_len {lo : Int} {n : Nat} : (rngD lo n).length = n := by simp [rngD]
end L4
set_option Elab.async false
set_option linter.all false
set_option maxRecDepth 100000
namespace L4
open PySem PySem.Spec PyProof.Rows L2 L3
noncomputable def spP (K : PySem.W.Frag) (φ : Int → HO → Prop) (c : Int) (g : List D → (D → Prop) → Prop) : Sp := fun vs H Q _ => ∃ Z F M p vs' ds P b, vs = .ref p :: vs' ∧ AgM K Z F M H ∧ M p = some (.op (φ b)) ∧ c ≤ b ∧ Rps K F ds vs' ∧ g ds P ∧ ∀ v H' F' d, Same F F' → AgM K Z F' (mset M p (.op (φ (b - c)))) H' → Rp K F' d v → P d → Q v H'
noncomputable def wPl (φ : Int → HO → Prop) (c : Int) (i : Nat) (g : List D → (D → Prop) → Prop) (fl : WA) : WE := fun ρ M P => match ρ[i]? with
  | some (.rf p) => fl ρ M fun ds ρ1 M1 => ∃ b, M1 p = some (.op (φ b)) ∧ c ≤ b ∧ g ds fun d => P d ρ1 (mset M1 p (.op (φ (b - c))))
  | _ => False
section
variable {X : Cx} {e : Expr} {es : List Expr} {pos np p : Pos} {fl : WA} {x y : Str} {φ : Int → HO → Prop} {c : Int} {g : List D → (D → Prop) → Prop} {k : Nat} {ps : List Str}
private theorem j_hP (i : Nat) (F : Has X.prog X.w X.K X.mg X.base CX0 k x ps (spP X.K φ c g)) (hr : Room k X.A) (hg : Gl X x) (ha : JA X es fl) (hN : X.N[i]? = some y := by rfl) (hv : Vis X.env.scope y := by first | exact Or.inl rfl | exact Or.inr (Or.inl rfl) | exact Or.inr (Or.inr rfl)) (hd : (y == ("__debug__" : Str)) = false := by decide) (hcd : (y == ("__classdict__" : Str)) = false := by decide)
    (hdb : (x == ("__debug__" : Str)) = false := by decide) (he : starEach (.Name y np :: es) X.env = (false, eval (.Name y np) X.env) :: starEach es X.env := by rfl) (hpl : (backTo pos (starEach es X.env)).any (·.1) = false := by rfl) :
    JE X (.Call (.Name x p) (.Name y np :: es) [] pos) (wPl φ c i g fl) := ⟨imE (pe_h F hr hg pass0 (pa_cons (L2.pv i hN hv hd hcd) ha.h he) hdb he hpl) fun σ H Q hh => ex5 hh fun Z F ρ M P ag hf k => by
  unfold wPl at hf
  split at hf
  · rename_i q hq
    have h0 := ag.en i _ hq
    have hs : σ[i]? = some (some (.ref q)) := by
      have h0 : (σ[i]?).join = some (.ref q) := h0
      cases z : σ[i]? with
      | none => rw [z] at h0; cases h0
      | some o => rw [z] at h0; simp at h0; rw [h0]
    refine ⟨.ref q, hs, Z, F, ρ, M, _, ag, hf, fun vs H1 F1 ds ρ1 M1 s1 ag1 r1 h1 => ?_⟩
    show spP X.K φ c g ((.ref q :: vs) ++ []) H1 Q E0
    rw [List.append_nil]
    obtain ⟨b, h2, h3, h4⟩ := h1
    exact ⟨_, F1, M1, q, vs, ds, _, b, rfl, ag1.m.inner, h2, h3, r1, h4, fun v H' F' d s' m' r h => k v H' F' d ρ1 _ (s1.trans s') (ag1.back s' m') r h⟩
  · exact hf.elim⟩
end
noncomputable def Less (φ : Int → HO → Prop) : Prop := ∀ b b' o, b' ≤ b → φ b o → φ b' o
private theorem AgM.less {K : PySem.W.Frag} {Z F H : Hp} {M : Mm} {p : Addr} {φ : Int → HO → Prop} {b b' : Int} (L : Less φ) (h : b' ≤ b) (a : AgM K Z F M H) (hp : M p = some (.op (φ b))) : AgM K Z F (mset M p (.op (φ b'))) H := by
  refine ⟨a.sm, fun q o e => ?_, fun q o e => ?_⟩
  · obtain ⟨a1, a2, a3⟩ := a.zz q o e
    exact ⟨a1, a2, by rw [mset_ne (fun z => by rw [z, hp] at a3; cases a3)]; exact a3⟩
  · by_cases e1 : q = p
    · subst e1
      rw [mset_same] at e
      cases e
      obtain ⟨f, o, ho, po⟩ := a.mo q _ hp
      exact ⟨f, o, ho, L b b' o h po⟩
    · rw [mset_ne e1] at e
      exact a.mo q o e
private theorem mset_mset {M : Mm} {p : Addr} {o o' : MO} : mset (mset M p o) p o' = mset M p o' := by
  funext q
  by_cases h : q = p
  · subst h; rw [mset_same, mset_same]
  · rw [mset_ne h, mset_ne h, mset_ne h]
private theorem _root_.L3.Def.hasB {P : Program} {w : World} {K : PySem.W.Frag} {mg : Str → Option Value} {base : Heap} {k : Nat} {x : Str} {st : Stmt} {N ps : List Str} {φ : Int → HO → Prop} {c : Int} {g : List D → (D → Prop) → Prop} (L : Less φ) (F : Def K mg x st ps) (sc : FnScope N ps (defScope st)) (len : ∀ ds P, g ds P → ds.length + 1 = ps.length)
    (hbody : ∀ (f : Addr) (cdv : Value) (A : Around) (outer : List Env) (s : Shared) (H : Hp) (E : XK), Room k (A.deeper (envOfC x (defScope st) s.heap.objs.size f cdv)) →
      ∃ G, JSs (cxOf CX0 P w K mg base N x (defScope st) f cdv A outer s H E).nox (defBody st) G ∧ ∀ p ds M b Q, M p = some (.op (φ b)) → c ≤ b → g ds Q → G ⟨fun _ M' => False, rtD fun d M' => (∃ b', b - c ≤ b' ∧ Sub (mset M p (.op (φ b'))) M') ∧ Q d, fun _ _ => False, fun _ _ => False⟩ (startD N p ds) M) : Has P w K mg base CX0 (k + 1) x ps (spP K φ c g) := by
  refine F.has sc (fun vs H Q E h => ?_) fun f cdv A outer s H vs Q E hr h => ?_
  · obtain ⟨Z, F', M, p, vs', ds, P, b, rfl, m, hp, hb, r, hg, _⟩ := h
    rw [List.length_cons, ← r.length]
    exact len ds P hg
  · obtain ⟨Z, F', M, p, vs', ds, P', b, rfl, m, hp, hb, r, hg, kk⟩ := h
    obtain ⟨G, hG, hh⟩ := hbody f cdv A outer s H E hr
    refine ⟨_, hG.h, Z, F', startD N p ds, M, _, ag_startD N m r, hh p ds M b P' hp hb hg, ⟨fun _ _ _ _ _ _ _ q => q.elim, fun _ _ _ _ _ _ _ q => q.elim, fun _ _ _ _ _ _ _ q => q.elim, fun v H' F2 u M' s' m' r' q => ?_⟩⟩
    obtain ⟨d, r', ⟨b', h1, hs⟩, q⟩ := rtD_of (q := fun d M' => (∃ b', b - c ≤ b' ∧ Sub (mset M p (.op (φ b'))) M') ∧ P' d) q r'
    have a1 := m'.sub hs
    have a2 := AgM.less (b' := b - c) L h1 a1 mset_same
    rw [mset_mset] at a2
    exact kk v H' F2 d s' a2 r' q
end L4
set_option Elab.async false
set_option linter.all false
set_option maxRecDepth 100000
namespace L4
open PySem PySem.Spec PyProof.Rows L2 L3
mutual
noncomputable def noL : D → Bool
  | .lst _ => false
  | .tup ds => noLs ds
  | .non => true
  | .bl _ => true
  | .int _ => true
  | .str _ => true
noncomputable def noLs : List D → Bool
  | [] => true
  | d :: ds => noL d && noLs ds
end
mutual
noncomputable def Own (M : Mm) : D → U → List Addr → Prop
  | .lst ds, u, A => ∃ p us B, u = .adr p ∧ M p = some (.own us) ∧ A = p :: B ∧ Owns M ds us B
  | .tup ds, u, A => (u = .d (.tup ds) ∧ noLs ds = true ∧ A = []) ∨ (noLs ds = false ∧ ∃ us, u = .tup us ∧ Owns M ds us A)
  | .non, u, A => u = .d .non ∧ A = []
  | .bl b, u, A => u = .d (.bl b) ∧ A = []
  | .int i, u, A => u = .d (.int i) ∧ A = []
  | .str x, u, A => u = .d (.str x) ∧ A = []
noncomputable def Owns (M : Mm) : List D → List U → List Addr → Prop
  | [], us, A => us = [] ∧ A = []
  | d :: ds, us, A => ∃ u r B C, us = u :: r ∧ A = B ++ C ∧ Own M d u B ∧ Owns M ds r C
end
private theorem Own.leaf {M : Mm} {d : D} (h : noL d = true) : Own M d (.d d) [] := by
  cases d with
  | lst ds => rw [noL] at h; cases h
  | tup ds => rw [noL] at h; rw [Own]; exact .inl ⟨rfl, h, rfl⟩
  | non => rw [Own]; exact ⟨rfl, rfl⟩
  | bl b => rw [Own]; exact ⟨rfl, rfl⟩
  | int b => rw [Own]; exact ⟨rfl, rfl⟩
  | str b => rw [Own]; exact ⟨rfl, rfl⟩
mutual
private theorem Own.mono {M M1 : Mm} : ∀ {d : D} {u : U} {A : List Addr}, (∀ p ∈ A, M1 p = M p) → Own M d u A → Own M1 d u A
  | .lst ds, u, A, e, h => by
    rw [Own] at h ⊢
    obtain ⟨p, us, B, h1, h2, h3, h4⟩ := h
    subst h3
    exact ⟨p, us, B, h1, (e p (by simp)).trans h2, rfl, Owns.mono (fun q hq => e q (by simp [hq])) h4⟩
  | .tup ds, u, A, e, h => by
    rw [Own] at h ⊢
    rcases h with h | ⟨h0, us, h1, h2⟩
    · exact .inl h
    · exact .inr ⟨h0, us, h1, Owns.mono e h2⟩
  | .non, u, A, e, h => by rw [Own] at h ⊢; exact h
  | .bl b, u, A, e, h => by rw [Own] at h ⊢; exact h
  | .int b, u, A, e, h => by rw [Own] at h ⊢; exact h
  | .str b, u, A, e, h => by rw [Own] at h ⊢; exact h
private theorem Owns.mono {M M1 : Mm} : ∀ {d : List D} {u : List U} {A : List Addr}, (∀ p ∈ A, M1 p = M p) → Owns M d u A → Owns M1 d u A
  | [], u, A, e, h => by rw [Owns] at h ⊢; exact h
  | d :: ds, u, A, e, h => by
    rw [Owns] at h ⊢
    obtain ⟨x, r, B, C, h1, h2, h3, h4⟩ := h
    subst h2
    exact ⟨x, r, B, C, h1, rfl, Own.mono (fun q hq => e q (by simp [hq])) h3, Owns.mono (fun q hq => e q (by simp [hq])) h4⟩
end
mutual
private theorem Own.there {M : Mm} : ∀ {d : D} {u : U} {A : List Addr}, Own M d u A → ∀ p ∈ A, ∃ us, M p = some (.own us)
  | .lst ds, u, A, h, q, hq => by
    rw [Own] at h
    obtain ⟨p, us, B, h1, h2, h3, h4⟩ := h
    subst h3
    rcases List.mem_cons.mp hq with rfl | hq
    · exact ⟨us, h2⟩
    · exact Owns.there h4 q hq
  | .tup ds, u, A, h, q, hq => by
    rw [Own] at h
    rcases h with ⟨_, _, h⟩ | ⟨_, us, h1, h2⟩
    · subst h; cases hq
    · exact Owns.there h2 q hq
  | .non, u, A, h, q, hq => by rw [Own] at h; rw [h.2] at hq; cases hq
  | .bl b, u, A, h, q, hq => by rw [Own] at h; rw [h.2] at hq; cases hq
  | .int b, u, A, h, q, hq => by rw [Own] at h; rw [h.2] at hq; cases hq
  | .str b, u, A, h, q, hq => by rw [Own] at h; rw [h.2] at hq; cases hq
private theorem Owns.there {M : Mm} : ∀ {d : List D} {u : List U} {A : List Addr}, Owns M d u A → ∀ p ∈ A, ∃ us, M p = some (.own us)
  | [], u, A, h, q, hq => by rw [Owns] at h; rw [h.2] at hq; cases hq
  | d :: ds, u, A, h, q, hq => by
    rw [Owns] at h
    obtain ⟨x, r, B, C, h1, h2, h3, h4⟩ := h
    subst h2
    rcases List.mem_append.mp hq with hq | hq
    · exact Own.there h3 q hq
    · exact Owns.there h4 q hq
end
section
variable {K : PySem.W.Frag} {Z F G H : Hp} {M : Mm}
mutual
private theorem Own.rp (a : AgM K Z F M H) (s : Same F G) : ∀ {d : D} {u : U} {A : List Addr} {v : V}, Own M d u A → (∀ q ∈ A, G q = H q) → RU K F u v → Rp K G d v
  | .lst ds, u, A, v, h, hA, r => by
    rw [Own] at h
    obtain ⟨p, us, B, rfl, h2, rfl, h4⟩ := h
    rw [RU] at r
    obtain ⟨_, vs, g1, g2⟩ := a.mo p _ h2
    rw [Rp]
    exact ⟨p, vs, r, .inl ((hA p (by simp)).trans g1), Owns.rps a s h4 (fun q hq => hA q (by simp [hq])) g2⟩
  | .tup ds, u, A, v, h, hA, r => by
    rw [Own] at h
    rcases h with ⟨rfl, _, _⟩ | ⟨_, us, rfl, h2⟩
    · rw [RU] at r; exact Rp.same s r
    · rw [RU] at r
      obtain ⟨b, vs, r1, r2, r3⟩ := r
      rw [Rp]
      exact ⟨b, vs, r1, sqT_same s r2, Owns.rps a s h2 hA r3⟩
  | .non, u, A, v, h, hA, r => by rw [Own] at h; rw [h.1, RU] at r; exact Rp.same s r
  | .bl b, u, A, v, h, hA, r => by rw [Own] at h; rw [h.1, RU] at r; exact Rp.same s r
  | .int b, u, A, v, h, hA, r => by rw [Own] at h; rw [h.1, RU] at r; exact Rp.same s r
  | .str b, u, A, v, h, hA, r => by rw [Own] at h; rw [h.1, RU] at r; exact Rp.same s r
private theorem Owns.rps (a : AgM K Z F M H) (s : Same F G) : ∀ {d : List D} {u : List U} {A : List Addr} {v : List V}, Owns M d u A → (∀ q ∈ A, G q = H q) → RUs K F u v → Rps K G d v
  | [], u, A, v, h, hA, r => by rw [Owns] at h; rw [h.1, RUs] at r; rw [Rps]; exact r
  | d :: ds, u, A, v, h, hA, r => by
    rw [Owns] at h
    obtain ⟨x, t, B, C, rfl, rfl, h3, h4⟩ := h
    rw [RUs] at r
    obtain ⟨y, z, r1, r2, r3⟩ := r
    rw [Rps]
    exact ⟨y, z, r1, Own.rp a s h3 (fun q hq => hA q (by simp [hq])) r2, Owns.rps a s h4 (fun q hq => hA q (by simp [hq])) r3⟩
end
end
private theorem Owns.nil {M : Mm} : Owns M [] [] [] := by rw [Owns]; exact ⟨rfl, rfl⟩
private theorem Owns.cons {M : Mm} {d : D} {u : U} {ds : List D} {us : List U} {A B : List Addr} (h : Own M d u A) (k : Owns M ds us B) : Owns M (d :: ds) (u :: us) (A ++ B) := by
  rw [Owns]; exact ⟨u, us, A, B, rfl, rfl, h, k⟩
private theorem Owns.append {M : Mm} : ∀ {ds es : List D} {us ws : List U} {A B : List Addr}, Owns M ds us A → Owns M es ws B → Owns M (ds ++ es) (us ++ ws) (A ++ B)
  | [], es, us, ws, A, B, h, k => by rw [Owns] at h; rw [h.1, h.2]; exact k
  | d :: ds, es, us, ws, A, B, h, k => by
    rw [Owns] at h
    obtain ⟨x, r, A1, C, rfl, rfl, h3, h4⟩ := h
    rw [List.cons_append, List.cons_append, List.append_assoc]
    exact .cons h3 (Owns.append h4 k)
private theorem Owns.leaves {M : Mm} : ∀ {ds : List D}, noLs ds = true → Owns M ds (ds.map U.d) []
  | [], _ => .nil
  | d :: ds, h => by
    rw [noLs, Bool.and_eq_true] at h
    exact Owns.cons (A := []) (B := []) (.leaf h.1) (Owns.leaves h.2)
private theorem Own.mkflat {M : Mm} {ds : List D} {p : Addr} (n : noLs ds = true) (h : M p = some (.own (ds.map U.d))) : Own M (.lst ds) (.adr p) [p] := by
  rw [Own]; exact ⟨p, _, [], rfl, h, rfl, .leaves n⟩
private theorem Owns.length {M : Mm} : ∀ {ds : List D} {us : List U} {A : List Addr}, Owns M ds us A → ds.length = us.length
  | [], us, A, h => by rw [Owns] at h; rw [h.1]; rfl
  | d :: ds, us, A, h => by
    rw [Owns] at h
    obtain ⟨x, r, B, C, rfl, _, _, h4⟩ := h
    rw [List.length_cons, List.length_cons, Owns.length h4]
noncomputable def Fresh (M M' : Mm) (d : D) (u : U) : Prop := ∃ A, Own M' d u A ∧ A.Nodup ∧ (∀ p ∈ A, M p = none) ∧ ∀ q, q ∉ A → M' q = M q
noncomputable def Freshs (M M' : Mm) (ds : List D) (us : List U) : Prop := ∃ A, Owns M' ds us A ∧ A.Nodup ∧ (∀ p ∈ A, M p = none) ∧ ∀ q, q ∉ A → M' q = M q
section
variable {M M1 M2 : Mm} {d : D} {u : U} {ds es : List D} {us ws : List U} {p : Addr}
private theorem Fresh.leaf (h : noL d = true) : Fresh M M d (.d d) := ⟨[], .leaf h, .nil, fun _ h => (nomatch h), fun _ _ => rfl⟩
private theorem Freshs.nil : Freshs M M [] [] := ⟨[], .nil, .nil, fun _ h => (nomatch h), fun _ _ => rfl⟩
private theorem Freshs.leaves (h : noLs ds = true) : Freshs M M ds (ds.map U.d) := ⟨[], .leaves h, .nil, fun _ h => (nomatch h), fun _ _ => rfl⟩
private theorem Freshs.append (h : Freshs M M1 ds us) (k : Freshs M1 M2 es ws) : Freshs M M2 (ds ++ es) (us ++ ws) := by
  obtain ⟨A, h1, h2, h3, h4⟩ := h
  obtain ⟨B, k1, k2, k3, k4⟩ := k
  have dj : ∀ q ∈ A, q ∉ B := fun q hq hb => by
    obtain ⟨_, e⟩ := h1.there q hq
    rw [k3 q hb] at e; cases e
  refine ⟨A ++ B, .append (h1.mono fun q hq => k4 q (dj q hq)) k1, List.nodup_append.mpr ⟨h2, k2, fun a ha b hb e => dj a ha (e ▸ hb)⟩, fun q hq => ?_, fun q hq => ?_⟩
  · rcases List.mem_append.mp hq with hq | hq
    · exact h3 q hq
    · by_cases z : q ∈ A
      · exact h3 q z
      · rw [← h4 q z]; exact k3 q hq
  · rw [List.mem_append, not_or] at hq
    rw [k4 q hq.2, h4 q hq.1]
private theorem Freshs.one (h : Fresh M M1 d u) : Freshs M M1 [d] [u] := by
  obtain ⟨A, h1, h2, h3, h4⟩ := h
  exact ⟨A ++ [], .cons h1 .nil, by rw [List.append_nil]; exact h2, by rw [List.append_nil]; exact h3, by rw [List.append_nil]; exact h4⟩
private theorem Freshs.snoc (h : Freshs M M1 ds us) (k : Fresh M1 M2 d u) : Freshs M M2 (ds ++ [d]) (us ++ [u]) := h.append (.one k)
private theorem Freshs.cons (h : Fresh M M1 d u) (k : Freshs M1 M2 ds us) : Freshs M M2 (d :: ds) (u :: us) := (Freshs.one h).append k
private theorem Fresh.tup (h : Freshs M M1 ds us) (n : noLs ds = false := by rfl) : Fresh M M1 (.tup ds) (.tup us) := by
  obtain ⟨A, h1, h2⟩ := h
  exact ⟨A, by rw [Own]; exact .inr ⟨n, us, rfl, h1⟩, h2⟩
private theorem Fresh.new (h : Freshs M M1 ds us) (hp : M1 p = none) : Fresh M (mset M1 p (.own us)) (.lst ds) (.adr p) := by
  obtain ⟨A, h1, h2, h3, h4⟩ := h
  have np : p ∉ A := fun hq => by
    obtain ⟨_, e⟩ := h1.there p hq
    rw [hp] at e; cases e
  refine ⟨p :: A, by rw [Own]; exact ⟨p, us, A, rfl, mset_same, rfl, h1.mono fun q hq => mset_ne fun z => np (z ▸ hq)⟩, List.nodup_cons.mpr ⟨np, h2⟩, fun q hq => ?_, fun q hq => ?_⟩
  · rcases List.mem_cons.mp hq with rfl | hq
    · rw [← h4 q np]; exact hp
    · exact h3 q hq
  · rw [List.mem_cons, not_or] at hq
    rw [mset_ne hq.1, h4 q hq.2]
private theorem Fresh.newD (h : noLs ds = true) (hp : M p = none) : Fresh M (mset M p (.own (ds.map U.d))) (.lst ds) (.adr p) := .new (.leaves h) hp
private theorem Fresh.push (h : Fresh M M1 (.lst ds) (.adr p)) (k : Fresh M1 M2 d u) (e : M2 p = some (.own us)) : Fresh M (mset M2 p (.own (us ++ [u]))) (.lst (ds ++ [d])) (.adr p) := by
  obtain ⟨A, h1, h2, h3, h4⟩ := h
  obtain ⟨B, k1, k2, k3, k4⟩ := k
  rw [Own] at h1
  obtain ⟨p', us', A', e0, e1, rfl, e2⟩ := h1
  cases e0
  have dj : ∀ q ∈ p :: A', q ∉ B := fun q hq hb => by
    have : Own M1 (.lst ds) (.adr p) (p :: A') := by rw [Own]; exact ⟨p, us', A', rfl, e1, rfl, e2⟩
    obtain ⟨_, e⟩ := this.there q hq
    rw [k3 q hb] at e; cases e
  have np := (List.nodup_cons.mp h2).1
  have eu : us' = us := by
    have := k4 p (dj p (by simp))
    rw [e, e1] at this
    cases this; rfl
  subst eu
  refine ⟨p :: (A' ++ (B ++ [])), by
    rw [Own]
    refine ⟨p, _, _, rfl, mset_same, rfl, .append (e2.mono fun q hq => ?_) (.cons (k1.mono fun q hq => ?_) .nil)⟩
    · rw [mset_ne (show q ≠ p from fun z => np (z ▸ hq)), k4 q (dj q (by simp [hq]))]
    · exact mset_ne fun z => dj p (by simp) (z ▸ hq), ?_, fun q hq => ?_, fun q hq => ?_⟩
  · rw [List.append_nil, ← List.cons_append]
    exact List.nodup_append.mpr ⟨h2, k2, fun a ha b hb e => dj a ha (e ▸ hb)⟩
  · rw [List.append_nil, ← List.cons_append] at hq
    rcases List.mem_append.mp hq with hq | hq
    · exact h3 q hq
    · by_cases z : q ∈ p :: A'
      · exact h3 q z
      · rw [← h4 q z]; exact k3 q hq
  · rw [List.append_nil, ← List.cons_append, List.mem_append, not_or] at hq
    rw [mset_ne (fun z => hq.1 (by simp [z])), k4 q hq.2, h4 q hq.1]
private theorem Fresh.own_of (h : Fresh M M1 (.lst ds) (.adr p)) : ∃ us, M1 p = some (.own us) ∧ us.length = ds.length ∧ ∀ M2 d u, Fresh M1 M2 d u → M2 p = some (.own us) := by
  obtain ⟨A, h1, h2, h3, h4⟩ := h
  rw [Own] at h1
  obtain ⟨p', us', A', e0, e1, rfl, e2⟩ := h1
  cases e0
  refine ⟨us', e1, e2.length.symm, fun M2 d u k => ?_⟩
  obtain ⟨B, k1, k2, k3, k4⟩ := k
  rw [k4 p fun hb => by rw [k3 p hb] at e1; cases e1]
  exact e1
private theorem noLs_map {α : Type} {f : α → D} (h : ∀ a, noL (f a) = true) : ∀ {l : List α}, noLs (l.map f) = true
  | [] => rfl
  | x :: l => by rw [List.map_cons, noLs, h, noLs_map h]; rfl
end
end L4
set_option Elab.async false
set_option linter.all false
set_option maxRecDepth 100000
namespace L4
open PySem PySem.Spec PyProof.Rows L2 L3
noncomputable abbrev WU := Rho → Mm → (U → Rho → Mm → Prop) → Prop
noncomputable abbrev WUA := Rho → Mm → (List U → Rho → Mm → Prop) → Prop
noncomputable def lfU (K : PySem.W.Frag) (f : WU) : TE := fun σ H Q => ∃ Z F ρ M P, Ag K Z F M H ρ σ ∧ f ρ M P ∧ ∀ v H' F' u ρ' M', Same F F' → Ag K Z F' M' H' ρ' σ → RU K F' u v → P u ρ' M' → Q v H'
noncomputable def lfUA (K : PySem.W.Frag) (f : WUA) : TA := fun σ H Q => ∃ Z F ρ M P, Ag K Z F M H ρ σ ∧ f ρ M P ∧ ∀ vs H' F' us ρ' M', Same F F' → Ag K Z F' M' H' ρ' σ → RUs K F' us vs → P us ρ' M' → Q vs H'
noncomputable def lfNU (K : PySem.W.Frag) (f : WUA) : TE := fun σ H Q => ∃ Z F ρ M P, Ag K Z F M H ρ σ ∧ f ρ M P ∧ ∀ p vs H' F' us ρ' M', Same F F' → Ag K Z F' M' H' ρ' σ → H' p = some (.lst vs) → F' p = none → M' p = none → Z p = none → (∀ (j : Nat) (es : List D), ρ'[j]? = some (.ow es) → σ[j]? ≠ some (some (.ref p))) → RUs K F' us vs → P us ρ' M' → Q (.ref p) H'
structure JU (X : Cx) (e : Expr) (f : WU) : Prop where
  h : PE X e (lfU X.K f)
structure JUA (X : Cx) (es : List Expr) (f : WUA) : Prop where
  h : PA X es (lfUA X.K f)
structure JNU (X : Cx) (e : Expr) (f : WUA) : Prop where
  h : PE X e (lfNU X.K f)
section
variable {K : PySem.W.Frag} {Z F H : Hp} {M : Mm} {ρ : Rho} {σ : L2.St} {p : Addr}
private theorem Ag.adopt {vs : List V} {us : List U} (ag : Ag K Z F M H ρ σ) (n2 : H p = some (.lst vs)) (n3 : F p = none) (n4 : M p = none) (nz : Z p = none) (n5 : ∀ (j : Nat) (es : List D), ρ[j]? = some (.ow es) → σ[j]? ≠ some (some (.ref p))) (r : RUs K F us vs) : Ag K Z F (mset M p (.own us)) H ρ σ := by
  refine ⟨⟨ag.m.sm, fun q o e => ?_, fun q o e => ?_⟩, ag.len, fun i e h => ?_, ag.di⟩
  · obtain ⟨z1, z2, z3⟩ := ag.m.zz q o e
    exact ⟨z1, z2, by rw [mset_ne (fun z => by rw [z, nz] at e; cases e)]; exact z3⟩
  · by_cases z : q = p
    · subst z
      rw [mset_same] at e
      cases e
      exact ⟨n3, vs, n2, r⟩
    · rw [mset_ne z] at e; exact ag.m.mo q o e
  · have := ag.en i e h
    cases e with
    | un => trivial
    | sh d => exact this
    | rf p => exact this
    | ut u => exact this
    | ow ds =>
      obtain ⟨q, ws, h1, h2, h3, h4, h6, h5⟩ := this
      have hne : q ≠ p := fun z => by
        subst z
        have hj' : σ[i]? = some (some (.ref q)) := by
          cases y : σ[i]? with
          | none => rw [y] at h1; cases h1
          | some o => rw [y] at h1; simp at h1; rw [h1]
        exact n5 i ds h hj'
      exact ⟨q, ws, h1, h2, h3, by rw [mset_ne hne]; exact h4, h6, h5⟩
private theorem Ag.chgM {us us' : List U} {ws : List V} (ag : Ag K Z F M H ρ σ) (hp : M p = some (.own us)) (r : RUs K F us' ws) : Ag K Z F (mset M p (.own us')) (upd H p (.lst ws)) ρ σ := by
  obtain ⟨f0, vs, h0, r0⟩ := ag.m.mo p _ hp
  have ne : ∀ {q : Addr} {u : HO}, F q = some u → q ≠ p := fun e z => by rw [z, f0] at e; cases e
  refine ⟨⟨fun q u e => by rw [upd_ne (ne e)]; exact ag.m.sm q u e, fun q o e => ?_, fun q o e => ?_⟩, ag.len, fun i e h => ?_, ag.di⟩
  · obtain ⟨z1, z2, z3⟩ := ag.m.zz q o e
    have : q ≠ p := fun z => by rw [z, hp] at z3; cases z3
    exact ⟨by rw [upd_ne this]; exact z1, z2, by rw [mset_ne this]; exact z3⟩
  · by_cases z : q = p
    · subst z
      rw [mset_same] at e
      cases e
      exact ⟨f0, ws, upd_same, r⟩
    · rw [mset_ne z] at e
      obtain ⟨z1, z2⟩ := ag.m.mo q o e
      exact ⟨z1, z2.same (Same.refl _) (upd_ne z)⟩
  · have := ag.en i e h
    cases e with
    | un => trivial
    | sh d => exact this
    | rf p => exact this
    | ut u => exact this
    | ow ds =>
      obtain ⟨q, ws', h1, h2, h3, h4, h6, h5⟩ := this
      have hne : q ≠ p := fun z => by rw [z, hp] at h4; cases h4
      exact ⟨q, ws', h1, by rw [upd_ne hne]; exact h2, h3, by rw [mset_ne hne]; exact h4, h6, h5⟩
end
private theorem sl_of {σ : L2.St} {i : Nat} {v : V} (g1 : (σ[i]?).join = some v) : σ[i]? = some (some v) := by
  cases q : σ[i]? with
  | none => rw [q] at g1; cases g1
  | some o => rw [q] at g1; simp at g1; rw [g1]
section
variable {X : Cx} {a b c e : Expr} {es rest : List Expr} {pos p p2 : Pos} {fa fb fe : WE} {ft : WT} {fl : WA} {fn : WN} {ga gb ge : WU} {gl : WUA} {st : Stmt} {sts : List Stmt} {fs : WS} {x : Str}
noncomputable def uD (f : WE) : WU := fun ρ M P => f ρ M fun d ρ1 M1 => P (.d d) ρ1 M1
private theorem ju_d (h : JE X e fe) : JU X e (uD fe) := ⟨imE h.h fun σ H Q hh => ex5 hh fun Z F ρ M P ag hf k => ⟨Z, F, ρ, M, _, ag, hf, fun v H' F' d ρ' M' s' ag' r h => k v H' F' _ ρ' M' s' ag' (by rw [RU]; exact r) h⟩⟩
noncomputable def uNu (f : WN) : WUA := fun ρ M P => f ρ M fun ds ρ1 M1 => P (ds.map U.d) ρ1 M1
private theorem jnu_n (h : JN X e fn) : JNU X e (uNu fn) := ⟨imE h.h fun σ H Q hh => ex5 hh fun Z F ρ M P ag hf k => ⟨Z, F, ρ, M, _, ag, hf, fun p vs H' F' ds ρ' M' s' ag' n2 n3 n4 nz n5 r h => k p vs H' F' _ ρ' M' s' ag' n2 n3 n4 nz n5 (.ofD r) h⟩⟩
noncomputable def uNew (f : WUA) : WU := fun ρ M P => f ρ M fun us ρ1 M1 => ∀ p, M1 p = none → P (.adr p) ρ1 (mset M1 p (.own us))
private theorem ju_new (h : JNU X e gl) : JU X e (uNew gl) := ⟨imE h.h fun σ H Q hh => ex5 hh fun Z F ρ M P ag hf k => ⟨Z, F, ρ, M, _, ag, hf, fun p vs H' F' us ρ' M' s' ag' n2 n3 n4 nz n5 r h => k _ H' F' _ ρ' _ s' (ag'.adopt n2 n3 n4 nz n5 r) (by rw [RU]) (h p n4)⟩⟩
noncomputable def uV (i : Nat) : WU := fun ρ M P => match ρ[i]? with
  | some (.sh d) => P (.d d) ρ M
  | some (.ut u) => P u ρ M
  | some (.rf p) => P (.adr p) ρ M
  | some (.ow ds) => ∀ p, M p = none → P (.adr p) (ρ.set i (.rf p)) (mset M p (.own (ds.map U.d)))
  | _ => False
private theorem ju_v (i : Nat) {x : Str} (hN : X.N[i]? = some x := by rfl) (hv : Vis X.env.scope x := by first | exact Or.inl rfl | exact Or.inr (Or.inl rfl) | exact Or.inr (Or.inr rfl)) (hd : (x == ("__debug__" : Str)) = false := by decide) (hcd : (x == ("__classdict__" : Str)) = false := by decide) : JU X (.Name x pos) (uV i) := ⟨imE (L2.pv i hN hv hd hcd) fun σ H Q hh => ex5 hh fun Z F ρ M P ag hf k => by
  unfold uV at hf
  split at hf
  · rename_i d hd
    obtain ⟨v, h1, h2⟩ := ag.en i _ hd
    exact ⟨v, sl_of h1, k v H F _ ρ M (Same.refl _) ag (by rw [RU]; exact h2) hf⟩
  · rename_i u hd
    obtain ⟨v, h1, h2⟩ := ag.en i _ hd
    exact ⟨v, sl_of h1, k v H F _ ρ M (Same.refl _) ag h2 hf⟩
  · rename_i q hd
    have h1 : (σ[i]?).join = some (.ref q) := ag.en i _ hd
    exact ⟨.ref q, sl_of h1, k _ H F _ ρ M (Same.refl _) ag (by rw [RU]) hf⟩
  · rename_i ds hd
    obtain ⟨q, vs, h1, h2, h3, h4, h5, h6⟩ := ow_get ag hd
    refine ⟨.ref q, h1, ?_⟩
    have hi : i < ρ.length := (List.getElem?_eq_some_iff.mp hd).1
    have ag1 : Ag X.K Z F M H (ρ.set i (.rf q)) σ := by
      have := ag.put (i := i) (e := .rf q) (o := some (.ref q)) rfl fun _ _ z => nomatch z
      rw [set_id h1] at this
      exact this
    refine k _ H F _ _ _ (Same.refl _) (ag1.adopt h2 h3 h4 h5 (fun j es hj z => ?_) (.ofD h6)) (by rw [RU]) (hf q h4)
    by_cases hji : j = i
    · subst hji; rw [List.getElem?_set_self hi] at hj; cases hj
    · rw [List.getElem?_set_ne (Ne.symm hji)] at hj
      exact ag.di i j ds es q (Ne.symm hji) hd hj h1 z
  · exact hf.elim⟩
noncomputable def uNil : WUA := fun ρ M P => P [] ρ M
noncomputable def uCons (f : WU) (g : WUA) : WUA := fun ρ M P => f ρ M fun d ρ1 M1 => g ρ1 M1 fun ds ρ2 M2 => P (d :: ds) ρ2 M2
private theorem jua_nil : JUA X [] uNil := ⟨imA pa_nil fun σ H Q hh => ex5 hh fun Z F ρ M P ag hf k => k [] H F [] ρ M (Same.refl _) ag .nil hf⟩
private theorem jua_cons (ha : JU X e ge) (hr : JUA X es gl) (hs : starEach (e :: es) X.env = (false, eval e X.env) :: starEach es X.env := by rfl) : JUA X (e :: es) (uCons ge gl) := ⟨imA (pa_cons ha.h hr.h hs) fun σ H Q hh => ex5 hh fun Z F ρ M P ag hf k =>
  ⟨Z, F, ρ, M, _, ag, hf, fun v H1 F1 d1 ρ1 M1 s1 ag1 r1 h1 => ⟨Z, F1, ρ1, M1, _, ag1, h1, fun vs H2 F2 ds ρ2 M2 s2 ag2 r2 h2 => k _ H2 F2 _ ρ2 M2 (s1.trans s2) ag2 (.cons (r1.same s2) r2) h2⟩⟩⟩
noncomputable def uTup (f : WUA) : WU := fun ρ M P => f ρ M fun us ρ1 M1 => us.length ≤ sizeLine ∧ P (.tup us) ρ1 M1
private theorem ju_tup {x1} (h : JUA X es gl) : JU X (.Tuple es x1 pos) (uTup gl) := ⟨imE (pe_tup h.h) fun σ H Q hh => ex5 hh fun Z F ρ M P ag hf k => ⟨Z, F, ρ, M, _, ag, hf, fun vs H1 F1 ds ρ1 M1 s1 ag1 r1 h1 => by
  refine ⟨by rw [← r1.length]; exact h1.1, fun p hp => ?_⟩
  have s2 : Same F1 (upd F1 p (.tup vs)) := Same.new (sub_none ag1.m.sm hp)
  exact k _ _ (upd F1 p (.tup vs)) _ ρ1 M1 (s1.trans s2) (ag1.new hp) (by rw [RU]; exact ⟨p, vs, rfl, SqT.of upd_same, r1.same s2⟩) h1.2⟩⟩
noncomputable def uRet (f : WU) : WS := fun E ρ M => f ρ M fun u _ M1 => E.rt u M1
private theorem js_retU (h : JU X e ge) : JS X (.Return (some e) pos) (uRet ge) := ⟨imS (ps_ret h.h) fun D' σ H hh => ex5 hh fun Z F ρ M E ag hf k => ⟨Z, F, ρ, M, _, ag, hf, fun v H' F' u ρ' M' s' ag' r h => k.rt v H' F' u M' s' ag'.m r h⟩⟩
section
variable {i : Nat} {pos' : Pos}
noncomputable def uSet (i : Nat) (f : WU) : WS := fun E ρ M => f ρ M fun u ρ1 M1 => E.nx (ρ1.set i (.ut u)) M1
private theorem js_setU (hN : X.N.Nodup) (hi : X.N[i]? = some x) (hx : Loc X.env.scope x) (he : JU X e ge) (hs : swapsWith e (some (.Name x pos')) pos.line X.env = pure false := by rfl) (hf : X.fn x = true ∨ X.env.scope.names.lookup x = some .local := by first | exact .inl rfl | exact .inr rfl | assumption) :
    JS X (.Assign [.Name x pos'] e pos) (uSet i ge) := ⟨imS (ps_set hN hi hx he.h hs hf) fun D' σ H hh => ex5 hh fun Z F ρ M E ag hf k => ⟨Z, F, ρ, M, _, ag, hf, fun v H' F' d ρ' M' s' ag' r h => k.nx _ H' F' _ M' s' (ag'.setU r) h⟩⟩
end
noncomputable def uApp (fr fe : WU) : WS := fun E ρ M => fr ρ M fun r ρ1 M1 => match r with
  | .adr p => (∃ us, M1 p = some (.own us)) ∧ fe ρ1 M1 fun u ρ2 M2 => ∃ us, M2 p = some (.own us) ∧ us.length < sizeLine ∧ E.nx ρ2 (mset M2 p (.own (us ++ [u])))
  | _ => False
private theorem js_appU {apos cpos : Pos} (hr : JU X a ga) (he : JU X e ge) (hbase : attributeBase a "append" X.env (eval a X.env) = eval a X.env := by rfl)
    (hfew : ((backTo cpos (starEach [e] X.env)).all (fun x => !x.1) && (backToKw cpos (keywordEach [] X.env)).all (fun x => x.1.isSome) && decide ([e].length + ([] : List Keyword).length + (if ([] : List Keyword).isEmpty then 0 else 1) < 30)) = true := by rfl)
    (hline : (apos.endLine == cpos.line) = true := by rfl) (hs : starEach [e] X.env = [(false, eval e X.env)] := by rfl) (hplain : (backTo cpos (starEach [] X.env)).any (·.1) = false := by rfl)
    (hsw : swapsWith (.Call (.Attribute a "append" apos) [e] [] cpos) none pos.line X.env = pure false := by rfl) : JS X (.Expr (.Call (.Attribute a "append" apos) [e] [] cpos) pos) (uApp ga ge) :=
  ⟨imS (ps_expr (pe_bm PySem.F.plainAttrs_list PySem.F.slot_list_append PySem.F.type_list_append mt_append hr.h (jua_cons he jua_nil hs).h hbase hfew hline hs hplain) hsw) fun D' σ H hh => ex5 hh fun Z F ρ M E ag hf k => ⟨Z, F, ρ, M, _, ag, hf, fun v H1 F1 r ρ1 M1 s1 ag1 r1 h1 => by
    split at h1
    · rename_i q
      obtain ⟨⟨us0, e0⟩, h1⟩ := h1
      rw [RU] at r1
      subst r1
      obtain ⟨_, vs0, g1, g2⟩ := ag1.m.mo _ _ e0
      refine ⟨.inl ⟨rfl, vs0, SqL.of g1⟩, Z, F1, ρ1, M1, fun ws ρ2 M2 => ∃ u us, ws = [u] ∧ M2 q = some (.own us) ∧ us.length < sizeLine ∧ E.nx ρ2 (mset M2 q (.own (us ++ [u]))), ag1, ?_, fun ws H2 F2 us' ρ2 M2 s2 ag2 r2 h2 => ?_⟩
      · show ge ρ1 M1 fun d ρ1 M1 => ∃ u us, [d] = [u] ∧ _
        refine cast (congrArg _ ?_) h1
        funext u ρ2 M2
        refine propext ⟨fun ⟨us, z1, z2, z3⟩ => ⟨u, us, rfl, z1, z2, z3⟩, fun ⟨u', us, z0, z1, z2, z3⟩ => ?_⟩
        cases z0
        exact ⟨us, z1, z2, z3⟩
      · obtain ⟨u, us, rfl, z1, z2, z3⟩ := h2
        rw [RUs] at r2
        obtain ⟨y, t, rfl, r3, r4⟩ := r2
        rw [RUs] at r4
        subst r4
        obtain ⟨_, vs, y1, y2⟩ := ag2.m.mo _ _ z1
        exact ⟨q, vs, y, rfl, rfl, y1, by rw [← y2.length]; exact z2, k.nx σ _ F2 _ _ (s1.trans s2) (ag2.chgM z1 (y2.append (.cons r3 .nil))) z3⟩
    · exact h1.elim⟩⟩
end
end L4
set_option Elab.async false
set_option linter.all false
set_option maxRecDepth 100000
namespace L4
open PySem PySem.Spec PyProof.Rows L2 L3
noncomputable def uComp (fi : WI) (g : WG) (c : WT) (f : WU) (src : List (Option Nat)) : WUA := fun ρ M P => fi ρ M fun ds ρ1 M1 => ∃ I : Nat → List U → Rho → Mm → Prop, I 0 [] (iniR src ρ1) M1 ∧
  (∀ (i : Nat) d out ρ2 M2, ds[i]? = some d → I i out ρ2 M2 → g d ρ2 M2 fun ρ3 M3 => c ρ3 M3 fun b ρ4 M4 => if b = true then f ρ4 M4 fun y ρ5 M5 => out.length < sizeLine ∧ I (i + 1) (out ++ [y]) (clr ρ5) M5 else I (i + 1) out (clr ρ4) M4) ∧
  ∀ out ρ2 M2, I ds.length out ρ2 M2 → P out ρ1 M2
private theorem of_compU {K : PySem.W.Frag} {fi : WI} {fg : WG} {fc : WT} {fe : WU} {src : List (Option Nat)} {g : TG} {tc : TT} {te : TE} (hg : ∀ v σ H Q, lfG K fg v σ H Q → g v σ H Q) (hc : ∀ σ H Q, lfT K fc σ H Q → tc σ H Q) (he : ∀ σ H Q, lfU K fe σ H Q → te σ H Q) :
    ∀ σ H Q, lfNU K (uComp fi fg fc fe src) σ H Q → tComp (lfI K fi) g tc te src σ H Q :=
  of_compX (R := RU K) (RL := RUs K) (fun _ => .nil) (fun s r => r.same s) (fun r => r.length) (fun r q => r.append (.cons q .nil)) hg hc he
section
variable {X : Cx} {a b c e tg elt iter : Expr} {es ifs : List Expr} {pos cpos pos' p2 : Pos} {fi : WI} {fg : WG} {fc : WT} {fe : WU} {scope : Scope} {N : List Str} {src : List (Option Nat)} {x : Str} {k : Nat}
private theorem jnu_lc (N : List Str) (src : List (Option Nat)) (ok : CompOk X scope N src) (hcalm : X.calm = true) (hi : JI X tg iter fi)
    (hg : ∀ pins s2 H2 C fp, JG (cxComp X pins s2 H2 N scope C fp) tg fg) (hc : ∀ pins s2 H2 C fp, JC (cxComp X pins s2 H2 N scope C fp) ifs fc) (he : ∀ pins s2 H2 C fp, JU (cxComp X pins s2 H2 N scope C fp) elt fe)
    (hs : ∀ x, foldedSetIterable iter X.env x = pure x := by intro _; rfl) : JNU X (.ListComp elt [⟨tg, iter, ifs, 0⟩] scope pos) (uComp fi fg fc fe src) :=
  ⟨imE (pe_comp N src ok hcalm hi.h (fun a b c d e => (hg a b c d e).h) (fun a b c d e => (hc a b c d e).h) (fun a b c d e => (he a b c d e).h) hs) (of_compU (fun _ _ _ _ h => h) (fun _ _ _ h => h) fun _ _ _ h => h)⟩
end
noncomputable def spN (K : PySem.W.Frag) (g : List D → (D → Prop) → Prop) : Sp := fun vs H Q _ => ∃ Z F M ds P, AgM K Z F M H ∧ Rps K F ds vs ∧ g ds P ∧ ∀ v H' F' u d M', Same F F' → AgM K Z F' M' H' → RU K F' u v → Fresh M M' d u → P d → Q v H'
noncomputable def uFn (g : List D → (D → Prop) → Prop) (fl : WA) : WU := fun ρ M P => fl ρ M fun ds ρ1 M1 => g ds fun d => ∀ u M2, Fresh M1 M2 d u → P u ρ1 M2
section
variable {X : Cx} {e : Expr} {es : List Expr} {pos p : Pos} {fl : WA} {x : Str} {g : List D → (D → Prop) → Prop} {k : Nat} {ps : List Str}
private theorem j_hN (F : Has X.prog X.w X.K X.mg X.base CX0 k x ps (spN X.K g)) (hr : Room k X.A) (hg : Gl X x) (ha : JA X (e :: es) fl) (hdb : (x == ("__debug__" : Str)) = false := by decide) (he : starEach (e :: es) X.env = (false, eval e X.env) :: starEach es X.env := by rfl) (hpl : (backTo pos (starEach es X.env)).any (·.1) = false := by rfl) :
    JU X (.Call (.Name x p) (e :: es) [] pos) (uFn g fl) := ⟨imE (pe_h F hr hg pass0 ha.h hdb he hpl) fun σ H Q hh => ex5 hh fun Z F ρ M P ag hf k => ⟨Z, F, ρ, M, _, ag, hf, fun vs H1 F1 ds ρ1 M1 s1 ag1 r1 h1 => by
  show spN X.K g (vs ++ []) H1 Q E0
  rw [List.append_nil]
  exact ⟨_, F1, M1, ds, _, ag1.m.inner, r1, h1, fun v H' F' u d M' s' m' r fr h => k v H' F' u ρ1 M' (s1.trans s') (ag1.back s' m') r (h u M' fr)⟩⟩⟩
end
noncomputable def frz (A : List Addr) (H F : Hp) : Hp := fun q => if q ∈ A then H q else F q
private theorem frz_in {A : List Addr} {H F : Hp} {q : Addr} (h : q ∈ A) : frz A H F q = H q := if_pos h
private theorem frz_out {A : List Addr} {H F : Hp} {q : Addr} (h : q ∉ A) : frz A H F q = F q := if_neg h
section
variable {K : PySem.W.Frag} {Z F H : Hp} {M : Mm} {A : List Addr}
private theorem frz_same (a : AgM K Z F M H) (hA : ∀ p ∈ A, ∃ us, M p = some (.own us)) : Same F (frz A H F) := fun q u e => by
  rw [frz_out]; exact e
  intro hq
  obtain ⟨us, h⟩ := hA q hq
  rw [(a.mo q _ h).1] at e; cases e
private theorem frz_sm (a : AgM K Z F M H) : Same (frz A H F) H := fun q u e => by
  by_cases h : q ∈ A
  · rw [frz_in h] at e; exact e
  · rw [frz_out h] at e; exact a.sm q u e
end
private theorem spN.toW {K : PySem.W.Frag} {g : List D → (D → Prop) → Prop} {vs : List V} {H : Hp} {Q : VK} {E : XK} (h : spW K (pur g) vs H Q E) : spN K g vs H Q E := by
  obtain ⟨Z, F, M, ds, P, a, r, hg, k⟩ := h
  refine ⟨Z, F, M, ds, _, a, r, hg, fun v H' F' u d M' s' a' ru fr pd => ?_⟩
  obtain ⟨A, h1, h2, h3, h4⟩ := fr
  have th := h1.there
  refine k v H' (frz A H' F') d M (s'.trans (frz_same a' th)) ⟨frz_sm a', fun q o e => ?_, fun q o e => ?_⟩ (h1.rp a' (frz_same a' th) (fun q hq => frz_in hq) ru) pd
  · obtain ⟨z1, z2, z3⟩ := a'.zz q o e
    have nq : q ∉ A := fun hq => by obtain ⟨_, y⟩ := th q hq; rw [z3] at y; cases y
    exact ⟨z1, by rw [frz_out nq]; exact z2, by rw [← h4 q nq]; exact z3⟩
  · have nq : q ∉ A := fun hq => by rw [h3 q hq] at e; cases e
    obtain ⟨z1, z2⟩ := a'.mo q o ((h4 q nq).trans e)
    exact ⟨by rw [frz_out nq]; exact z1, z2.same (frz_same a' th) rfl⟩
private theorem _root_.L3.Has.toW {P : Program} {w : World} {K : PySem.W.Frag} {mg : Str → Option Value} {base : Heap} {k : Nat} {x : Str} {ps : List Str} {g : List D → (D → Prop) → Prop} (h : Has P w K mg base CX0 k x ps (spN K g)) : Has P w K mg base CX0 k x ps (spW K (pur g)) := by
  obtain ⟨f, fd, F, b, kp, m⟩ := h.ex
  exact ⟨f, fd, F.imp fun vs H Q E h => spN.toW h, b, kp, m⟩
noncomputable def endN (M : Mm) (Q : D → Prop) : WEnds := ⟨fun _ _ => False, fun u M' => ∃ d M'', Sub M'' M' ∧ Fresh M M'' d u ∧ Q d, fun _ _ => False, fun _ _ => False⟩
private theorem _root_.L3.Def.hasN {P : Program} {w : World} {K : PySem.W.Frag} {mg : Str → Option Value} {base : Heap} {k : Nat} {x : Str} {st : Stmt} {N ps : List Str} {g : List D → (D → Prop) → Prop} (F : Def K mg x st ps) (sc : FnScope N ps (defScope st)) (len : ∀ ds P, g ds P → ds.length = ps.length)
    (hbody : ∀ (f : Addr) (cdv : Value) (A : Around) (outer : List Env) (s : Shared) (H : Hp) (E : XK), Room k (A.deeper (envOfC x (defScope st) s.heap.objs.size f cdv)) →
      ∃ G, JSs (cxOf CX0 P w K mg base N x (defScope st) f cdv A outer s H E).nox (defBody st) G ∧ ∀ ds M Q, g ds Q → G (endN M Q) (startR N ds) M) : Has P w K mg base CX0 (k + 1) x ps (spN K g) := by
  refine F.has sc (fun vs H Q E h => ?_) fun f cdv A outer s H vs Q E hr h => ?_
  · obtain ⟨Z, F', M, ds, P, m, r, hg, _⟩ := h
    rw [← r.length]
    exact len ds P hg
  · obtain ⟨Z, F', M, ds, P', m, r, hg, kk⟩ := h
    obtain ⟨G, hG, hh⟩ := hbody f cdv A outer s H E hr
    exact ⟨_, hG.h, Z, F', startR N ds, M, endN M P', ag_start N m r, hh ds M P' hg, ⟨fun _ _ _ _ _ _ _ q => q.elim, fun _ _ _ _ _ _ _ q => q.elim, fun _ _ _ _ _ _ _ q => q.elim, fun v H' F2 u M' s' m' r' ⟨d, M2, hs, fr, q⟩ => kk v H' F2 u d M2 s' (m'.sub hs) r' fr q⟩⟩
noncomputable def uOf : Option Ent → Option U
  | some (.ut u) => some u
  | some (.rf p) => some (.adr p)
  | _ => none
section
variable {X : Cx} {e : Expr} {ft : WT} {i : Nat}
private theorem fr_start {K : PySem.W.Frag} {Z F H : Hp} {M : Mm} {ρ : Rho} {σ : L2.St} {i : Nat} {u : U} {d : D} {A : List Addr} (ag : Ag K Z F M H ρ σ) (hu : uOf ρ[i]? = some u) (ow : Own M d u A) : Ag K (Zof (frz A H F) (fun _ => none) H) (frz A H F) (fun _ => none) H ((clr ρ).set i (.sh d)) σ := by
  have th := ow.there
  have sF := frz_same ag.m th
  have hv : ∃ v, σ[i]? = some (some v) ∧ RU K F u v := by
    cases q : ρ[i]? with
    | none => rw [q] at hu; cases hu
    | some en =>
      rw [q] at hu
      have hen := ag.en i en q
      cases en with
      | ut w => cases hu; obtain ⟨v, h1, h2⟩ := hen; exact ⟨v, sl_of h1, h2⟩
      | rf p => cases hu; exact ⟨.ref p, sl_of hen, by rw [RU]⟩
      | un => cases hu
      | sh d => cases hu
      | ow ds => cases hu
  obtain ⟨v, hv1, hv2⟩ := hv
  have m1 : AgM K (Zof (frz A H F) (fun _ => none) H) (frz A H F) (fun _ => none) H := ⟨frz_sm ag.m, fun p o h => zof_some h, fun _ _ h => (nomatch h)⟩
  have a1 : Ag K (fun _ => none) (frz A H F) (fun _ => none) H (clr ρ) σ := by
    have c0 : Ag K (fun _ => none) F M H (clr ρ) σ := ag_clr ag ⟨ag.m.sm, fun p o e => (nomatch e), ag.m.mo⟩
    refine ⟨⟨frz_sm ag.m, fun p o e => (nomatch e), fun p o e => (nomatch e)⟩, c0.len, fun j en h => ?_, c0.di⟩
    have := c0.en j en h
    cases en with
    | un => trivial
    | sh d => obtain ⟨v, h1, h2⟩ := this; exact ⟨v, h1, Rp.same sF h2⟩
    | rf p => exact this
    | ut u => obtain ⟨v, h1, h2⟩ := this; exact ⟨v, h1, RU.same sF h2⟩
    | ow ds' =>
      exfalso
      unfold clr at h
      rw [List.getElem?_map] at h
      cases q : ρ[j]? with
      | none => rw [q] at h; cases h
      | some en => rw [q] at h; cases en <;> cases h
  have a2 := ag_clr a1 m1
  have ce : clr (clr ρ) = clr ρ := by
    unfold clr
    rw [List.map_map]
    congr 1
    funext en
    cases en <;> rfl
  rw [ce] at a2
  have a3 := a2.set (i := i) (ow.rp ag.m sF (fun q hq => frz_in hq) hv2)
  rw [set_id hv1] at a3
  exact a3
end
end L4
set_option Elab.async false
set_option linter.all false
set_option maxRecDepth 100000
namespace L4
open PySem PySem.Spec PyProof.Rows L2 L3
section
variable {X : Cx} {a b c e : Expr} {es rest : List Expr} {pos p p2 : Pos} {fa fb fe : WE} {ft : WT} {fl : WA} {ga gb ge : WU} {x : Str}
private theorem boot_max : bootBuiltins "max" = some (.builtin "max") := by decide +kernel
private theorem boot_min : bootBuiltins "min" = some (.builtin "min") := by decide +kernel
noncomputable def RMx (g : Int → Int → Int) : List D → (D → Prop) → Prop := fun xs P => match xs with
  | [.int i, .int j] => P (.int (g i j))
  | _ => False
private theorem w_mx {g : Int → Int → Int} : CaW X (fun xs H Q => ∃ i j, xs = [.int i, .int j] ∧ Q (.int (g i j)) H) (RMx g) := by
  intro xs vs F H Q P sm rs h k
  unfold RMx at h
  split at h
  · obtain ⟨v, u, rfl, r1, r2⟩ := rps2 rs
    rw [Rp] at r1 r2
    subst r1 r2
    exact ⟨_, _, rfl, k _ _ F H .rf (by rw [Rp]) h⟩
  · exact h.elim
private theorem j_max2 (hg : Gl X "max") (hm : X.mg "max" = none) (hc : X.calm = true) (ha : JA X [a, b] fl) (he : starEach [a, b] X.env = (false, eval a X.env) :: starEach [b] X.env := by rfl) (hpl : (backTo pos (starEach [b] X.env)).any (·.1) = false := by rfl) : JE X (.Call (.Name "max" p) [a, b] [] pos) (wCall (RMx fun i j => if j > i then j else i) fl) := j_callB (call_max2 hc) w_mx hg hm boot_max ha (by decide) (by decide) he hpl
private theorem j_min2 (hg : Gl X "min") (hm : X.mg "min" = none) (hc : X.calm = true) (ha : JA X [a, b] fl) (he : starEach [a, b] X.env = (false, eval a X.env) :: starEach [b] X.env := by rfl) (hpl : (backTo pos (starEach [b] X.env)).any (·.1) = false := by rfl) : JE X (.Call (.Name "min" p) [a, b] [] pos) (wCall (RMx fun i j => if j < i then j else i) fl) := j_callB (call_min2 hc) w_mx hg hm boot_min ha (by decide) (by decide) he hpl
noncomputable def RTupC : List D → (D → Prop) → Prop := fun xs P => match xs with
  | [.lst ds] => P (.tup ds)
  | [.tup ds] => P (.tup ds)
  | _ => False
private theorem w_tupc : CaW X (fun xs H Q => ∃ p ys, xs = [.ref p] ∧ ((SqL X.K H p ys ∧ ∀ l, H l = none → Q (.ref l) (upd H l (.tup ys))) ∨ (SqT X.K H p ys ∧ Q (.ref p) H))) RTupC := by
  intro xs vs F H Q P sm rs h k
  unfold RTupC at h
  split at h
  · obtain ⟨v, rfl, r⟩ := rps1 rs
    rw [Rp] at r
    obtain ⟨q, ws, rfl, h1, h2⟩ := r
    refine ⟨q, ws, rfl, .inl ⟨.inl (rd_same sm h1), fun l hl => ?_⟩⟩
    have sn : Same F (upd F l (.tup ws)) := Same.new (sub_none sm hl)
    exact k _ _ _ _ (.nw hl) (by rw [Rp]; exact ⟨l, ws, rfl, SqT.of upd_same, h2.same sn⟩) h
  · obtain ⟨v, rfl, r⟩ := rps1 rs
    have r0 := r
    rw [Rp] at r
    obtain ⟨q, ws, rfl, h1, h2⟩ := r
    exact ⟨q, ws, rfl, .inr ⟨sqT_same sm h1, k _ _ F H .rf r0 h⟩⟩
  · exact h.elim
private theorem j_tupc (hg : Gl X "tuple") (hm : X.mg "tuple" = none) (ha : JA X [a] fl) (he : starEach [a] X.env = [(false, eval a X.env)] := by rfl) : JE X (.Call (.Name "tuple" p) [a] [] pos) (wCall RTupC fl) := j_callTy call_tuple_of w_tupc hg hm boot_tuple ha (by decide) (by decide) he rfl
end
noncomputable def spMk (K : PySem.W.Frag) (Pl : Pool) (gk : List D → Prop) (φ : HO → Prop) : Sp := fun vs H Q _ => ∃ Z F M a vs' ds, vs = .ref a :: vs' ∧ AgM K Z F M H ∧ Pl M a ∧ Rps K F ds vs' ∧ gk ds ∧ ∀ p H' F', M p = none → Same F F' → AgM K Z F' (mset M p (.op φ)) H' → Q (.ref p) H'
section
variable {K : PySem.W.Frag} {Z F H : Hp} {M : Mm} {ρ : Rho} {σ : L2.St} {p : Addr}
end
section
variable {X : Cx} {e : Expr} {es : List Expr} {pos np p cpos pos' : Pos} {fl : WA} {x y f : Str} {Pl : Pool} {gk : List D → Prop} {φ : HO → Prop} {k i : Nat} {ps : List Str}
noncomputable def wMk (i j : Nat) (Pl : Pool) (gk : List D → Prop) (φ : HO → Prop) (fl : WA) : WS := fun E ρ M => match ρ[j]? with
  | some (.rf a) => fl ρ M fun ds ρ1 M1 => Pl M1 a ∧ gk ds ∧ ∀ p, M1 p = none → E.nx (ρ1.set i (.rf p)) (mset M1 p (.op φ))
  | _ => False
private theorem js_mk (j : Nat) (F : Has X.prog X.w X.K X.mg X.base CX0 k f ps (spMk X.K Pl gk φ)) (hr : Room k X.A) (hg : Gl X f) (hN : X.N.Nodup) (hi : X.N[i]? = some x) (hx : Loc X.env.scope x) (ha : JA X es fl) (hj : X.N[j]? = some y := by rfl) (hv : Vis X.env.scope y := by first | exact Or.inl rfl | exact Or.inr (Or.inl rfl) | exact Or.inr (Or.inr rfl)) (hd : (y == ("__debug__" : Str)) = false := by decide) (hcd : (y == ("__classdict__" : Str)) = false := by decide)
    (hdb : (f == ("__debug__" : Str)) = false := by decide) (he : starEach (.Name y np :: es) X.env = (false, eval (.Name y np) X.env) :: starEach es X.env := by rfl) (hpl : (backTo cpos (starEach es X.env)).any (·.1) = false := by rfl)
    (hs : swapsWith (.Call (.Name f p) (.Name y np :: es) [] cpos) (some (.Name x pos')) pos.line X.env = pure false := by rfl) (hf : X.fn x = true ∨ X.env.scope.names.lookup x = some .local := by first | exact .inl rfl | exact .inr rfl | assumption) :
    JS X (.Assign [.Name x pos'] (.Call (.Name f p) (.Name y np :: es) [] cpos) pos) (wMk i j Pl gk φ fl) := ⟨imS (ps_set hN hi hx (pe_h F hr hg pass0 (pa_cons (L2.pv j hj hv hd hcd) ha.h he) hdb he hpl) hs hf) fun D' σ H hh => ex5 hh fun Z F ρ M E ag hf k => by
  unfold wMk at hf
  split at hf
  · rename_i q hq
    have hs : σ[j]? = some (some (.ref q)) := sl_of (ag.en j _ hq)
    refine ⟨.ref q, hs, Z, F, ρ, M, _, ag, hf, fun vs H1 F1 ds ρ1 M1 s1 ag1 r1 h1 => ?_⟩
    show spMk X.K Pl gk φ ((.ref q :: vs) ++ []) H1 _ E0
    rw [List.append_nil]
    refine ⟨_, F1, M1, q, vs, ds, rfl, ag1.m.inner, h1.1, r1, h1.2.1, fun p H2 F2 hp s2 m2 => ?_⟩
    exact k.nx _ _ F2 _ _ (s1.trans s2) ((ag1.back s2 m2).put (e := .rf p) rfl fun _ _ z => nomatch z) (h1.2.2 p hp)
  · exact hf.elim⟩
end
end L4
set_option Elab.async false
set_option linter.all false
set_option maxRecDepth 100000
namespace L4
open PySem PySem.Spec PyProof.Rows L2 L3
noncomputable def isScr (ns : List Int) : HO → Prop := fun o => o = .lst (ns.map V.int) ∨ ∃ ob, o = .frz ob (.lst (ns.map V.int))
noncomputable def ScrN (K : PySem.W.Frag) (M : Mm) (p : Addr) (ns : List Int) : Prop := ns.length ≤ 63 ∧ (M p = some (.op (isScr ns)) ∨ ∃ (o : Obj) (its : Array Value) (n : Nat), K.lookup p = some o ∧ o.cls = .type "list" ∧ o.dict = none ∧ o.data = .seq its n ∧ its.size ≤ sizeLine ∧ Vals (ns.map V.int) its.toList)
noncomputable def Scr (K : PySem.W.Frag) : Pool := fun M p => ∃ ns : List Int, ScrN K M p ns
section
variable {K : PySem.W.Frag}
private theorem ScrN.sq {Z F H : Hp} {M : Mm} {p : Addr} {ns : List Int} (ag : AgM K Z F M H) (h : ScrN K M p ns) : SqL K H p (ns.map V.int) := by
  obtain ⟨l, h | h⟩ := h
  · obtain ⟨_, o, ho, e⟩ := ag.mo p _ h
    rcases e with rfl | ⟨ob, rfl⟩
    · exact .inl (.inl ho)
    · exact .inl (.inr ⟨ob, ho⟩)
  · exact .inr h
private theorem Scr.start {H : Hp} {a : Addr} {ns : List Int} {N : List Str} (l : ns.length ≤ 63) (h : SqL K H a (ns.map V.int)) : ∃ M, Ag K (fun _ => none) (fun _ => none) M H (startD N a []) (L2.start N [.ref a]) ∧ ScrN K M a ns := by
  rcases h with h | h
  · refine ⟨mset (fun _ => none) a (.op (isScr ns)), ag_startD N ⟨fun _ _ e => (nomatch e), fun _ _ e => (nomatch e), fun b o e => ?_⟩ .nil, l, .inl mset_same⟩
    by_cases e1 : b = a
    · subst e1
      rw [mset_same] at e
      cases e
      rcases h with h | ⟨ob, h⟩
      · exact ⟨rfl, _, h, .inl rfl⟩
      · exact ⟨rfl, _, h, .inr ⟨ob, rfl⟩⟩
    · rw [mset_ne e1] at e; cases e
  · exact ⟨fun _ => none, ag_startD N ⟨fun _ _ e => (nomatch e), fun _ _ e => (nomatch e), fun b o e => (nomatch e)⟩ .nil, l, .inr h⟩
end
section
variable {X : Cx} {a b c e : Expr} {es : List Expr} {pos np p cpos pos' spos : Pos} {fa fb fe fk : WE} {fl : WA} {ge : WU} {x y : Str}
noncomputable def wLenS (K : PySem.W.Frag) (i : Nat) : WE := fun ρ M P => match ρ[i]? with
  | some (.rf q) => ∃ ns, ScrN K M q ns ∧ P (.int ns.length) ρ M
  | _ => False
private theorem j_lenS (i : Nat) (hg : Gl X "len") (hm : X.mg "len" = none) (hN : X.N[i]? = some x := by rfl) (hv : Vis X.env.scope x := by first | exact Or.inl rfl | exact Or.inr (Or.inl rfl) | exact Or.inr (Or.inr rfl)) (hd : (x == ("__debug__" : Str)) = false := by decide) (hcd : (x == ("__classdict__" : Str)) = false := by decide)
    (he : starEach [.Name x np] X.env = [(false, eval (.Name x np) X.env)] := by rfl) : JE X (.Call (.Name "len" p) [.Name x np] [] pos) (wLenS X.K i) := by
  refine ⟨imE (pe_callB (pos := pos) (p := p) call_len_seq hg hm boot_len (pa_cons (L2.pv (pos := np) i hN hv hd hcd) pa_nil he) (by decide) (by decide) he rfl) fun σ H Q hh => ex5 hh fun Z F ρ M P ag hf k => ?_⟩
  unfold wLenS at hf
  split at hf
  · rename_i q hq
    obtain ⟨ns, hs, hp⟩ := hf
    refine ⟨.ref q, sl_of (ag.en i _ hq), q, _, rfl, .inl (hs.sq ag.m), k _ H F _ ρ M (Same.refl _) ag ?_ hp⟩
    rw [Rp, List.length_map]
  · exact hf.elim
noncomputable def wAtS (K : PySem.W.Frag) (i : Nat) (fk : WE) : WE := fun ρ M P => match ρ[i]? with
  | some (.rf q) => fk ρ M fun k ρ1 M1 => match k with
    | .int j => ∃ ns c, ScrN K M1 q ns ∧ atI ns j = some c ∧ P (.int c) ρ1 M1
    | _ => False
  | _ => False
private theorem at_int {ns : List Int} {j c : Int} (h : atI ns j = some c) : atI (ns.map V.int) j = some (.int c) := by
  unfold atI at h ⊢
  rw [List.length_map]
  cases e : ixN ns.length j with
  | none => rw [e] at h; cases h
  | some i =>
    rw [e] at h
    show (ns.map V.int)[i]? = some (.int c)
    have h : ns[i]? = some c := h
    rw [List.getElem?_map, h]; rfl
private theorem j_atS (i : Nat) (hk : JE X b fk) (hN : X.N[i]? = some x := by rfl) (hv : Vis X.env.scope x := by first | exact Or.inl rfl | exact Or.inr (Or.inl rfl) | exact Or.inr (Or.inr rfl)) (hs : PlainIx b := by intro _ _; rfl) (hd : (x == ("__debug__" : Str)) = false := by decide) (hcd : (x == ("__classdict__" : Str)) = false := by decide) :
    JE X (.Subscript (.Name x np) b pos) (wAtS X.K i fk) := by
  refine ⟨imE (pe_ix (pos := pos) ix_seq (L2.pv (pos := np) i hN hv hd hcd) hk.h hs) fun σ H Q hh => ex5 hh fun Z F ρ M P ag hf k => ?_⟩
  unfold wAtS at hf
  split at hf
  · rename_i q hq
    refine ⟨.ref q, sl_of (ag.en i _ hq), Z, F, ρ, M, _, ag, hf, fun u H2 F2 dk ρ2 M2 s2 ag2 r2 h2 => ?_⟩
    split at h2
    · rename_i j
      rw [Rp] at r2
      obtain ⟨ns, c, hs, hc, hp⟩ := h2
      exact .inl ⟨q, _, j, .int c, rfl, r2, hs.sq ag2.m, at_int hc, k _ H2 F2 _ ρ2 M2 s2 ag2 (by rw [Rp]) hp⟩
    · exact h2.elim
  · exact hf.elim
end
private theorem ScrN.mono {K : PySem.W.Frag} {M M' : Mm} {p : Addr} {ns : List Int} (s : Sub M M') (h : ScrN K M p ns) : ScrN K M' p ns := by
  obtain ⟨l, h | h⟩ := h
  · exact ⟨l, .inl (s _ _ h)⟩
  · exact ⟨l, .inr h⟩
private theorem Sub.mset {M M' : Mm} {q : Addr} {o : MO} (s : Sub M M') (h : M q = none) : Sub M (mset M' q o) := fun p u e => by
  rw [mset_ne (fun z => by rw [z, h] at e; cases e)]; exact s p u e
end L4
set_option Elab.async false
set_option linter.all false
set_option maxRecDepth 100000
namespace L4
open PySem PySem.Spec PyProof.Rows L2 L3
noncomputable def vOf : D → Option V
  | .int i => some (.int i)
  | .bl b => some (.bl b)
  | _ => none
private theorem vOf_rp {K : PySem.W.Frag} {F : Hp} {d : D} {v u : V} (h : vOf d = some v) (r : Rp K F d u) : u = v := by
  cases d with
  | int i => rw [Rp] at r; cases h; exact r
  | bl i => rw [Rp] at r; cases h; exact r
  | _ => cases h
section
variable {X : Cx} {e1 e2 e3 : Expr} {f1 f2 f3 : WE} {k1 k2 k3 : Str} {j1 j2 j3 : Nat} {pos p1 p2 p3 rpos : Pos}
noncomputable def wRetD3 (φ : HO → Prop) (k1 k2 k3 : Str) (f1 f2 f3 : WE) : WS := fun E ρ M => f1 ρ M fun d1 ρ1 M1 => f2 ρ1 M1 fun d2 ρ2 M2 => f3 ρ2 M2 fun d3 ρ3 M3 => ∃ v1 v2 v3, vOf d1 = some v1 ∧ vOf d2 = some v2 ∧ vOf d3 = some v3 ∧ φ (.dK (mergeK [] [(.inr k1, v1), (.inr k2, v2), (.inr k3, v3)])) ∧ ∀ p, M3 p = none → E.rt (.adr p) (mset M3 p (.op φ))
private theorem js_retD3 (φ : HO → Prop) (h1 : JE X e1 f1) (h2 : JE X e2 f2) (h3 : JE X e3 f3) : JS X (.Return (some (.Dict [some (.Constant (.str k1) j1 p1), some (.Constant (.str k2) j2 p2), some (.Constant (.str k3) j3 p3)] [e1, e2, e3] pos)) rpos) (wRetD3 φ k1 k2 k3 f1 f2 f3) :=
  ⟨imS (ps_ret (pe_disp (pps_cons pe_str h1.h (pps_cons pe_str h2.h (pps_cons pe_str h3.h pps_nil))) rfl rfl (by simp) (by show 3 ≤ 15; decide))) fun D' σ H hh => ex5 hh fun Z F ρ M E ag hf k => by
    intro p hp
    have zp : Z p = none := by
      cases q : Z p with
      | none => rfl
      | some o => have := (ag.m.zz p o q).1; rw [hp] at this; cases this
    have mp : M p = none := by
      cases q : M p with
      | none => rfl
      | some o =>
        obtain ⟨_, k⟩ := ag.m.mo p o q
        obtain ⟨u, hu⟩ := k.there
        rw [hp] at hu; cases hu
    have fp := sub_none ag.m.sm hp
    have a0 := ag.newO (o := .dK []) hp
    have az : Ag X.K (upd Z p (.dK [])) F M (upd H p (.dK [])) ρ σ := by
      refine ⟨⟨a0.m.sm, fun q o e => ?_, a0.m.mo⟩, a0.len, fun i en h => ?_, a0.di⟩
      · by_cases z : q = p
        · subst z; rw [upd_same] at e; cases e; exact ⟨upd_same, fp, mp⟩
        · rw [upd_ne z] at e; exact a0.m.zz q o e
      · have := a0.en i en h
        cases en with
        | un => trivial
        | sh d => exact this
        | rf p => exact this
        | ut u => exact this
        | ow ds =>
          obtain ⟨q, ws, g1, g2, g3, g4, g6, g5⟩ := ag.en i _ h
          have hne : q ≠ p := fun z => by rw [z, hp] at g2; cases g2
          exact ⟨q, ws, g1, by rw [upd_ne hne]; exact g2, g3, g4, by rw [upd_ne hne]; exact g6, g5⟩
    refine ⟨upd Z p (.dK []), F, ρ, M, _, az, hf, fun v1 H1 F1 d1 ρ1 M1 s1 ag1 r1 g1 => ⟨upd Z p (.dK []), F1, ρ1, M1, _, ag1, g1, fun v2 H2 F2 d2 ρ2 M2 s2 ag2 r2 g2 => ⟨upd Z p (.dK []), F2, ρ2, M2, _, ag2, g2, fun v3 H3 F3 d3 ρ3 M3 s3 ag3 r3 g3 => ?_⟩⟩⟩
    obtain ⟨w1, w2, w3, e1, e2, e3, hφ, hk⟩ := g3
    have := vOf_rp e1 r1
    subst this
    have := vOf_rp e2 r2
    subst this
    have := vOf_rp e3 r3
    subst this
    obtain ⟨y1, y2, y3⟩ := ag3.m.zz p _ upd_same
    refine ⟨y1, [(.inr k1, v1), (.inr k2, v2), (.inr k3, v3)], rfl, by show 3 ≤ 15; decide, k.rt _ _ F3 (.adr p) (mset M3 p (.op φ)) (s1.trans (s2.trans s3)) ⟨fun q u e => ?_, fun q o e => ?_, fun q o e => ?_⟩ (by rw [RU]) (hk p y3)⟩
    · rw [upd_ne (fun z => by rw [z, y2] at e; cases e)]; exact ag3.m.sm q u e
    · have z : q ≠ p := fun z => by rw [z, zp] at e; cases e
      obtain ⟨x1, x2, x3⟩ := ag3.m.zz q o (by rw [upd_ne z]; exact e)
      exact ⟨by rw [upd_ne z]; exact x1, x2, by rw [mset_ne z]; exact x3⟩
    · by_cases z : q = p
      · subst z; rw [mset_same] at e; cases e; exact ⟨y2, _, upd_same, hφ⟩
      · rw [mset_ne z] at e
        obtain ⟨x1, x2⟩ := ag3.m.mo q o e
        exact ⟨x1, x2.same (Same.refl _) (upd_ne z)⟩⟩
end
private theorem _root_.L3.Def.hasMkO {P : Program} {w : World} {K : PySem.W.Frag} {mg : Str → Option Value} {base : Heap} {k : Nat} {x : Str} {st : Stmt} {N ps : List Str} {Pl : Pool} {gk : List D → Prop} {φ : HO → Prop} (F : Def K mg x st ps) (sc : FnScope N ps (defScope st)) (len : ∀ ds, gk ds → ds.length + 1 = ps.length)
    (hbody : ∀ (f : Addr) (cdv : Value) (A : Around) (outer : List Env) (s : Shared) (H : Hp) (E : XK), Room k (A.deeper (envOfC x (defScope st) s.heap.objs.size f cdv)) →
      ∃ G, JSs (cxOf CX0 P w K mg base N x (defScope st) f cdv A outer s H E).nox (defBody st) G ∧ ∀ p ds M, Pl M p → gk ds → G ⟨fun _ _ => False, fun u M' => ∃ q, u = .adr q ∧ M q = none ∧ Sub (mset M q (.op φ)) M', fun _ _ => False, fun _ _ => False⟩ (startD N p ds) M) : Has P w K mg base CX0 (k + 1) x ps (spMk K Pl gk φ) := by
  refine F.has sc (fun vs H Q E h => ?_) fun f cdv A outer s H vs Q E hr h => ?_
  · obtain ⟨Z, F', M, p, vs', ds, rfl, m, hp, r, hg, _⟩ := h
    rw [List.length_cons, ← r.length]
    exact len ds hg
  · obtain ⟨Z, F', M, p, vs', ds, rfl, m, hp, r, hg, kk⟩ := h
    obtain ⟨G, hG, hh⟩ := hbody f cdv A outer s H E hr
    refine ⟨_, hG.h, Z, F', startD N p ds, M, _, ag_startD N m r, hh p ds M hp hg, ⟨fun _ _ _ _ _ _ _ q => q.elim, fun _ _ _ _ _ _ _ q => q.elim, fun _ _ _ _ _ _ _ q => q.elim, fun v H' F2 u M' s' m' r' ⟨q, e, hq, hs⟩ => ?_⟩⟩
    subst e
    rw [RU] at r'
    subst r'
    exact kk q H' F2 hq s' (m'.sub hs)
section
variable {X : Cx} {es es2 : List Expr} {pos np p p2 cpos : Pos} {fl fl2 : WA} {x y f : Str} {Pl : Pool} {gk : List D → Prop} {φ : Int → HO → Prop} {g : List D → (D → Prop) → Prop} {k k' : Nat} {b c : Int} {ps ps' : List Str}
noncomputable def wPM (j : Nat) (Pl : Pool) (gk : List D → Prop) (φ : Int → HO → Prop) (b c : Int) (g : List D → (D → Prop) → Prop) (fl fl2 : WA) : WE := fun ρ M P => match ρ[j]? with
  | some (.rf a) => fl ρ M fun ds ρ1 M1 => Pl M1 a ∧ gk ds ∧ ∀ q, M1 q = none → fl2 ρ1 (mset M1 q (.op (φ b))) fun ds2 ρ2 M2 => M2 q = some (.op (φ b)) ∧ c ≤ b ∧ g ds2 fun d => P d ρ2 (mset M2 q (.op (φ (b - c))))
  | _ => False
private theorem j_hPM (j : Nat) (F1 : Has X.prog X.w X.K X.mg X.base CX0 k x ps (spMk X.K Pl gk (φ b))) (F2 : Has X.prog X.w X.K X.mg X.base CX0 k' f ps' (spP X.K φ c g)) (hr1 : Room k X.A) (hr2 : Room k' X.A) (hg1 : Gl X x) (hg2 : Gl X f) (ha : JA X es fl) (ha2 : JA X es2 fl2) (hj : X.N[j]? = some y := by rfl) (hv : Vis X.env.scope y := by first | exact Or.inl rfl | exact Or.inr (Or.inl rfl) | exact Or.inr (Or.inr rfl)) (hd : (y == ("__debug__" : Str)) = false := by decide) (hcd : (y == ("__classdict__" : Str)) = false := by decide)
    (hdb : (x == ("__debug__" : Str)) = false := by decide) (hdb2 : (f == ("__debug__" : Str)) = false := by decide) (he : starEach (.Name y np :: es) X.env = (false, eval (.Name y np) X.env) :: starEach es X.env := by rfl) (hpl : (backTo cpos (starEach es X.env)).any (·.1) = false := by rfl)
    (he2 : starEach (.Call (.Name x p) (.Name y np :: es) [] cpos :: es2) X.env = (false, eval (.Call (.Name x p) (.Name y np :: es) [] cpos) X.env) :: starEach es2 X.env := by rfl) (hpl2 : (backTo pos (starEach es2 X.env)).any (·.1) = false := by rfl) :
    JE X (.Call (.Name f p2) (.Call (.Name x p) (.Name y np :: es) [] cpos :: es2) [] pos) (wPM j Pl gk φ b c g fl fl2) := ⟨imE (pe_h F2 hr2 hg2 pass0 (pa_cons (pe_h F1 hr1 hg1 pass0 (pa_cons (L2.pv j hj hv hd hcd) ha.h he) hdb he hpl) ha2.h he2) hdb2 he2 hpl2) fun σ H Q hh => ex5 hh fun Z F ρ M P ag hf k => by
  unfold wPM at hf
  split at hf
  · rename_i q hq
    refine ⟨.ref q, sl_of (ag.en j _ hq), Z, F, ρ, M, _, ag, hf, fun vs H1 F1 ds ρ1 M1 s1 ag1 r1 h1 => ?_⟩
    show spMk X.K Pl gk (φ b) ((.ref q :: vs) ++ []) H1 _ E0
    rw [List.append_nil]
    refine ⟨_, F1, M1, q, vs, ds, rfl, ag1.m.inner, h1.1, r1, h1.2.1, fun q2 H2 F2 hq2 s2 m2 => ?_⟩
    refine ⟨Z, F2, ρ1, _, _, ag1.back s2 m2, h1.2.2 q2 hq2, fun vs2 H3 F3 ds2 ρ3 M3 s3 ag3 r3 h3 => ?_⟩
    show spP X.K φ c g ((.ref q2 :: vs2) ++ []) H3 Q E0
    rw [List.append_nil]
    exact ⟨_, F3, M3, q2, vs2, ds2, _, b, rfl, ag3.m.inner, h3.1, h3.2.1, r3, h3.2.2, fun v H' F' d s' m' r h => k v H' F' d ρ3 _ (s1.trans (s2.trans (s3.trans s'))) (ag3.back s' m') r h⟩
  · exact hf.elim⟩
end
end L4
set_option Elab.async false
set_option linter.all false
set_option maxRecDepth 100000
namespace L4
open PySem PySem.Spec PyProof.Rows L2 L3
noncomputable def drp (A : List Addr) (F : Hp) : Hp := fun q => if q ∈ A then none else F q
private theorem drp_in {A : List Addr} {F : Hp} {q : Addr} (h : q ∈ A) : drp A F q = none := if_pos h
private theorem drp_out {A : List Addr} {F : Hp} {q : Addr} (h : q ∉ A) : drp A F q = F q := if_neg h
section
variable {K : PySem.W.Frag} {F : Hp} {A : List Addr}
private theorem sqT_drp (hA : ∀ q ∈ A, ∃ vs, F q = some (.lst vs)) {a : Addr} {vs : List V} (h : SqT K F a vs) : SqT K (drp A F) a vs := by
  rcases h with h | h
  · refine .inl ?_
    have na : a ∉ A := fun z => by
      obtain ⟨ws, e⟩ := hA a z
      rcases h with h | ⟨ob, h⟩
      · rw [e] at h; cases h
      · rw [e] at h; cases h
    rcases h with h | ⟨ob, h⟩
    · exact .inl (by rw [drp_out na]; exact h)
    · exact .inr ⟨ob, by rw [drp_out na]; exact h⟩
  · exact .inr h
mutual
private theorem Rp.drp (hA : ∀ q ∈ A, ∃ vs, F q = some (.lst vs)) : ∀ {d : D} {v : V}, noL d = true → Rp K F d v → Rp K (drp A F) d v
  | .lst _, v, n, h => by rw [noL] at n; cases n
  | .tup ds, v, n, h => by
    rw [noL] at n
    rw [Rp] at h ⊢
    obtain ⟨b, vs, r1, r2, r3⟩ := h
    exact ⟨b, vs, r1, sqT_drp hA r2, Rps.drp hA n r3⟩
  | .non, v, n, h => by rw [Rp] at h ⊢; exact h
  | .bl b, v, n, h => by rw [Rp] at h ⊢; exact h
  | .int b, v, n, h => by rw [Rp] at h ⊢; exact h
  | .str b, v, n, h => by rw [Rp] at h ⊢; exact h
private theorem Rps.drp (hA : ∀ q ∈ A, ∃ vs, F q = some (.lst vs)) : ∀ {d : List D} {v : List V}, noLs d = true → Rps K F d v → Rps K (drp A F) d v
  | [], v, n, h => by rw [Rps] at h ⊢; exact h
  | d :: ds, v, n, h => by
    rw [noLs, Bool.and_eq_true] at n
    rw [Rps] at h ⊢
    obtain ⟨x, r, h1, h2, h3⟩ := h
    exact ⟨x, r, h1, Rp.drp hA n.1 h2, Rps.drp hA n.2 h3⟩
end
end
section
variable {K : PySem.W.Frag} {Z F F' H H' : Hp} {M M' : Mm} {ρ : Rho} {σ : L2.St} {A : List Addr} {d d' : D} {u u' : U} {v : V}
private theorem fr_lst (a : AgM K Z F M H) (ow : Own M d u A) (s' : Same (frz A H F) F') : ∀ q ∈ A, ∃ vs, F' q = some (.lst vs) := fun q hq => by
  obtain ⟨us, e⟩ := ow.there q hq
  obtain ⟨_, vs, g, _⟩ := a.mo q _ e
  exact ⟨vs, s' _ _ (by rw [frz_in hq]; exact g)⟩
private theorem fr_sameF (a : AgM K Z F M H) (ow : Own M d u A) (s' : Same (frz A H F) F') : Same F (drp A F') := fun q o e => by
  have nq : q ∉ A := fun hq => by
    obtain ⟨us, h⟩ := ow.there q hq
    rw [(a.mo q _ h).1] at e; cases e
  rw [drp_out nq]
  exact s' _ _ (by rw [frz_out nq]; exact e)
private theorem fr_sH (a : AgM K Z F M H) (s' : Same (frz A H F) F') (m' : AgM K (Zof (frz A H F) (fun _ => none) H) F' M' H') : Same H H' := fun q o e => by
  cases h : frz A H F q with
  | none => exact (m'.zz q o (zof_of e h rfl)).1
  | some o' =>
    have := frz_sm a _ _ h
    rw [e] at this
    cases this
    exact m'.sm _ _ (s' _ _ h)
private theorem fr_grow (ag : Ag K Z F M H ρ σ) (ow : Own M d u A) (s' : Same (frz A H F) F') (m' : AgM K (Zof (frz A H F) (fun _ => none) H) F' M' H') : Ag K Z (drp A F') M H' ρ σ := by
  refine ag.grow (fr_sameF ag.m ow s') (fr_sH ag.m s' m') (fun q o e => ?_) fun p h1 h2 => ?_
  · by_cases z : q ∈ A
    · rw [drp_in z] at e; cases e
    · rw [drp_out z] at e; exact m'.sm _ _ e
  · by_cases z : p ∈ A
    · exact drp_in z
    · rw [drp_out z]
      cases e : H p with
      | none => exact (h2 e).elim
      | some o => exact (m'.zz p o (zof_of e (by rw [frz_out z]; exact h1) rfl)).2.1
private theorem none_of (a : AgM K Z F M H) {p : Addr} (h : H p = none) : F p = none ∧ M p = none ∧ Z p = none := by
  refine ⟨sub_none a.sm h, ?_, ?_⟩
  · cases q : M p with
    | none => rfl
    | some o =>
      obtain ⟨_, k⟩ := a.mo p o q
      obtain ⟨u, hu⟩ := k.there
      rw [h] at hu; cases hu
  · cases q : Z p with
    | none => rfl
    | some o => have := (a.zz p o q).1; rw [h] at this; cases this
end
section
variable {X : Cx} {e : Expr} {es : List Expr} {pos p : Pos} {fl : WA} {x : Str} {g : List D → (D → Prop) → Prop} {k i : Nat} {ps : List Str}
end
section
variable {X : Cx} {a b c e tg elt iter : Expr} {es ifs : List Expr} {pos cpos pos' p2 : Pos} {fe : WE} {fi : WI} {fg : WG} {fc : WT} {scope : Scope} {N : List Str} {src : List (Option Nat)} {x : Str} {k : Nat}
end
section
variable {K : PySem.W.Frag} {Z F G H : Hp} {M : Mm}
end
end L4
set_option Elab.async false
set_option linter.all false
set_option maxRecDepth 100000
namespace L4
open PySem PySem.Spec PyProof.Rows L2 L3
section
variable {X : Cx} {pins : List (Addr × Obj)} {σ : L2.St} {H : Hp} {s : Shared}
mutual
private theorem hd_of (I : Inv X pins σ H s) : ∀ {d : D} {v : V} {u : Value}, kOk d = true → Rp X.K H d v → RelV v u → HD s.heap d u
  | .int i, v, u, n, r, rv => by rw [Rp] at r; subst r; obtain ⟨t, rfl⟩ := rv; rw [HD]; exact ⟨t, rfl⟩
  | .tup ds, v, u, n, r, rv => by
    rw [Rp] at r
    obtain ⟨a, vs, rfl, r2, r3⟩ := r
    cases rv
    obtain ⟨its, q1, q2, _⟩ := I.tuple r2
    rw [HD]
    rw [kOk] at n
    exact ⟨a, its.toArray, rfl, q2, hds_of I n r3 q1⟩
  | .non, v, u, n, r, rv => by rw [kOk] at n; cases n
  | .bl _, v, u, n, r, rv => by rw [kOk] at n; cases n
  | .str _, v, u, n, r, rv => by rw [kOk] at n; cases n
  | .lst _, v, u, n, r, rv => by rw [kOk] at n; cases n
private theorem hds_of (I : Inv X pins σ H s) : ∀ {d : List D} {v : List V} {u : List Value}, kOks d = true → Rps X.K H d v → Vals v u → HDs s.heap d u
  | [], v, u, n, r, rv => by rw [Rps] at r; subst r; cases rv; rw [HDs]
  | d :: ds, v, u, n, r, rv => by
    rw [Rps] at r
    obtain ⟨x, t, rfl, r1, r2⟩ := r
    rw [kOks, Bool.and_eq_true] at n
    cases rv with
    | cons h1 h2 => rw [HDs]; exact ⟨_, _, rfl, hd_of I n.1 r1 h1, hds_of I n.2 r2 h2⟩
end
end
section
variable {K : PySem.W.Frag} {Z F H : Hp} {M : Mm} {ρ : Rho} {σ : L2.St} {p : Addr}
private theorem Ag.adoptM {o : HO} {mo : MO} (ag : Ag K Z F M H ρ σ) (n2 : H p = some o) (n3 : F p = none) (n4 : M p = none) (nz : Z p = none) (n5 : ∀ (j : Nat) (es : List D), ρ[j]? = some (.ow es) → σ[j]? ≠ some (some (.ref p))) (r : MOk K F H p mo) : Ag K Z F (mset M p mo) H ρ σ := by
  refine ⟨⟨ag.m.sm, fun q o e => ?_, fun q o e => ?_⟩, ag.len, fun i e h => ?_, ag.di⟩
  · obtain ⟨z1, z2, z3⟩ := ag.m.zz q o e
    exact ⟨z1, z2, by rw [mset_ne (fun z => by rw [z, nz] at e; cases e)]; exact z3⟩
  · by_cases z : q = p
    · subst z
      rw [mset_same] at e
      cases e
      exact ⟨n3, r⟩
    · rw [mset_ne z] at e; exact ag.m.mo q o e
  · have := ag.en i e h
    cases e with
    | un => trivial
    | sh d => exact this
    | rf p => exact this
    | ut u => exact this
    | ow ds =>
      obtain ⟨q, ws, h1, h2, h3, h4, h6, h5⟩ := this
      exact ⟨q, ws, h1, h2, h3, by rw [mset_ne (fun z => n5 i ds h (by rw [← z]; exact sl_of h1))]; exact h4, h6, h5⟩
private theorem Ag.chgO {o : MO} {mo : MO} {ho : HO} (ag : Ag K Z F M H ρ σ) (hp : M p = some o) (r : MOk K F (upd H p ho) p mo) : Ag K Z F (mset M p mo) (upd H p ho) ρ σ := by
  obtain ⟨f0, k0⟩ := ag.m.mo p _ hp
  have ne : ∀ {q : Addr} {u : HO}, F q = some u → q ≠ p := fun e z => by rw [z, f0] at e; cases e
  refine ⟨⟨fun q u e => by rw [upd_ne (ne e)]; exact ag.m.sm q u e, fun q o e => ?_, fun q o e => ?_⟩, ag.len, fun i e h => ?_, ag.di⟩
  · obtain ⟨z1, z2, z3⟩ := ag.m.zz q o e
    have : q ≠ p := fun z => by rw [z, hp] at z3; cases z3
    exact ⟨by rw [upd_ne this]; exact z1, z2, by rw [mset_ne this]; exact z3⟩
  · by_cases z : q = p
    · subst z
      rw [mset_same] at e
      cases e
      exact ⟨f0, r⟩
    · rw [mset_ne z] at e
      obtain ⟨z1, z2⟩ := ag.m.mo q o e
      exact ⟨z1, z2.same (Same.refl _) (upd_ne z)⟩
  · have := ag.en i e h
    cases e with
    | un => trivial
    | sh d => exact this
    | rf p => exact this
    | ut u => exact this
    | ow ds =>
      obtain ⟨q, ws', h1, h2, h3, h4, h6, h5⟩ := this
      have hne : q ≠ p := fun z => by rw [z, hp] at h4; cases h4
      exact ⟨q, ws', h1, by rw [upd_ne hne]; exact h2, h3, by rw [mset_ne hne]; exact h4, h6, h5⟩
end
private theorem TKp.keys {K : PySem.W.Frag} {F : Hp} : ∀ {kvs : List (D × D)} {xs : List (D × Addr × Value)}, TKp K F kvs xs → kvs.map (·.1) = xs.map (·.1)
  | _, _, .nil => rfl
  | _, _, .cons ⟨r1, _⟩ t => by rw [List.map_cons, List.map_cons, r1, TKp.keys t]
private theorem TKp.all {K : PySem.W.Frag} {F : Hp} : ∀ {kvs : List (D × D)} {xs : List (D × Addr × Value)}, TKp K F kvs xs → ∀ x ∈ xs, (kOk x.1 = true ∧ dep x.1 ≤ 8) ∧ Rp K F x.1 (.ref x.2.1) ∧ ∃ v, RelV v x.2.2
  | _, _, .nil, x, hx => by cases hx
  | _, _, .cons ⟨r1, r2, r3, v, r4, _⟩ t, x, hx => by
    rcases List.mem_cons.mp hx with rfl | hx
    · rw [r1] at r2 r3; exact ⟨r2, r3, v, r4⟩
    · exact TKp.all t x hx
private theorem TKp.vals {K : PySem.W.Frag} {F : Hp} : ∀ {kvs : List (D × D)} {xs : List (D × Addr × Value)}, TKp K F kvs xs → ∃ vs, Vals vs (xs.map fun x => x.2.2) ∧ Rps K F (kvs.map (·.2)) vs
  | _, _, .nil => ⟨[], .nil, .nil⟩
  | _, _, .cons ⟨r1, r2, r3, v, r4, r5⟩ t => by
    obtain ⟨vs, h1, h2⟩ := TKp.vals t
    exact ⟨v :: vs, .cons r4 h1, .cons r5 h2⟩
private theorem TKp.snoc {K : PySem.W.Frag} {F : Hp} {q : D × D} {x : D × Addr × Value} (h : q.1 = x.1 ∧ (kOk q.1 = true ∧ dep q.1 ≤ 8) ∧ Rp K F q.1 (.ref x.2.1) ∧ ∃ v, RelV v x.2.2 ∧ Rp K F q.2 v) : ∀ {kvs : List (D × D)} {xs : List (D × Addr × Value)}, TKp K F kvs xs → TKp K F (kvs ++ [q]) (xs ++ [x])
  | _, _, .nil => .cons h .nil
  | _, _, .cons r t => .cons r (TKp.snoc h t)
private theorem atKey_none_iff {xs : List (D × Addr × Value)} {k : D} : atKey xs k = none ↔ k ∉ xs.map (·.1) := by
  unfold atKey
  rw [Option.map_eq_none_iff, List.find?_eq_none]
  constructor
  · intro h m
    obtain ⟨x, hx, e⟩ := List.mem_map.mp m
    exact h x hx (decide_eq_true e)
  · intro h x hx e
    exact h (List.mem_map.mpr ⟨x, hx, of_decide_eq_true e⟩)
open Classical in
noncomputable def sdK (kvs : List (D × D)) (k d : D) : List (D × D) := if k ∈ kvs.map (·.1) then kvs else kvs ++ [(k, d)]
private theorem mset_id {M : Mm} {p : Addr} {o : MO} (h : M p = some o) : mset M p o = M := by
  funext q
  by_cases z : q = p
  · subst z; rw [mset_same, h]
  · rw [mset_ne z]
section
variable {X : Cx} {a b c e f : Expr} {es : List Expr} {pos np p apos cpos pos' dpos : Pos} {fl : WA} {x y : Str} {i : Nat}
noncomputable def wNewT (i : Nat) : WS := fun E ρ M => ∀ p, M p = none → E.nx (ρ.set i (.rf p)) (mset M p (.tk []))
private theorem js_newT (hN : X.N.Nodup) (hi : X.N[i]? = some x) (hx : Loc X.env.scope x) (hs : swapsWith (.Dict [] [] dpos) (some (.Name x pos')) pos.line X.env = pure false := by rfl) (hf : X.fn x = true ∨ X.env.scope.names.lookup x = some .local := by first | exact .inl rfl | exact .inr rfl | assumption) :
    JS X (.Assign [.Name x pos'] (.Dict [] [] dpos) pos) (wNewT i) := ⟨imS (ps_set hN hi hx pe_dnewD hs hf) fun D' σ H hh => ex5 hh fun Z F ρ M E ag hf k => by
  intro p hp
  obtain ⟨y1, y2, y3⟩ := none_of ag.m hp
  have a1 := (ag.newO (o := .ext (IsDT p [])) hp).adoptM (mo := .tk []) upd_same y1 y2 y3 (fun j es h z => by
    obtain ⟨q, ws, h1, h2, _⟩ := ag.en j _ h
    rw [z] at h1
    cases h1
    rw [hp] at h2; cases h2) ⟨[], upd_same, .nil⟩
  exact k.nx _ _ F _ _ (Same.refl _) (a1.put (i := i) (e := .rf p) (o := some (.ref p)) rfl fun _ _ z => nomatch z) (hf p y2)⟩
noncomputable def wSD (i : Nat) (fl : WA) : WS := fun E ρ M => match ρ[i]? with
  | some (.rf q) => (∃ kvs, M q = some (.tk kvs)) ∧ fl ρ M fun ds ρ2 M2 => ∃ (ks : List D) (d : D) (kvs : List (D × D)), ds = [.tup ks, d] ∧ M2 q = some (.tk kvs) ∧ kOk (.tup ks) = true ∧ dep (.tup ks) ≤ 8 ∧ kvs.length < sizeLine ∧ E.nx ρ2 (mset M2 q (.tk (sdK kvs (.tup ks) d)))
  | _ => False
private theorem js_sd (i : Nat) (hu : X.A.units + 10 < cLine) (ha : JA X [e, f] fl) (hN : X.N[i]? = some x := by rfl) (hv : Vis X.env.scope x := by first | exact Or.inl rfl | exact Or.inr (Or.inl rfl) | exact Or.inr (Or.inr rfl)) (hd : (x == ("__debug__" : Str)) = false := by decide) (hcd : (x == ("__classdict__" : Str)) = false := by decide)
    (hbase : attributeBase (.Name x np) "setdefault" X.env (eval (.Name x np) X.env) = eval (.Name x np) X.env := by rfl)
    (hfew : ((backTo cpos (starEach [e, f] X.env)).all (fun x => !x.1) && (backToKw cpos (keywordEach [] X.env)).all (fun x => x.1.isSome)
      && decide ([e, f].length + ([] : List Keyword).length + (if ([] : List Keyword).isEmpty then 0 else 1) < 30)) = true := by rfl)
    (hline : (apos.endLine == cpos.line) = true := by rfl) (hs : starEach [e, f] X.env = (false, eval e X.env) :: starEach [f] X.env := by rfl) (hplain : (backTo cpos (starEach [f] X.env)).any (·.1) = false := by rfl)
    (hsw : swapsWith (.Call (.Attribute (.Name x np) "setdefault" apos) [e, f] [] cpos) none pos.line X.env = pure false := by rfl) :
    JS X (.Expr (.Call (.Attribute (.Name x np) "setdefault" apos) [e, f] [] cpos) pos) (wSD i fl) :=
  ⟨imS (ps_expr (pe_sd hu (L2.pv (pos := np) i hN hv hd hcd) ha.h hbase hfew hline hs hplain) hsw) fun D' σ H hh => ex5 hh fun Z F ρ M E ag hf k => by
    unfold wSD at hf
    split at hf
    · rename_i q hq
      obtain ⟨⟨kvs0, m0⟩, hf⟩ := hf
      obtain ⟨_, xs0, hx0, _⟩ := ag.m.mo q _ m0
      refine ⟨.ref q, sl_of (ag.en i _ hq), q, xs0, rfl, hx0, Z, F, ρ, M, _, ag, hf, fun vs H2 F2 ds ρ2 M2 s2 ag2 r2 h2 => ?_⟩
      obtain ⟨ks, d, kvs, rfl, m2, ok, dk, lz, h2⟩ := h2
      obtain ⟨_, xs, hx, tk⟩ := ag2.m.mo q _ m2
      rw [Rps] at r2
      obtain ⟨v1, t, rfl, rk, r2⟩ := r2
      rw [Rps] at r2
      obtain ⟨v2, t2, rfl, rd, r2⟩ := r2
      rw [Rps] at r2
      subst r2
      have rk0 := rk
      rw [Rp] at rk
      obtain ⟨b, ws, rfl, _, _⟩ := rk
      have lx : kvs.length = xs.length := by have := congrArg List.length tk.keys; rw [List.length_map, List.length_map] at this; exact this
      refine ⟨b, v2, .tup ks, xs, rfl, hx, dk, by omega, fun x h => (tk.all x h).1.2, fun pins s I => ⟨hd_of I ok (Rp.same ag2.m.sm rk0) rfl, fun x h => hd_of I (tk.all x h).1.1 (Rp.same ag2.m.sm (tk.all x h).2.1) rfl⟩, fun p hp => ?_, fun hn u ru => ?_⟩
      · have hm : D.tup ks ∈ kvs.map (·.1) := by
          rw [tk.keys]
          apply Classical.byContradiction
          intro z
          rw [atKey_none_iff.mpr z] at hp; cases hp
        have : ∃ x ∈ xs, x.2 = p := by
          unfold atKey at hp
          rw [Option.map_eq_some_iff] at hp
          obtain ⟨x, h1, h2⟩ := hp
          exact ⟨x, List.mem_of_find?_eq_some h1, h2⟩
        obtain ⟨x, hx1, rfl⟩ := this
        obtain ⟨_, _, v', rv'⟩ := tk.all x hx1
        refine ⟨v', rv', k.nx σ _ F2 ρ2 M2 s2 ag2 ?_⟩
        rw [sdK, if_pos hm, mset_id m2] at h2
        exact h2
      · have hm : D.tup ks ∉ kvs.map (·.1) := by rw [tk.keys]; exact atKey_none_iff.mp hn
        rw [sdK, if_neg hm] at h2
        exact k.nx σ _ F2 ρ2 _ s2 (ag2.chgO (mo := .tk (kvs ++ [(.tup ks, d)])) m2 ⟨_, upd_same, tk.snoc ⟨rfl, ⟨ok, dk⟩, rk0, v2, ru, rd⟩⟩) h2
    · exact hf.elim⟩
noncomputable def wVals (i : Nat) : WN := fun ρ M P => match ρ[i]? with
  | some (.rf q) => ∃ kvs, M q = some (.tk kvs) ∧ kvs.length ≤ 100000 ∧ P (kvs.map (·.2)) ρ M
  | _ => False
private theorem jn_vals {lp pos2 : Pos} (i : Nat) (hgl : Gl X "list") (hml : X.mg "list" = none) (hc : X.calm = true) (hN : X.N[i]? = some x := by rfl) (hv : Vis X.env.scope x := by first | exact Or.inl rfl | exact Or.inr (Or.inl rfl) | exact Or.inr (Or.inr rfl)) (hd : (x == ("__debug__" : Str)) = false := by decide) (hcd : (x == ("__classdict__" : Str)) = false := by decide)
    (hbase : attributeBase (.Name x np) "values" X.env (eval (.Name x np) X.env) = eval (.Name x np) X.env := by rfl) (hline : (apos.endLine == cpos.line) = true := by rfl)
    (hs3 : starEach [.Call (.Attribute (.Name x np) "values" apos) [] [] cpos] X.env = [(false, eval (.Call (.Attribute (.Name x np) "values" apos) [] [] cpos) X.env)] := by rfl) :
    JN X (.Call (.Name "list" lp) [.Call (.Attribute (.Name x np) "values" apos) [] [] cpos] [] pos) (wVals i) :=
  ⟨imE (pe_listvals (pos2 := pos2) hgl hml hc (L2.pv (pos := np) i hN hv hd hcd) hbase hline hs3) fun σ H Q hh => ex5 hh fun Z F ρ M P ag hf k => by
    unfold wVals at hf
    split at hf
    · rename_i q hq
      obtain ⟨kvs, m0, lz, hf⟩ := hf
      obtain ⟨_, xs, hx, tk⟩ := ag.m.mo q _ m0
      obtain ⟨vs, v1, v2⟩ := tk.vals
      have lx : kvs.length = xs.length := by have := congrArg List.length tk.keys; rw [List.length_map, List.length_map] at this; exact this
      refine ⟨.ref q, sl_of (ag.en i _ hq), q, xs, vs, rfl, hx, by omega, v1, fun l hl => ?_⟩
      obtain ⟨n1, n2, n3, n4, nz, n5, n6⟩ := newN ag hl v2
      exact k l vs _ F _ ρ M (Same.refl _) n1 n2 n3 n4 nz n5 n6 hf
    · exact hf.elim⟩
end
end L4
set_option Elab.async false
set_option linter.all false
set_option maxRecDepth 100000
namespace L4
open PySem PySem.Spec PyProof.Rows L2 L3
private theorem u10 {k : Nat} {A : Around} (r : Room k A) : A.units + 10 < cLine := by have := Room.u60 r; omega
noncomputable def downD (lo : Int) (n : Nat) : List D := (List.range n).map fun (k : Nat) => D.int (lo - (k : Int))
private theorem down_len {lo : Int} {n : Nat} : (downD lo n).length = n := by unfold downD; simp
private theorem down_get {lo : Int} {n i : Nat} {d : D} (h : (downD lo n)[i]? = some d) : d = .int (lo - i) ∧ i < n := by
  unfold downD at h
  rw [List.getElem?_map] at h
  cases q : (List.range n)[i]? with
  | none => rw [q] at h; cases h
  | some j =>
    rw [q] at h
    obtain ⟨hj, e⟩ := List.getElem?_eq_some_iff.mp q
    simp at e hj
    subst e
    simp at h
    exact ⟨h.symm, hj⟩
private theorem it_down {K : PySem.W.Frag} {F : Hp} (lo : Int) (n : Nat) : ItOk K (Itd lo n) F (downD lo n) := by
  refine ⟨fun i F' H hi _ _ => ?_, fun F' H _ _ => ?_, fun i d F' H x H' hd s s' y => ?_⟩
  · rw [down_len] at hi; exact hi
  · show n ≤ _
    rw [down_len]; exact Nat.le_refl _
  · obtain ⟨rfl, rfl⟩ := y
    refine ⟨F', .rf, ?_⟩
    obtain ⟨rfl, _⟩ := down_get hd
    rw [Rp]
section
variable {X : Cx} {a b c e tg : Expr} {es : List Expr} {pos np p p2 pos2 apos cpos : Pos} {fl : WA} {fn : WN} {x : Str}
noncomputable def wIDown (f : WA) : WI := fun ρ M P => f ρ M fun ds ρ1 M1 => ∃ i j : Int, ds = [.int i, .int j, .int (-1)] ∧ (-(2 ^ 62) ≤ i ∧ i < 2 ^ 62 ∧ -(2 ^ 62) ≤ j ∧ j < 2 ^ 62) ∧ P (downD i (i - j).toNat) ρ1 M1
private theorem ji_down (hg : Gl X "range") (hm : X.mg "range" = none) (ha : JA X [a, b, c] fl) (hs : starEach [a, b, c] X.env = [(false, eval a X.env), (false, eval b X.env), (false, eval c X.env)] := by rfl) (hs2 : starEach [b, c] X.env = [(false, eval b X.env), (false, eval c X.env)] := by rfl) : JI X tg (.Call (.Name "range" p) [a, b, c] [] pos) (wIDown fl) :=
  ⟨imI (pi_down hg hm ha.h hs hs2) fun σ H R hh => ex5 hh fun Z F ρ M P ag hf k => ⟨Z, F, ρ, M, _, ag, hf, fun vs H1 F1 ds ρ1 M1 s1 ag1 r1 h1 => by
    obtain ⟨i, j, rfl, hb, h1⟩ := h1
    rw [Rps] at r1
    obtain ⟨v, t, rfl, g1, r1⟩ := r1
    rw [Rps] at r1
    obtain ⟨v2, t2, rfl, g2, r1⟩ := r1
    rw [Rps] at r1
    obtain ⟨v3, t3, rfl, g3, r1⟩ := r1
    rw [Rps] at r1
    subst r1
    rw [Rp] at g1 g2 g3
    subst g1 g2 g3
    exact ⟨i, j, rfl, hb, k _ H1 F1 _ ρ1 M1 s1 ag1 (it_down i _) h1⟩⟩⟩
noncomputable def wLRev (fl : WA) : WN := fun ρ M P => fl ρ M fun ds ρ1 M1 => match ds with
  | [.lst xs] => xs.length ≤ 10000 ∧ P xs.reverse ρ1 M1
  | _ => False
private theorem jn_listrev (hgl : Gl X "list") (hml : X.mg "list" = none) (hgz : Gl X "reversed") (hmz : X.mg "reversed" = none) (hc : X.calm = true) (ha : JA X [a] fl)
    (hs : starEach [a] X.env = [(false, eval a X.env)] := by rfl)
    (hs3 : starEach [.Call (.Name "reversed" p2) [a] [] pos2] X.env = [(false, eval (.Call (.Name "reversed" p2) [a] [] pos2) X.env)] := by rfl) :
    JN X (.Call (.Name "list" p) [.Call (.Name "reversed" p2) [a] [] pos2] [] pos) (wLRev fl) :=
  ⟨imE (pe_listrev hgl hml hgz hmz hc ha.h hs hs3) fun σ H Q hh => ex5 hh fun Z F ρ M P ag hf k => ⟨Z, F, ρ, M, _, ag, hf, fun vs H1 F1 ds ρ1 M1 s1 ag1 r1 h1 => by
    split at h1
    · obtain ⟨v, rfl, rv⟩ := rps1 r1
      rw [Rp] at rv
      obtain ⟨q, ws, rfl, g1, g2⟩ := rv
      refine ⟨q, ws, rfl, .inl (rd_same ag1.m.sm g1), by rw [← g2.length]; exact h1.1, fun l hl => ?_⟩
      obtain ⟨n1, n2, n3, n4, nz, n5, n6⟩ := newN ag1 hl (Rps.rev g2)
      exact k l _ _ F1 _ ρ1 M1 s1 n1 n2 n3 n4 nz n5 n6 h1.2
    · exact h1.elim⟩⟩
noncomputable def wExt (i : Nat) (fn : WN) : WS := fun E ρ M => isOw ρ[i]? ∧ fn ρ M fun ds ρ1 M1 => match ρ1[i]? with
  | some (.ow es) => es.length + ds.length ≤ sizeLine ∧ E.nx (ρ1.set i (.ow (es ++ ds))) M1
  | _ => False
private theorem js_extN (i : Nat) (hn : JN X e fn) (hN : X.N[i]? = some x := by rfl) (hv : Vis X.env.scope x := by first | exact Or.inl rfl | exact Or.inr (Or.inl rfl) | exact Or.inr (Or.inr rfl)) (hd : (x == ("__debug__" : Str)) = false := by decide) (hcd : (x == ("__classdict__" : Str)) = false := by decide)
    (hbase : attributeBase (.Name x np) "extend" X.env (eval (.Name x np) X.env) = eval (.Name x np) X.env := by rfl)
    (hfew : ((backTo cpos (starEach [e] X.env)).all (fun x => !x.1) && (backToKw cpos (keywordEach [] X.env)).all (fun x => x.1.isSome) && decide ([e].length + ([] : List Keyword).length + (if ([] : List Keyword).isEmpty then 0 else 1) < 30)) = true := by rfl)
    (hline : (apos.endLine == cpos.line) = true := by rfl) (hs : starEach [e] X.env = [(false, eval e X.env)] := by rfl) (hplain : (backTo cpos (starEach [] X.env)).any (·.1) = false := by rfl)
    (hsw : swapsWith (.Call (.Attribute (.Name x np) "extend" apos) [e] [] cpos) none pos.line X.env = pure false := by rfl) : JS X (.Expr (.Call (.Attribute (.Name x np) "extend" apos) [e] [] cpos) pos) (wExt i fn) :=
  ⟨imS (ps_expr (pe_bm PySem.F.plainAttrs_list PySem.F.slot_list_extend PySem.F.type_list_extend mt_extend (L2.pv i hN hv hd hcd) (pa_cons hn.h pa_nil hs) hbase hfew hline hs hplain) hsw) fun D' σ H hh => ex5 hh fun Z F ρ M E ag hf k => by
    obtain ⟨ho, hf⟩ := hf
    obtain ⟨ds0, ho⟩ := isOw_of ho
    obtain ⟨p, vs, h1, h2, h3, h4, h5, h6⟩ := ow_get ag ho
    refine ⟨.ref p, h1, .inl ⟨rfl, vs, SqL.of h2⟩, Z, F, ρ, M, _, ag, hf, fun q ws H1 F1 ds ρ1 M1 s1 ag1 n2 n3 n4 nz n5 r1 hh => ?_⟩
    split at hh
    · rename_i es hd
      obtain ⟨p', us, g1, g2, g3, g4, g5, g6⟩ := ow_get ag1 hd
      rw [h1] at g1
      cases g1
      exact ⟨p, q, us, ws, rfl, rfl, g2, n2, by rw [← g6.length, ← r1.length]; exact hh.1, k.nx σ _ F1 _ M1 s1 (ag1.chg hd h1 g2 g3 g4 g5 (g6.append r1)) hh.2⟩
    · exact hh.elim⟩
end
noncomputable def wFrE (i : Nat) (fe : WE) : WE := fun ρ M P => match uOf ρ[i]? with
  | some u => ∃ d A, Own M d u A ∧ fe ((clr ρ).set i (.sh d)) (fun _ => none) fun d' _ _ => noL d' = true ∧ P d' ρ M
  | none => False
private theorem j_frE {X : Cx} {e : Expr} {fe : WE} (i : Nat) (h : JE X e fe) : JE X e (wFrE i fe) := ⟨imE h.h fun σ H Q hh => ex5 hh fun Z F ρ M P ag hf k => by
  unfold wFrE at hf
  split at hf
  · rename_i u hu
    obtain ⟨d, A, ow, hf⟩ := hf
    refine ⟨_, _, _, _, _, fr_start ag hu ow, hf, fun v H' F' d' ρ' M' s' ag' r h => ?_⟩
    exact k v H' (drp A F') d' ρ M (fr_sameF ag.m ow s') (fr_grow ag ow s' ag'.m) (Rp.drp (fr_lst ag.m ow s') h.1 r) h.2
  · exact hf.elim⟩
noncomputable def wSetZ (k : Nat) (f : WN) : WS := fun E ρ M => f ρ M fun ds ρ1 M1 => E.nx (ρ1.set k (.sh (.lst ds))) M1
private theorem js_setCZ {X : Cx} {tg elt iter : Expr} {ifs : List Expr} {pos cpos pos' : Pos} {fe : WE} {fi : WI} {fg : WG} {fc : WT} {scope : Scope} {x : Str} {k : Nat} (hN : X.N.Nodup) (hk : X.N[k]? = some x) (hx : Loc X.env.scope x) (N : List Str) (src : List (Option Nat)) (ok : CompOk X scope N src) (hcalm : X.calm = true) (hi : JI X tg iter fi)
    (hg : ∀ pins s2 H2 C fp, JG (cxComp X pins s2 H2 N scope C fp) tg fg) (hc : ∀ pins s2 H2 C fp, JC (cxComp X pins s2 H2 N scope C fp) ifs fc) (he : ∀ pins s2 H2 C fp, JE (cxComp X pins s2 H2 N scope C fp) elt fe)
    (hsw : swapsWith (.ListComp elt [⟨tg, iter, ifs, 0⟩] scope cpos) (some (.Name x pos')) pos.line X.env = pure true := by rfl)
    (hs : ∀ x, foldedSetIterable iter X.env x = pure x := by intro _; rfl) (hfn : X.fn x = true ∨ X.env.scope.names.lookup x = some .local := by first | exact .inl rfl | exact .inr rfl | assumption) :
    JS X (.Assign [.Name x pos'] (.ListComp elt [⟨tg, iter, ifs, 0⟩] scope cpos) pos) (wSetZ k (wComp fi fg fc fe src)) :=
  ⟨imS (ps_setComp hN hk hx N src ok hcalm hi.h (fun a b c d e => (hg a b c d e).h) (fun a b c d e => (hc a b c d e).h) (fun a b c d e => (he a b c d e).h) hsw hs hfn) fun D' σ H hh => ex5 hh fun Z F ρ M E ag hf kk =>
    of_comp (fun _ _ _ _ h => h) (fun _ _ _ h => h) (fun _ _ _ h => h) σ H _ ⟨Z, F, ρ, M, _, ag, hf, fun p vs H' F' ds ρ' M' s' ag' n2 n3 n4 nz n5 r h => by
      have a := ag'.setO (i := k) n2 n3 n4 nz r n5
      by_cases c : k < ρ'.length
      · obtain ⟨F2, v, h1, h2, h3, h4⟩ := a.fz (i := k) (ds := ds) (by rw [List.getElem?_set_self c])
        rw [List.set_set] at h4
        exact kk.nx _ H' F2 _ M' (s'.trans h2) h4 h
      · have e1 : ρ'.set k (.ow ds) = ρ' := List.set_eq_of_length_le (by omega)
        have e2 : ρ'.set k (.sh (.lst ds)) = ρ' := List.set_eq_of_length_le (by omega)
        rw [e1] at a
        rw [e2] at h
        exact kk.nx _ H' F' _ M' s' a h⟩⟩
end L4
set_option Elab.async false
set_option linter.all false
set_option maxRecDepth 100000
namespace L4
open PySem PySem.Spec PyProof.Rows L2 L3 PySem.SeqAt
noncomputable def spE (K : PySem.W.Frag) (C : Addr) (g : List D → (Option D → Prop) → Prop) : Sp := fun vs H Q E => ∃ Z F M ds P, AgM K Z F M H ∧ Rps K F ds vs ∧ g ds P ∧ (∀ v H' F' d, Same F F' → AgM K Z F' M H' → Rp K F' d v → P (some d) → Q v H') ∧ (∀ x H' F', Same F F' → AgM K Z F' M H' → H' x = none → P none → E (.ref C) (some x) H')
private theorem _root_.L3.Def.hasE {P : Program} {w : World} {K : PySem.W.Frag} {mg : Str → Option Value} {base : Heap} {k : Nat} {x c : Str} {st : Stmt} {N ps : List Str} {g : List D → (Option D → Prop) → Prop} {test : Expr} {rest : List Stmt} {msg : Str} {j : Nat} {np mp cpos rpos ipos : Pos} (F : Def K mg x st ps) (sc : FnScope N ps (defScope st)) (XC : ExC K mg c) (len : ∀ ds P, g ds P → ds.length = ps.length)
    (hb : defBody st = .If test [.Raise (some (.Call (.Name c np) [.Constant (.str msg) j mp] [] cpos)) none rpos] [] ipos :: rest)
    (hgl : ∀ (f : Addr) (cdv : Value) (A : Around) (outer : List Env) (s : Shared) (H : Hp) (E : XK), Gl (cxOf (CX1 P w) P w K mg base N x (defScope st) f cdv A outer s H E) c)
    (hdb : (c == ("__debug__" : Str)) = false)
    (hbody : ∀ (f : Addr) (cdv : Value) (A : Around) (outer : List Env) (s : Shared) (H : Hp) (E : XK), Room k (A.deeper (envOfC x (defScope st) s.heap.objs.size f cdv)) →
      ∃ fT G, JT (cxOf (CX1 P w) P w K mg base N x (defScope st) f cdv A outer s H E) test fT ∧ JSs (cxOf (CX1 P w) P w K mg base N x (defScope st) f cdv A outer s H E) rest G ∧ ∀ ds M Q, g ds Q → fT (startR N ds) M fun b ρ1 M1 => if b = true then Sub M M1 ∧ Q none else G ⟨fun _ _ => False, rtD fun d M' => Sub M M' ∧ Q (some d), fun _ _ => False, fun _ _ => False⟩ ρ1 M1) : Has P w K mg base (CX1 P w) (k + 1) x ps (spE K (cOf mg c) g) := by
  refine F.hasX sc (fun vs H Q E h => ?_) fun f cdv A outer s H vs Q E hr h => ?_
  · obtain ⟨Z, F', M, ds, P, m, r, hg, _⟩ := h
    rw [← r.length]
    exact len ds P hg
  · obtain ⟨Z, F', M, ds, P', m, r, hg, kq, ke⟩ := h
    obtain ⟨fT, G, hT, hG, hh⟩ := hbody f cdv A outer s H E hr
    rw [hb]
    refine ⟨_, pss_cons (ps_if hT.h (pss_one (ps_raise (hgl f cdv A outer s H E) XC.m XC.q arr_cx (pa_cons pe_str pa_nil) (hdb := hdb))) pss_nil) hG.h, ?_⟩
    refine ⟨Z, F', startR N ds, M, _, ag_start N m r, hh ds M P' hg, fun b H1 F1 ρ1 M1 s1 ag1 h1 => ?_⟩
    cases b with
    | true =>
      rw [if_pos rfl] at h1 ⊢
      exact ⟨by show 1 ≤ sizeLine; decide, fun a ha => ke a H1 F1 s1 (ag1.m.sub h1.1) ha h1.2⟩
    | false =>
      rw [if_neg Bool.false_ne_true] at h1 ⊢
      refine ⟨Z, F1, ρ1, M1, _, ag1, h1, ⟨fun _ _ _ _ _ _ _ q => q.elim, fun _ _ _ _ _ _ _ q => q.elim, fun _ _ _ _ _ _ _ q => q.elim, fun v H' F2 u M' s' m' r' q => ?_⟩⟩
      obtain ⟨d, r', hs, q⟩ := rtD_of (M := M') (q := fun d M' => Sub M M' ∧ P' (some d)) q r'
      exact kq v H' F2 d (s1.trans s') (m'.sub hs) r' q
section
variable {X : Cx} {e : Expr} {es : List Expr} {fl : WA} {fs : WS} {x n f S : Str} {i j : Nat} {g : List D → (Option D → Prop) → Prop} {k : Nat} {ps : List Str} {b0 : Stmt} {suite : List Stmt} {pos pos' p cpos np hpos tpos : Pos} {C Sa : Addr}
end
section
variable {X : Cx} {a b e : Expr} {pos np p np2 : Pos} {x y : Str}
end
section
variable {X : Cx} {a b : Expr} {pos : Pos} {fa fb : WE}
end
end L4
set_option Elab.async false
set_option linter.all false
set_option maxRecDepth 100000
namespace L4
open PySem PySem.Spec PySem.Calls PyProof.Rows L2 L3
section
variable {P : Program} {w : World} {K : PySem.W.Frag} {mg : Str → Option Value} {base : Heap} {k : Nat} {x : Str} {st : Stmt} {N ps : List Str} {g : WFU}
end
section
variable {X : Cx} {a e : Expr} {es : List Expr} {pos p apos : Pos} {gl : WUA} {ga ge : WU} {fe : WE} {fl : WA} {x f : Str} {k : Nat} {ps : List Str}
end
section
variable {K : PySem.W.Frag} {Z F H H' : Hp} {M : Mm} {ρ : Rho} {σ : L2.St} {P : Addr} {lpos : Pos} {q : Str}
end
section
variable {X : Cx} {e : Expr} {fe : WE} {i j : Nat} {x y fld : Str} {c P cy C : Addr} {params : Arguments} {scope : Scope} {p pos lpos kp1 kp2 np p1 p2 p3 p4 : Pos} {ns : List Str}
end
end L4
set_option Elab.async false
set_option linter.all false
set_option maxRecDepth 100000
namespace L4
open PySem PySem.Spec PySem.Calls PyProof.Rows L2 L3
section
variable {X : Cx} {a b : Expr} {pos : Pos} {fa fb : WE}
end
private theorem len1 {α : Type} : ∀ {l : List α}, l.length = 1 → ∃ a, l = [a]
  | [a], _ => ⟨a, rfl⟩
private theorem len2 {α : Type} : ∀ {l : List α}, l.length = 2 → ∃ a b, l = [a, b] := fun {l} h => match l with
  | a :: l => let ⟨b, e⟩ := len1 (l := l) (Nat.succ.inj h); ⟨a, b, congrArg _ e⟩
private theorem len3 {α : Type} : ∀ {l : List α}, l.length = 3 → ∃ a b c, l = [a, b, c] := fun {l} h => match l with
  | a :: l => let ⟨b, c, e⟩ := len2 (l := l) (Nat.succ.inj h); ⟨a, b, c, congrArg _ e⟩
private theorem len4 {α : Type} : ∀ {l : List α}, l.length = 4 → ∃ a b c d, l = [a, b, c, d] := fun {l} h => match l with
  | a :: l => let ⟨b, c, d, e⟩ := len3 (l := l) (Nat.succ.inj h); ⟨a, b, c, d, congrArg _ e⟩
end L4
set_option Elab.async false
set_option linter.all false
set_option maxRecDepth 100000
set_option maxHeartbeats 4000000
namespace M
open PySem PySem.Spec PyProof.Rows L2 L3 L4
noncomputable def top (i : Nat) : Stmt := PySem.Challenge.pw_shimright_k23_whole_demands_in_any_order.main.body.getD i (.Pass ⟨0, 0, 0, 0⟩)
section
variable {P : Program} {w : World} {K : PySem.W.Frag} {mg : Str → Option Value} {base : Heap}
/-! ### fractions, over trees -/
noncomputable abbrev s_common_divisor : Stmt := top 7
private theorem sc_common_divisor : FnScope ["one", "other", "larger", "smaller", "rest"] ["one", "other"] (defScope s_common_divisor) := ⟨rfl, rfl, rfl, by decide +kernel, rfl, by decide +kernel, by decide +kernel⟩
noncomputable def gGcd : List D → (D → Prop) → Prop := fun ds P => ∃ a b : Int, ds = [.int a, .int b] ∧ P (.int (Int.gcd a b : Int))
private theorem abs_gcd (a b : Int) : Int.gcd (if a < 0 then -a else a) (if b < 0 then -b else b) = Int.gcd a b := by
  split <;> split <;> simp [Int.gcd_neg, Int.neg_gcd]
private theorem h_common_divisor (B : Bl mg) (F : Def K mg "common_divisor" s_common_divisor ["one", "other"]) : Has P w K mg base CX0 1 "common_divisor" ["one", "other"] (spW K (pur gGcd)) := by
  refine F.hasP sc_common_divisor (fun ds P h => by obtain ⟨a, b, rfl, _⟩ := h; rfl) fun f cdv A outer s H E hr => ?_
  have nd := sc_common_divisor.nd
  refine ⟨_, (jss_cons (js_set (i := 2) nd rfl (Or.inl rfl) (j_abs rfl B.abs (ja_cons (jv 0) ja_nil)))
    (jss_cons (js_set (i := 3) nd rfl (Or.inl rfl) (j_abs rfl B.abs (ja_cons (jv 1) ja_nil)))
    (jss_cons (js_while PassesOwn.never (jt_ne hr (jv 3) j_int) (jss_cons (js_set (i := 4) nd rfl (Or.inl rfl) (j_mod (jv 2) (jv 3)))
    (jss_cons (js_set (i := 2) nd rfl (Or.inl rfl) (jv 3))
    (jss_one (js_set (i := 3) nd rfl (Or.inl rfl) (jv 4))))))
    (jss_one (js_ret (jv 2)))))), ?_⟩
  rintro ds M Q ⟨a, b, rfl, q⟩
  refine ⟨fun m ρ M' => M' = M ∧ ∃ (l k : Int) (r : Ent), ρ = [.sh (.int a), .sh (.int b), .sh (.int l), .sh (.int k), r] ∧ m = k.natAbs ∧ 0 ≤ l ∧ 0 ≤ k ∧ Int.gcd l k = Int.gcd a b, ⟨_, rfl, _, _, _, rfl, rfl, ?_, ?_, abs_gcd a b⟩, ?_⟩
  · split <;> omega
  · split <;> omega
  rintro m ρ M' ⟨rfl, l, k, r, rfl, rfl, hl, hk, e⟩
  refine ⟨by show 0 ≤ 60; decide, ?_⟩
  show if (!(k == 0)) = true then _ else _
  refine iteB (fun c => ?_) (fun c => ?_)
  · have c' : k ≠ 0 := by simpa using c
    exact ⟨c', _, fmod_small (a := l) c', rfl, _, _, _, rfl, rfl, hk, Int.fmod_nonneg hl hk, by rw [gcd_step, e]⟩
  · have c' : k = 0 := by simpa using c
    subst c'
    have e2 : l = (Int.gcd a b : Int) := by
      rw [← e, Int.gcd_zero_right]
      omega
    exact ⟨_, Sub.refl _, by rw [e2]; exact q⟩
noncomputable abbrev s_fraction : Stmt := top 8
private theorem sc_fraction : FnScope ["top", "bottom", "shared"] ["top", "bottom"] (defScope s_fraction) := ⟨rfl, rfl, rfl, by decide +kernel, rfl, by decide +kernel, by decide +kernel⟩
noncomputable def gFr : List D → (D → Prop) → Prop := fun ds P => ∃ a b : Int, ds = [.int a, .int b] ∧ b ≠ 0 ∧ Sm 9000 b ∧ P (frD (Rat.divInt a b))
private theorem h_fraction (B : Bl mg) (F : Def K mg "fraction" s_fraction ["top", "bottom"]) (F_common_divisor : Has P w K mg base CX0 1 "common_divisor" ["one", "other"] (spW K (pur gGcd))) : Has P w K mg base CX0 2 "fraction" ["top", "bottom"] (spW K (pur gFr)) := by
  refine F.hasP sc_fraction (fun ds P h => by obtain ⟨a, b, rfl, _⟩ := h; rfl) fun f cdv A outer s H E hr => ?_
  have nd := sc_fraction.nd
  refine ⟨_, (jss_cons (js_if (jt_eq hr (jv 1) j_int) (jss_one js_never) jss_nil)
    (jss_cons (js_set (i := 2) nd rfl (Or.inl rfl) (j_h F_common_divisor (hr.mono (by decide)) rfl (ja_cons (jv 0) (ja_cons (jv 1) ja_nil))))
    (jss_cons (js_if (jt_lt (jv 1) j_int) (jss_one (js_set (i := 2) nd rfl (Or.inl rfl) (j_neg (jv 2)))) jss_nil)
    (jss_one (js_ret (j_tup (ja_cons (j_fdiv (jv 0) (jv 2)) (ja_cons (j_fdiv (jv 1) (jv 2)) ja_nil)))))))), ?_⟩
  rintro ds M Q ⟨a, b, rfl, hb, hs, q⟩
  refine ⟨by show 0 ≤ 60; decide, ?_⟩
  show if (b == 0) = true then _ else _
  refine iteN (by simpa using hb) ?_
  refine ⟨a, b, rfl, ?_⟩
  have gs : Sm 9000 (Int.gcd a b : Int) := gcd_sm hb hs
  have gp := gcd_pos (a := a) hb
  have fin : ∀ g : Int, g = (if b < 0 then -(Int.gcd a b : Int) else (Int.gcd a b : Int)) → CDivS a g ∧ CDivS b g ∧ frD (Rat.divInt a b) = .tup [.int (a.fdiv g), .int (b.fdiv g)] := by
    intro g e
    have h1 : g ≠ 0 := by rw [e]; split <;> omega
    have h2 : Sm 9000 g := by
      rw [e]; split
      · exact gs.neg
      · exact gs
    refine ⟨⟨h1, h2⟩, ⟨h1, h2⟩, ?_⟩
    unfold frD
    rw [e, ← fr_num hb, ← fr_den hb]
  show if decide (b < 0) = true then _ else _
  refine iteB (fun c => ?_) (fun c => ?_)
  · have c' : b < 0 := by simpa using c
    obtain ⟨g0, g1, g2⟩ := fin (-(Int.gcd a b : Int)) (by rw [if_pos c'])
    exact ⟨g0, g1, by show 2 ≤ sizeLine; decide, _, Sub.refl _, by rw [← g2]; exact q⟩
  · have c' : ¬ b < 0 := by simpa using c
    obtain ⟨g0, g1, g2⟩ := fin (Int.gcd a b : Int) (by rw [if_neg c'])
    exact ⟨g0, g1, by show 2 ≤ sizeLine; decide, _, Sub.refl _, by rw [← g2]; exact q⟩

/-! ### sums, products, order, over trees -/
noncomputable def Mx (q r : Rat) : Prop := ∃ n m, n + m ≤ 8990 ∧ SmR n q ∧ SmR m r
private theorem Mx.of {n m : Nat} {q r : Rat} (a : SmR n q) (b : SmR m r) (h : n + m ≤ 8990 := by decide) : Mx q r := ⟨n, m, h, a, b⟩
private theorem Mx.c1 {q r : Rat} (h : Mx q r) : CM q.num r.den := let ⟨n, m, l, a, b⟩ := h; .inr ⟨n, m, by omega, a.1, b.2⟩
private theorem Mx.c2 {q r : Rat} (h : Mx q r) : CM r.num q.den := let ⟨n, m, l, a, b⟩ := h; .inr ⟨m, n, by omega, b.1, a.2⟩
private theorem Mx.c3 {q r : Rat} (h : Mx q r) : CM q.den r.den := let ⟨n, m, l, a, b⟩ := h; .inr ⟨n, m, by omega, a.2, b.2⟩
private theorem Mx.c4 {q r : Rat} (h : Mx q r) : CM q.num r.num := let ⟨n, m, l, a, b⟩ := h; .inr ⟨n, m, by omega, a.1, b.1⟩
private theorem Mx.s {q r : Rat} (h : Mx q r) : Sm 9000 ((q.den : Int) * (r.den : Int)) := let ⟨n, m, l, a, b⟩ := h; (a.2.mul b.2).mono (by omega)
private theorem den_mul (q r : Rat) : (q.den : Int) * (r.den : Int) ≠ 0 := Int.mul_ne_zero (den_ne q) (den_ne r)
noncomputable def gOp (f : Rat → Rat → Rat) : List D → (D → Prop) → Prop := fun ds P => ∃ q r : Rat, ds = [frD q, frD r] ∧ Mx q r ∧ P (frD (f q r))
noncomputable abbrev hFrac (P : Program) (w : World) (K : PySem.W.Frag) (mg : Str → Option Value) (base : Heap) : Prop := Has P w K mg base CX0 2 "fraction" ["top", "bottom"] (spW K (pur gFr))
noncomputable abbrev s_plus : Stmt := top 9
private theorem sc_plus : FnScope ["q", "r"] ["q", "r"] (defScope s_plus) := ⟨rfl, rfl, rfl, by decide +kernel, rfl, by decide +kernel, by decide +kernel⟩
private theorem h_plus (B : Bl mg) (F : Def K mg "plus" s_plus ["q", "r"]) (F_fraction : hFrac P w K mg base) : Has P w K mg base CX0 3 "plus" ["q", "r"] (spW K (pur (gOp fun q r => q + r))) := by
  refine F.hasP sc_plus (fun ds P h => by obtain ⟨a, b, rfl, _⟩ := h; rfl) fun f cdv A outer s H E hr => ?_
  have nd := sc_plus.nd
  refine ⟨_, (jss_one (js_ret (j_h F_fraction (hr.mono (by decide)) rfl (ja_cons (j_add (j_mul (j_atV 0 j_int) (j_atV 1 j_int)) (j_mul (j_atV 1 j_int) (j_atV 0 j_int))) (ja_cons (j_mul (j_atV 0 j_int) (j_atV 1 j_int)) ja_nil))))), ?_⟩
  rintro ds M Q ⟨q, r, rfl, m, k⟩
  exact ⟨m.c1, m.c2, m.c3, _, _, rfl, den_mul q r, m.s, _, Sub.refl _, by rw [r_add]; exact k⟩
noncomputable abbrev s_times : Stmt := top 11
private theorem sc_times : FnScope ["q", "r"] ["q", "r"] (defScope s_times) := ⟨rfl, rfl, rfl, by decide +kernel, rfl, by decide +kernel, by decide +kernel⟩
private theorem h_times (B : Bl mg) (F : Def K mg "times" s_times ["q", "r"]) (F_fraction : hFrac P w K mg base) : Has P w K mg base CX0 3 "times" ["q", "r"] (spW K (pur (gOp fun q r => q * r))) := by
  refine F.hasP sc_times (fun ds P h => by obtain ⟨a, b, rfl, _⟩ := h; rfl) fun f cdv A outer s H E hr => ?_
  have nd := sc_times.nd
  refine ⟨_, (jss_one (js_ret (j_h F_fraction (hr.mono (by decide)) rfl (ja_cons (j_mul (j_atV 0 j_int) (j_atV 1 j_int)) (ja_cons (j_mul (j_atV 0 j_int) (j_atV 1 j_int)) ja_nil))))), ?_⟩
  rintro ds M Q ⟨q, r, rfl, m, k⟩
  exact ⟨m.c4, m.c3, _, _, rfl, den_mul q r, m.s, _, Sub.refl _, by rw [r_mul]; exact k⟩

/-! ### the module's fraction 0 -/
noncomputable abbrev Zero4 (K : PySem.W.Frag) (mg : Str → Option Value) : Prop := Cst K mg "ZERO" (frD 0)
private theorem Zero4.of {a : Addr} {od : Option Addr} {sl : Array (Option Value)} {n : Nat} {t0 t1 : Tok} (h : mg "ZERO" = some (.ref a)) (l : K.lookup a = some ⟨.type "tuple", od, .seq #[.int 0 t0, .int 1 t1] n, sl⟩) : Zero4 K mg :=
  ⟨.ref a, .ref a, h, rfl, fun F => by
    rw [frD, Rp]
    refine ⟨a, [.int 0, .int 1], rfl, .inr ⟨_, _, _, l, rfl, rfl, by show 2 ≤ sizeLine; decide, .cons ⟨_, rfl⟩ (.cons ⟨_, rfl⟩ .nil)⟩, ?_⟩
    rw [Rps]
    exact ⟨_, _, rfl, by rw [Rp]; rfl, by rw [Rps]; exact ⟨_, _, rfl, by rw [Rp]; rfl, by rw [Rps]⟩⟩⟩

/-! ### sums of products -/
noncomputable def dot : List Rat → List Rat → Rat
  | q :: qs, r :: rs => q * r + dot qs rs
  | _, _ => 0
private theorem dot_take : ∀ {qs rs : List Rat} {i : Nat} {q r : Rat}, qs[i]? = some q → rs[i]? = some r → dot (qs.take (i + 1)) (rs.take (i + 1)) = dot (qs.take i) (rs.take i) + q * r
  | [], _, _, _, _, h, _ => by simp at h
  | _ :: _, [], _, _, _, _, h => by simp at h
  | a :: qs, b :: rs, 0, q, r, h1, h2 => by
    simp only [List.getElem?_cons_zero, Option.some.injEq] at h1 h2
    subst h1 h2
    simp only [List.take_succ_cons, List.take_zero, dot]
    grind
  | a :: qs, b :: rs, i + 1, q, r, h1, h2 => by
    simp only [List.getElem?_cons_succ] at h1 h2
    have := dot_take (i := i) h1 h2
    simp only [List.take_succ_cons, dot] at this ⊢
    rw [this]
    grind
private theorem sm0 : SmR 1 (0 : Rat) := ⟨by unfold Sm; decide, by unfold Sm; decide⟩
structure Two (n m k : Nat) (qs rs : List Rat) : Prop where
  len : qs.length = rs.length
  few : qs.length ≤ k
  bnd : (n + m + 1) * k ≤ 8900
  s1 : ∀ q ∈ qs, SmR n q
  s2 : ∀ q ∈ rs, SmR m q
noncomputable abbrev frL (qs : List Rat) : D := .lst (qs.map frD)
private theorem zip_fr : ∀ {qs rs : List Rat} {i : Nat} {d : D}, (zipD (qs.map frD) (rs.map frD))[i]? = some d → ∃ q r, qs[i]? = some q ∧ rs[i]? = some r ∧ d = .tup [frD q, frD r] := fun {qs rs i d} h => by
  obtain ⟨x, y, h1, h2, rfl⟩ := zipD_get h
  rw [List.getElem?_map, Option.map_eq_some_iff] at h1 h2
  obtain ⟨q, e1, rfl⟩ := h1
  obtain ⟨r, e2, rfl⟩ := h2
  exact ⟨q, r, e1, e2, rfl⟩
private theorem dot_trunc : ∀ (qs rs : List Rat), dot (qs.take (min qs.length rs.length)) (rs.take (min qs.length rs.length)) = dot qs rs
  | [], _ => by simp [dot]
  | _ :: _, [] => by simp [dot]
  | q :: qs, r :: rs => by
    have := dot_trunc qs rs
    rw [List.length_cons, List.length_cons, Nat.succ_min_succ, List.take_succ_cons, List.take_succ_cons, dot, dot, this]

/-! ### the fraction 1, opposites, lists that are 0 but at a place -/
noncomputable abbrev One4 (K : PySem.W.Frag) (mg : Str → Option Value) : Prop := Cst K mg "ONE" (frD 1)
private theorem One4.of {a : Addr} {od : Option Addr} {sl : Array (Option Value)} {n : Nat} {t0 t1 : Tok} (h : mg "ONE" = some (.ref a)) (l : K.lookup a = some ⟨.type "tuple", od, .seq #[.int 1 t0, .int 1 t1] n, sl⟩) : One4 K mg :=
  ⟨.ref a, .ref a, h, rfl, fun F => by
    rw [frD, Rp]
    refine ⟨a, [.int 1, .int 1], rfl, .inr ⟨_, _, _, l, rfl, rfl, by show 2 ≤ sizeLine; decide, .cons ⟨_, rfl⟩ (.cons ⟨_, rfl⟩ .nil)⟩, ?_⟩
    rw [Rps]
    exact ⟨_, _, rfl, by rw [Rp]; rfl, by rw [Rps]; exact ⟨_, _, rfl, by rw [Rp]; rfl, by rw [Rps]⟩⟩⟩
noncomputable def gOpp : List D → (D → Prop) → Prop := fun ds P => ∃ q : Rat, ds = [frD q] ∧ P (frD (-q))
noncomputable abbrev s_opposite : Stmt := top 10
private theorem sc_opposite : FnScope ["q"] ["q"] (defScope s_opposite) := ⟨rfl, rfl, rfl, by decide +kernel, rfl, by decide +kernel, by decide +kernel⟩
private theorem h_opposite (B : Bl mg) (F : Def K mg "opposite" s_opposite ["q"]) : Has P w K mg base CX0 1 "opposite" ["q"] (spW K (pur gOpp)) := by
  refine F.hasP sc_opposite (fun ds P h => by obtain ⟨_, rfl, _⟩ := h; rfl) fun f cdv A outer s H E hr => ?_
  have nd := sc_opposite.nd
  refine ⟨_, (jss_one (js_ret (j_tup (ja_cons (j_neg (j_atV 0 j_int)) (ja_cons (j_atV 0 j_int) ja_nil))))), ?_⟩
  rintro ds M Q ⟨q, rfl, k⟩
  have e : frD (-q) = .tup [.int (-q.num), .int (q.den : Int)] := by rw [frD, Rat.neg_num, Rat.neg_den]
  rw [e] at k
  exact ⟨by show 2 ≤ sizeLine; decide, _, Sub.refl _, k⟩
noncomputable def unitQ (n k : Nat) (q : Rat) : List Rat := (List.replicate n 0).set k q
noncomputable def gUnit : List D → (D → Prop) → Prop := fun ds P => ∃ (n k : Nat) (q : Rat), ds = [.int n, .int k, frD q] ∧ k < n ∧ n ≤ 1000 ∧ P (frL (unitQ n k q))
noncomputable abbrev s_all_but_one_0 : Stmt := top 19
private theorem sc_all_but_one_0 : FnScope ["length", "place", "q", "told"] ["length", "place", "q"] (defScope s_all_but_one_0) := ⟨rfl, rfl, rfl, by decide +kernel, rfl, by decide +kernel, by decide +kernel⟩
private theorem h_all_but_one_0 (B : Bl mg) (F : Def K mg "all_but_one_0" s_all_but_one_0 ["length", "place", "q"]) (C_ZERO : Zero4 K mg) : Has P w K mg base CX0 1 "all_but_one_0" ["length", "place", "q"] (spN K gUnit) := by
  refine F.hasN sc_all_but_one_0 (fun ds P h => by obtain ⟨_, _, _, rfl, _⟩ := h; rfl) fun f cdv A outer s H E hr => ?_
  have nd := sc_all_but_one_0.nd
  refine ⟨_, (jss_cons (js_setC (k := 3) nd rfl (Or.inl rfl) ["k"] [none] ⟨rfl, by decide +kernel, by decide +kernel, rfl, rfl, by intro i x j _ h; exact absurd h (by rcases i with _ | _ | _ | i <;> simp)⟩ rfl (ji_rng1 rfl B.range (ja_cons (jv 0) ja_nil)) (fun _ _ _ _ _ => (jg_name (i := 0) (show List.Nodup [("k" : Str)] by decide +kernel) rfl (Or.inl rfl))) (fun _ _ _ _ _ => jc_nil) (fun _ _ _ _ _ => (j_glob C_ZERO rfl)))
    (jss_cons (js_setIxW 3 (jv 2) (jv 1))
    (jss_one (js_retU (ju_v 3))))), ?_⟩
  rintro ds M Q ⟨n, k, q, rfl, kn, n1, kk⟩
  refine ⟨⟨by omega, by omega⟩, fun i out ρ M' => M' = M ∧ out = List.replicate i (frD 0) ∧ ∃ o, ρ = [o], ⟨rfl, rfl, _, rfl⟩, ?_, ?_⟩
  · rintro i d out ρ M' hd ⟨rfl, rfl, o, rfl⟩
    have hi : i < n := by have := (List.getElem?_eq_some_iff.mp hd).1; simpa [rngD] using this
    exact ⟨by rw [List.length_replicate]; exact small1000 (by omega), rfl, by rw [List.replicate_succ'], .sh d, rfl⟩
  · rintro out ρ M' ⟨rfl, rfl, o, rfl⟩
    have ln : (rngD 0 (n : Int).toNat).length = n := by simp [rngD]
    rw [ln]
    refine ⟨trivial, ?_⟩
    have e : ixN (List.replicate n (frD 0)).length (k : Int) = some k := by
      rw [List.length_replicate]
      unfold ixN
      rw [if_pos (by omega), if_pos (by omega)]
      rfl
    show match ixN (List.replicate n (frD 0)).length (k : Int) with | some n => _ | none => False
    rw [e]
    have e2 : frL (unitQ n k q) = .lst ((List.replicate n (frD 0)).set k (frD q)) := by rw [frL, unitQ, List.map_set, List.map_replicate]
    rw [e2] at kk
    refine fun p hp => ⟨_, _, Sub.refl _, .newD ?_ hp, kk⟩
    have e3 : (List.replicate n (frD 0)).set k (frD q) = (unitQ n k q).map frD := by rw [unitQ, List.map_set, List.map_replicate]
    rw [e3]
    exact noLs_map fun _ => rfl

/-! ### the rows of a plan, over trees -/
noncomputable abbrev BR := List Rat × Rat
noncomputable def rQ (r : BR) : D := .tup [frL r.1, frD r.2]
noncomputable def bndAt (n k : Nat) (x : Rat × Rat) : List BR := [(unitQ n k 1, -x.1), (unitQ n k (-1), x.2)]
noncomputable def bndRows (T : List (Rat × Rat)) : List BR := (T.mapIdx fun k x => bndAt T.length k x).flatten
private theorem mapIdx_take {α β : Type} (f : Nat → α → β) {l : List α} {i : Nat} {x : α} (h : l[i]? = some x) : (l.take (i + 1)).mapIdx f = (l.take i).mapIdx f ++ [f i x] := by
  have hi := (List.getElem?_eq_some_iff.mp h).1
  rw [List.take_add_one, h, Option.toList_some, List.mapIdx_append, List.mapIdx_singleton, List.length_take, Nat.min_eq_left (by omega), Nat.zero_add]
noncomputable def bQ (x : Rat × Rat) : D := .tup [frD x.1, frD x.2]
noncomputable def gBR : List D → (D → Prop) → Prop := fun ds P => ∃ T : List (Rat × Rat), ds = [.lst (T.map bQ)] ∧ T.length ≤ 100 ∧ P (.lst ((bndRows T).map rQ))
private theorem bnd_len (n : Nat) : ∀ (l : List (List BR)), (∀ x ∈ l, x.length = 2) → l.flatten.length = 2 * l.length
  | [], _ => rfl
  | a :: l, h => by rw [List.flatten_cons, List.length_append, h a (by simp), bnd_len n l fun x hx => h x (by simp [hx]), List.length_cons]; omega
noncomputable abbrev s_bound_rows : Stmt := top 20
private theorem sc_bound_rows : FnScope ["shims", "told", "k", "pair"] ["shims"] (defScope s_bound_rows) := ⟨rfl, rfl, rfl, by decide +kernel, rfl, by decide +kernel, by decide +kernel⟩
private theorem h_bound_rows (B : Bl2 mg) (F : Def K mg "bound_rows" s_bound_rows ["shims"]) (F_all_but_one_0 : Has P w K mg base CX0 1 "all_but_one_0" ["length", "place", "q"] (spN K gUnit)) (F_opposite : Has P w K mg base CX0 1 "opposite" ["q"] (spW K (pur gOpp))) (C_ONE : One4 K mg) : Has P w K mg base CX0 2 "bound_rows" ["shims"] (spN K gBR) := by
  refine F.hasN sc_bound_rows (fun ds P h => by obtain ⟨_, rfl, _⟩ := h; rfl) fun f cdv A outer s H E hr => ?_
  have nd := sc_bound_rows.nd
  refine ⟨_, (jss_cons (js_setU (i := 1) nd rfl (Or.inl rfl) (ju_new (jnu_n (jn_lst ja_nil))))
    (jss_cons (js_for PassesOwn.never rfl (ji_enu rfl B.enumerate (ja_cons (jv 0) ja_nil)) (jg_tup (n := 2) rfl (jgs_cons (jg_name (i := 2) nd rfl (Or.inl rfl)) (jgs_cons (jg_name (i := 3) nd rfl (Or.inl rfl)) jgs_nil)))
    (jss_cons (js_appU (ju_v 1) (ju_tup (jua_cons (j_hN F_all_but_one_0 (hr.mono (by decide)) rfl (ja_cons (j_lenV 0 rfl B.len) (ja_cons (jv 2) (ja_cons (j_glob C_ONE rfl) ja_nil)))) (jua_cons (ju_d (j_h F_opposite (hr.mono (by decide)) rfl (ja_cons (j_atV 3 j_int) ja_nil))) jua_nil))))
    (jss_one (js_appU (ju_v 1) (ju_tup (jua_cons (j_hN F_all_but_one_0 (hr.mono (by decide)) rfl (ja_cons (j_lenV 0 rfl B.len) (ja_cons (jv 2) (ja_cons (j_h F_opposite (hr.mono (by decide)) rfl (ja_cons (j_glob C_ONE rfl) ja_nil)) ja_nil)))) (jua_cons (ju_d (j_atV 3 j_int)) jua_nil)))))))
    (jss_one (js_retU (ju_v 1))))), ?_⟩
  rintro ds M Q ⟨T, rfl, l1, k⟩
  refine ⟨by show 0 ≤ sizeLine; decide, fun p hp => ⟨fun i ρ M' => Fresh M M' (.lst ((((T.take i).mapIdx fun k x => bndAt T.length k x).flatten).map rQ)) (.adr p) ∧ ∃ o2 o3, ρ = [.sh (.lst (T.map bQ)), .ut (.adr p), o2, o3], ⟨.newD rfl hp, _, _, rfl⟩, ?_, ?_⟩⟩
  · rintro i d ρ M' hd ⟨fr, o2, o3, rfl⟩
    obtain ⟨x, hx, rfl⟩ := enuD_get hd
    rw [List.getElem?_map, Option.map_eq_some_iff] at hx
    obtain ⟨x, hx, rfl⟩ := hx
    have hi := (List.getElem?_eq_some_iff.mp hx).1
    have hlen : ((((T.take i).mapIdx fun k x => bndAt T.length k x).flatten).map rQ).length ≤ 200 := by
      rw [List.length_map, bnd_len 0 _ (by intro y hy; obtain ⟨j, hj, rfl⟩ := List.mem_mapIdx.mp hy; rfl), List.length_mapIdx, List.length_take]
      omega
    have el : ((T.map bQ).length : Int) = (T.length : Int) := by rw [List.length_map]
    obtain ⟨us, e1, n1, st1⟩ := fr.own_of
    refine ⟨rfl, ⟨us, e1⟩, T.length, i, 1, ?_, hi, by omega, fun u M2 f2 => ⟨x.1, rfl, by show 2 ≤ sizeLine; decide, us, st1 _ _ _ f2, by rw [n1]; exact Nat.lt_of_le_of_lt hlen (by decide), ?_⟩⟩
    · rw [el, Nat.zero_add]
    have fr2 := fr.push (Fresh.tup (.cons f2 (.cons (Fresh.leaf (d := frD (-x.1)) rfl) .nil))) (st1 _ _ _ f2)
    obtain ⟨us2, e2, n2, st2⟩ := fr2.own_of
    refine ⟨⟨us2, e2⟩, 1, rfl, T.length, i, -1, ?_, hi, by omega, fun u3 M3 f3 => ⟨by show 2 ≤ sizeLine; decide, us2, st2 _ _ _ f3, ?_, ?_⟩⟩
    · rw [el, Nat.zero_add]
    · rw [n2, List.length_append]; exact Nat.lt_of_le_of_lt (show _ ≤ 201 by simp at hlen ⊢; omega) (by decide)
    have fr3 := fr2.push (Fresh.tup (.cons f3 (.cons (Fresh.leaf (d := frD x.2) rfl) .nil))) (st2 _ _ _ f3)
    refine ⟨?_, .sh (.int i), .sh (bQ x), ?_⟩
    · rw [mapIdx_take _ hx, List.flatten_append, List.map_append]
      rw [List.append_assoc] at fr3
      exact fr3
    · rw [Nat.zero_add]; rfl
  · rintro ρ M' ⟨fr, o2, o3, rfl⟩
    rw [enuD_len, List.length_map, List.take_length] at fr
    exact ⟨_, _, Sub.refl _, fr, k⟩
noncomputable abbrev ZR := List Rat × List Rat × Rat
noncomputable def zQ (z : ZR) : D := .tup [frL z.1, frL z.2.1, frD z.2.2]
private theorem take_map' {α : Type} {f : α → D} {l : List α} {i : Nat} {x : α} (h : l[i]? = some x) : (l.take i).map f ++ [f x] = (l.take (i + 1)).map f := by
  rw [List.take_add_one, h, List.map_append]; rfl

/-! ### plans as trees -/
noncomputable def planQ (S T : List (Rat × Rat)) (Z : List ZR) : D := .tup [.lst (S.map bQ), .lst (T.map bQ), .lst (Z.map zQ)]
private theorem map_get {α : Type} {f : α → D} {l : List α} {i : Nat} {d : D} (h : (l.map f)[i]? = some d) : ∃ x, l[i]? = some x ∧ d = f x := by
  rw [List.getElem?_map, Option.map_eq_some_iff] at h
  obtain ⟨x, e, rfl⟩ := h
  exact ⟨x, e, rfl⟩
private theorem all_snoc {α : Type} {l : List α} {x : α} {p : α → Prop} (h : ∀ y ∈ l, p y) (k : p x) : ∀ y ∈ l ++ [x], p y := fun y hy => by
  rcases List.mem_append.mp hy with z | z
  · exact h y z
  · rw [List.mem_singleton] at z; subst z; exact k
private theorem ixN_ok {n k : Nat} (h : k < n) : ixN n (k : Int) = some k := by
  unfold ixN
  rw [if_pos (by omega), if_pos (by omega)]
  rfl
private theorem at_nat {α : Type} {ds : List α} {k : Nat} {d : α} (h : ds[k]? = some d) : atI ds (k : Int) = some d := by
  have := (List.getElem?_eq_some_iff.mp h).1
  unfold atI
  rw [ixN_ok this]; exact h
private theorem RIx.get {ds : List D} {k : Nat} {d : D} {P : D → Prop} (h : ds[k]? = some d) (p : P d) : RIx (.lst ds) (.int (k : Int)) P := by
  show match atI ds (k : Int) with | some d => P d | none => False
  rw [at_nat h]; exact p
private theorem at_mem {ds : List D} {i : Int} (h0 : 0 ≤ i) (h1 : i < ds.length) : ∃ d, d ∈ ds ∧ atI ds i = some d := by
  have hi : i.toNat < ds.length := by omega
  refine ⟨ds[i.toNat], List.getElem_mem hi, ?_⟩
  unfold atI ixN
  rw [if_pos (by omega), if_pos (by omega)]
  exact List.getElem?_eq_getElem hi
private theorem RIx.lst {ds : List D} {i : Int} {P : D → Prop} (h0 : 0 ≤ i) (h1 : i < ds.length) (k : ∀ d, d ∈ ds → P d) : RIx (.lst ds) (.int i) P := by
  obtain ⟨d, h2, h3⟩ := at_mem h0 h1
  show match atI ds i with | some d => P d | none => False
  rw [h3]; exact k d h2
private theorem deps_map' {α : Type} {f : α → D} {n : Nat} (h : ∀ a, dep (f a) ≤ n) : ∀ l : List α, deps (l.map f) ≤ n
  | [] => by rw [List.map_nil, deps]; exact Nat.zero_le _
  | x :: l => by rw [List.map_cons, deps]; exact Nat.max_le.mpr ⟨h x, deps_map' h l⟩
private theorem dep_frD1 (q : Rat) : dep (frD q) ≤ 1 := by simp [frD, dep, deps]
private theorem dep_frL (qs : List Rat) : dep (frL qs) ≤ 2 := by rw [dep]; exact Nat.succ_le_succ (deps_map' dep_frD1 qs)
private theorem dep_zQ (z : ZR) : dep (zQ z) ≤ 3 := by
  have h1 := dep_frL z.1
  have h2 := dep_frL z.2.1
  have h3 := dep_frD1 z.2.2
  simp only [zQ, dep, deps] at h1 h2 ⊢; omega
private theorem frI (i : Int) : D.tup [.int i, .int 1] = frD (i : Rat) := by rw [frD, Rat.num_intCast, Rat.den_intCast]; rfl

/-! ### rows put on, shims taken out -/
noncomputable def gBelow : List D → (D → Prop) → Prop := fun ds P => ∃ q r : Rat, ds = [frD q, frD r] ∧ Mx q r ∧ P (.bl (decide (q < r)))
noncomputable abbrev s_below : Stmt := top 13
private theorem sc_below : FnScope ["q", "r"] ["q", "r"] (defScope s_below) := ⟨rfl, rfl, rfl, by decide +kernel, rfl, by decide +kernel, by decide +kernel⟩
private theorem h_below (B : Bl mg) (F : Def K mg "below" s_below ["q", "r"]) : Has P w K mg base CX0 1 "below" ["q", "r"] (spW K (pur gBelow)) := by
  refine F.hasP sc_below (fun ds P h => by obtain ⟨a, b, rfl, _⟩ := h; rfl) fun f cdv A outer s H E hr => ?_
  have nd := sc_below.nd
  refine ⟨_, (jss_one (js_ret (j_lt (j_mul (j_atV 0 j_int) (j_atV 1 j_int)) (j_mul (j_atV 1 j_int) (j_atV 0 j_int))))), ?_⟩
  rintro ds M Q ⟨q, r, rfl, m, k⟩
  exact ⟨m.c1, m.c2, _, Sub.refl _, by have := r_lt q r; dsimp only at this ⊢; rw [this]; exact k⟩
noncomputable abbrev hBelow (P : Program) (w : World) (K : PySem.W.Frag) (mg : Str → Option Value) (base : Heap) : Prop := Has P w K mg base CX0 1 "below" ["q", "r"] (spW K (pur gBelow))
noncomputable abbrev hPlus (P : Program) (w : World) (K : PySem.W.Frag) (mg : Str → Option Value) (base : Heap) : Prop := Has P w K mg base CX0 3 "plus" ["q", "r"] (spW K (pur (gOp fun q r => q + r)))
noncomputable abbrev hTimes (P : Program) (w : World) (K : PySem.W.Frag) (mg : Str → Option Value) (base : Heap) : Prop := Has P w K mg base CX0 3 "times" ["q", "r"] (spW K (pur (gOp fun q r => q * r)))
structure RowOk (s t n : Nat) (z : ZR) : Prop where
  s : z.1.length = s
  t : z.2.1.length = t
  a : ∀ q ∈ z.1, SmR n q
  b : ∀ q ∈ z.2.1, SmR n q
  c : SmR n z.2.2
private theorem RowOk.mono {s t n m : Nat} {z : ZR} (h : RowOk s t n z) (l : n ≤ m) : RowOk s t m z := ⟨h.s, h.t, fun q hq => (h.a q hq).mono l, fun q hq => (h.b q hq).mono l, h.c.mono l⟩
noncomputable def idle (z : ZR) : Bool := (z.1 ++ z.2.1).all (fun q => decide (q = 0)) && !decide (z.2.2 < 0)
private theorem small10k {n : Nat} (h : n ≤ 100000) : n < sizeLine := Nat.lt_of_le_of_lt h (by rw [sizeLine_eq]; decide)
private theorem frD_inj {q r : Rat} (h : frD q = frD r) : q = r := by
  have := frD_eq q r
  rw [h, peq_refl] at this
  simpa using this.symm
private theorem frDs_inj : ∀ {qs rs : List Rat}, qs.map frD = rs.map frD → qs = rs
  | [], [], _ => rfl
  | [], _ :: _, h => by simp at h
  | _ :: _, [], h => by simp at h
  | q :: qs, r :: rs, h => by
    rw [List.map_cons, List.map_cons] at h
    injection h with h1 h2
    rw [frD_inj h1, frDs_inj h2]
noncomputable def gSN : List D → (D → Prop) → Prop := fun ds P => ∃ (z : ZR) (s t : Nat), ds = [zQ z] ∧ RowOk s t 4000 z ∧ s ≤ 100 ∧ t ≤ 100 ∧ P (.bl (idle z))
noncomputable abbrev s_says_nothing : Stmt := top 22
private theorem sc_says_nothing : FnScope ["row"] ["row"] (defScope s_says_nothing) := ⟨rfl, rfl, rfl, by decide +kernel, rfl, by decide +kernel, by decide +kernel⟩
private theorem h_says_nothing (B : Bl mg) (F : Def K mg "says_nothing" s_says_nothing ["row"]) (F_below : hBelow P w K mg base) (C_ZERO : Zero4 K mg) : Has P w K mg base CX0 2 "says_nothing" ["row"] (spW K (pur gSN)) := by
  refine F.hasP sc_says_nothing (fun ds P h => by obtain ⟨_, _, _, rfl, _⟩ := h; rfl) fun f cdv A outer s H E hr => ?_
  have nd := sc_says_nothing.nd
  refine ⟨_, (jss_one (js_ret (j_and (j_all rfl B.all rfl (ja_cons (j_fz (jn_lc ["q"] [none] ⟨rfl, by decide +kernel, by decide +kernel, rfl, rfl, by intro i x j _ h; exact absurd h (by rcases i with _ | _ | _ | i <;> simp)⟩ rfl (ji_list (j_fz (jn_cat (j_atV 0 j_int) (j_atV 0 j_int)))) (fun _ _ _ _ _ => (jg_name (i := 0) (show List.Nodup [("q" : Str)] by decide +kernel) rfl (Or.inl rfl))) (fun _ _ _ _ _ => jc_nil) (fun _ _ _ _ _ => (j_eq hr (jv 0) (j_glob C_ZERO rfl))))) ja_nil)) (j_one (j_not (j_h F_below (hr.mono (by decide)) rfl (ja_cons (j_atV 0 j_int) (ja_cons (j_glob C_ZERO rfl) ja_nil)))))))), ?_⟩
  rintro ds M Q ⟨z, s, t, rfl, ok, hs, ht, k⟩
  have l1 := ok.s
  have l2 := ok.t
  refine ⟨Nat.le_trans (show _ ≤ 200 by rw [List.length_map, List.length_map]; omega) (by rw [sizeLine_eq]; decide), ?_⟩
  refine ⟨fun i out ρ M' => M' = M ∧ out = ((z.1 ++ z.2.1).take i).map (fun q => D.bl (decide (q = 0))) ∧ ∃ o, ρ = [o], ⟨rfl, rfl, _, rfl⟩, ?_, ?_⟩
  · rintro i d out ρ M' hd ⟨rfl, rfl, o, rfl⟩
    have hd : (z.1.map frD ++ z.2.1.map frD)[i]? = some d := hd
    rw [← List.map_append] at hd
    obtain ⟨q, hq, rfl⟩ := map_get hd
    have hi := (List.getElem?_eq_some_iff.mp hq).1
    rw [List.length_append] at hi
    refine ⟨Nat.le_trans (dep_frD1 q) (by decide), by rw [List.length_map, List.length_take]; exact small1000 (by omega), rfl, ?_, .sh (frD q), rfl⟩
    rw [← take_map' (f := fun q : Rat => D.bl (decide (q = 0))) hq]
    have := frD_eq q 0
    rw [← this]
  rintro out ρ M' ⟨rfl, rfl, o, rfl⟩
  have el : (z.1.map frD ++ z.2.1.map frD).length = (z.1 ++ z.2.1).length := by rw [← List.map_append, List.length_map]
  rw [el, List.take_length]
  show match bls ((z.1 ++ z.2.1).map fun q => D.bl (decide (q = 0))) with | some bs => _ | none => False
  have eb : ((z.1 ++ z.2.1).map fun q => D.bl (decide (q = 0))) = ((z.1 ++ z.2.1).map fun q => decide (q = 0)).map D.bl := by rw [List.map_map]; rfl
  rw [eb, bls_map]
  show if ((z.1 ++ z.2.1).map fun q => decide (q = 0)).all id = true then _ else _
  have ea : ((z.1 ++ z.2.1).map fun q => decide (q = 0)).all id = (z.1 ++ z.2.1).all (fun q => decide (q = 0)) := by rw [List.all_map]; rfl
  rw [ea]
  unfold idle at k
  refine iteB (fun c => ?_) (fun c => ?_)
  · rw [c, Bool.true_and] at k
    exact ⟨z.2.2, 0, rfl, Mx.of ok.c sm0, _, Sub.refl _, k⟩
  · rw [c, Bool.false_and] at k
    exact ⟨_, Sub.refl _, k⟩
noncomputable def onR (acc : List ZR) (z : ZR) : List ZR := if idle z then acc else if z ∈ acc then acc else acc ++ [z]
noncomputable def onQ (R : List ZR) : List ZR := R.foldl onR []
noncomputable def kQ (z : ZR) : D := .tup [.tup (z.1.map frD), .tup (z.2.1.map frD), frD z.2.2]
private theorem kQ_inj {y z : ZR} (h : kQ y = kQ z) : y = z := by
  unfold kQ at h
  injection h with h
  injection h with h1 h
  injection h1 with h1
  injection h with h2 h
  injection h2 with h2
  injection h with h3 _
  obtain ⟨a, b, c⟩ := y
  obtain ⟨a', b', c'⟩ := z
  simp only at h1 h2 h3
  rw [frDs_inj h1, frDs_inj h2, frD_inj h3]
private theorem onR_sub {acc : List ZR} {z y : ZR} (h : y ∈ onR acc z) : y ∈ acc ∨ y = z := by
  unfold onR at h
  split at h
  · exact .inl h
  · split at h
    · exact .inl h
    · rcases List.mem_append.mp h with h | h
      · exact .inl h
      · exact .inr (List.mem_singleton.mp h)
private theorem onR_len (acc : List ZR) (z : ZR) : (onR acc z).length ≤ acc.length + 1 := by
  unfold onR
  split
  · omega
  · split
    · omega
    · simp
private theorem on_len (R : List ZR) : (onQ R).length ≤ R.length := by
  unfold onQ
  have : ∀ (R acc : List ZR), (R.foldl onR acc).length ≤ acc.length + R.length := by
    intro R
    induction R with
    | nil => intro acc; simp
    | cons z R ih =>
      intro acc
      rw [List.foldl_cons, List.length_cons]
      have h1 := ih (onR acc z)
      have h2 := onR_len acc z
      omega
  have := this R []
  simpa using this
private theorem on_mem {R : List ZR} {y : ZR} (h : y ∈ onQ R) : y ∈ R := by
  unfold onQ at h
  have : ∀ (R acc : List ZR), y ∈ R.foldl onR acc → y ∈ acc ∨ y ∈ R := by
    intro R
    induction R with
    | nil => intro acc h; exact .inl h
    | cons z R ih =>
      intro acc h
      rw [List.foldl_cons] at h
      rcases ih _ h with h | h
      · rcases onR_sub h with h | h
        · exact .inl h
        · exact .inr (by simp [h])
      · exact .inr (by simp [h])
  rcases this R [] h with h | h
  · cases h
  · exact h
private theorem kOks_fr : ∀ qs : List Rat, kOks (qs.map frD) = true
  | [] => rfl
  | q :: qs => by rw [List.map_cons, kOks, kOks_fr qs]; rfl
private theorem kOk_kQ (z : ZR) : kOk (kQ z) = true := by
  unfold kQ
  simp only [kOk, kOks, kOks_fr, Bool.true_and, Bool.and_true]
  rfl
private theorem dep_kQ (z : ZR) : dep (kQ z) ≤ 8 := by
  have h1 := deps_map' dep_frD1 z.1
  have h2 := deps_map' dep_frD1 z.2.1
  have h3 := dep_frD1 z.2.2
  simp only [kQ, dep, deps] at h1 h2 ⊢; omega
private theorem foldl_take {α β : Type} {f : β → α → β} {z : β} {l : List α} {i : Nat} {x : α} (h : l[i]? = some x) : (l.take (i + 1)).foldl f z = f ((l.take i).foldl f z) x := by
  rw [List.take_add_one, h, Option.toList_some, List.foldl_append]; rfl
noncomputable def gOn : List D → (D → Prop) → Prop := fun ds P => ∃ (R : List ZR) (s t : Nat), ds = [.lst (R.map zQ)] ∧ R.length ≤ 100000 ∧ s ≤ 100 ∧ t ≤ 100 ∧ (∀ z ∈ R, RowOk s t 4000 z) ∧ P (.lst ((onQ R).map zQ))
noncomputable abbrev s_put_on : Stmt := top 23
private theorem sc_put_on : FnScope ["rows", "told", "row"] ["rows"] (defScope s_put_on) := ⟨rfl, rfl, rfl, by decide +kernel, rfl, by decide +kernel, by decide +kernel⟩
private theorem h_put_on (B : Bl mg) (F : Def K mg "put_on" s_put_on ["rows"]) (F_says_nothing : Has P w K mg base CX0 2 "says_nothing" ["row"] (spW K (pur gSN))) : Has P w K mg base CX0 3 "put_on" ["rows"] (spW K (pur gOn)) := by
  refine F.hasP sc_put_on (fun ds P h => by obtain ⟨_, _, _, rfl, _⟩ := h; rfl) fun f cdv A outer s H E hr => ?_
  have nd := sc_put_on.nd
  refine ⟨_, (jss_cons (js_newT (i := 1) nd rfl (Or.inl rfl))
    (jss_cons (js_for PassesOwn.never rfl (ji_list (jv 0)) (jg_name (i := 2) nd rfl (Or.inl rfl))
    (jss_one (js_if (jt_not (jt (j_h F_says_nothing (hr.mono (by decide)) rfl (ja_cons (jv 2) ja_nil)))) (jss_one (js_sd 1 (u10 hr) (ja_cons (j_tup (ja_cons (j_tupc rfl B.tuple (ja_cons (j_atV 2 j_int) ja_nil)) (ja_cons (j_tupc rfl B.tuple (ja_cons (j_atV 2 j_int) ja_nil)) (ja_cons (j_atV 2 j_int) ja_nil)))) (ja_cons (jv 2) ja_nil)))) jss_nil)))
    (jss_one (js_ret (j_fz (jn_vals (pos2 := ⟨0, 0, 0, 0⟩) 1 rfl B.list rfl)))))), ?_⟩
  rintro ds M Q ⟨R, s, t, rfl, lR, hs, ht, ok, k⟩
  intro p hp
  refine ⟨fun i ρ M' => (M' = mset M p (.tk (((R.take i).foldl onR []).map fun z => (kQ z, zQ z)))) ∧ ∃ o2, ρ = [.sh (.lst (R.map zQ)), .rf p, o2], ⟨rfl, _, rfl⟩, ?_, ?_⟩
  · rintro i d ρ M' hd ⟨rfl, o2, rfl⟩
    obtain ⟨z, hz, rfl⟩ := map_get hd
    have zm := List.mem_of_getElem? hz
    have hi := (List.getElem?_eq_some_iff.mp hz).1
    have eo : (R.take (i + 1)).foldl onR [] = onR ((R.take i).foldl onR []) z := foldl_take hz
    have lo : ((R.take i).foldl onR []).length ≤ i := by
      have := on_len (R.take i)
      rw [List.length_take] at this
      exact Nat.le_trans this (by omega)
    generalize (R.take i).foldl onR [] = acc at eo lo
    refine ⟨z, s, t, rfl, ok z zm, hs, ht, ?_⟩
    show if (!idle z) = true then _ else _
    refine iteB (fun c => ?_) (fun c => ?_)
    · have c' : idle z = false := by simpa using c
      refine ⟨⟨_, mset_same⟩, by show 3 ≤ sizeLine; decide, _, _, _, rfl, mset_same, kOk_kQ z, dep_kQ z, by rw [List.length_map]; exact small10k (by omega), ?_, .sh (zQ z), rfl⟩
      rw [mset_mset, eo, onR, c']
      have ek : (acc.map fun z => (kQ z, zQ z)).map (·.1) = acc.map kQ := by rw [List.map_map]; rfl
      have em : kQ z ∈ (acc.map fun z => (kQ z, zQ z)).map (·.1) ↔ z ∈ acc := by
        rw [ek, List.mem_map]
        exact ⟨fun ⟨y, hy, e⟩ => kQ_inj e ▸ hy, fun h => ⟨z, h, rfl⟩⟩
      show mset M p (.tk (sdK (acc.map fun z => (kQ z, zQ z)) (kQ z) (zQ z))) = _
      unfold sdK
      by_cases h : z ∈ acc
      · rw [if_pos (em.mpr h), if_neg Bool.false_ne_true, if_pos h]
      · rw [if_neg (fun x => h (em.mp x)), if_neg Bool.false_ne_true, if_neg h, List.map_append]; rfl
    · have c' : idle z = true := by simpa using c
      refine ⟨?_, .sh (zQ z), rfl⟩
      rw [eo, onR, c', if_pos rfl]
  · rintro ρ M' ⟨rfl, o2, rfl⟩
    rw [List.length_map, List.take_length]
    have lo := on_len R
    refine ⟨_, mset_same, by rw [List.length_map]; exact Nat.le_trans lo lR, M, (Sub.refl M).mset hp, ?_⟩
    have e : ((R.foldl onR []).map fun z => (kQ z, zQ z)).map (·.2) = (onQ R).map zQ := by rw [List.map_map]; rfl
    rw [e]
    exact k

noncomputable def gCR : List D → (D → Prop) → Prop := fun ds P => ∃ Z : List ZR, ds = [.lst (Z.map zQ)] ∧ Z.length ≤ 1000 ∧ P (.lst (Z.map zQ))
noncomputable abbrev s_copied_rows : Stmt := top 15
private theorem sc_copied_rows : FnScope ["rows"] ["rows"] (defScope s_copied_rows) := ⟨rfl, rfl, rfl, by decide +kernel, rfl, by decide +kernel, by decide +kernel⟩
private theorem h_copied_rows (B : Bl mg) (F : Def K mg "copied_rows" s_copied_rows ["rows"]) : Has P w K mg base CX0 1 "copied_rows" ["rows"] (spN K gCR) := by
  refine F.hasN sc_copied_rows (fun ds P h => by obtain ⟨_, rfl, _⟩ := h; rfl) fun f cdv A outer s H E hr => ?_
  have nd := sc_copied_rows.nd
  refine ⟨_, (jss_one (js_retU (ju_new (jnu_lc ["a", "b", "c"] [none, none, none] ⟨rfl, by decide +kernel, by decide +kernel, rfl, rfl, by intro i x j _ h; exact absurd h (by rcases i with _ | _ | _ | i <;> simp)⟩ rfl (ji_list (jv 0)) (fun _ _ _ _ _ => (jg_tup (n := 3) rfl (jgs_cons (jg_name (i := 0) (show List.Nodup [("a" : Str), ("b" : Str), ("c" : Str)] by decide +kernel) rfl (Or.inl rfl)) (jgs_cons (jg_name (i := 1) (show List.Nodup [("a" : Str), ("b" : Str), ("c" : Str)] by decide +kernel) rfl (Or.inl rfl)) (jgs_cons (jg_name (i := 2) (show List.Nodup [("a" : Str), ("b" : Str), ("c" : Str)] by decide +kernel) rfl (Or.inl rfl)) jgs_nil))))) (fun _ _ _ _ _ => jc_nil) (fun _ _ _ _ _ => (ju_tup (jua_cons (ju_new (jnu_n (jn_list rfl B.list (ja_cons (jv 0) ja_nil)))) (jua_cons (ju_new (jnu_n (jn_list rfl B.list (ja_cons (jv 1) ja_nil)))) (jua_cons (ju_d (jv 2)) jua_nil))))))))), ?_⟩
  rintro ds M Q ⟨Z, rfl, l, k⟩
  refine ⟨fun i out ρ M' => Freshs M M' ((Z.take i).map zQ) out ∧ ∃ o1 o2 o3, ρ = [o1, o2, o3], ⟨.nil, _, _, _, rfl⟩, ?_, ?_⟩
  · rintro i d out ρ M' hd ⟨fr, o1, o2, o3, rfl⟩
    obtain ⟨z, hz, rfl⟩ := map_get hd
    have hi := (List.getElem?_eq_some_iff.mp hz).1
    have lo : out.length ≤ 1000 := by
      obtain ⟨A, h1, _⟩ := fr
      rw [← h1.length, List.length_map, List.length_take]; omega
    refine ⟨rfl, fun p hp p2 hp2 => ⟨by show 3 ≤ sizeLine; decide, small1000 (by omega), ?_, .sh (frL z.1), .sh (frL z.2.1), .sh (frD z.2.2), rfl⟩⟩
    rw [← take_map' (f := zQ) hz]
    exact fr.snoc (.tup (.cons (.newD (noLs_map fun _ => rfl) hp) (.cons (.newD (noLs_map fun _ => rfl) hp2) (.cons (.leaf rfl) .nil))))
  · rintro out ρ M' ⟨fr, o1, o2, o3, rfl⟩
    rw [List.length_map, List.take_length] at fr
    exact fun p hp => ⟨_, _, Sub.refl _, .new fr hp, k⟩

noncomputable def shimR (S T : List (Rat × Rat)) : List ZR := (bndRows T).map fun r => (List.replicate S.length 0, r.1, r.2)
noncomputable def gSR : List D → (D → Prop) → Prop := fun ds P => ∃ (S T : List (Rat × Rat)) (Z : List ZR), ds = [planQ S T Z] ∧ S.length ≤ 100 ∧ T.length ≤ 100 ∧ P (.lst ((shimR S T).map zQ))
private theorem bnd_rows_len (T : List (Rat × Rat)) : (bndRows T).length = 2 * T.length := by
  unfold bndRows
  rw [bnd_len 0 _ (by intro y hy; obtain ⟨j, hj, rfl⟩ := List.mem_mapIdx.mp hy; rfl), List.length_mapIdx]
noncomputable abbrev s_shim_rows : Stmt := top 24
private theorem sc_shim_rows : FnScope ["plan"] ["plan"] (defScope s_shim_rows) := ⟨rfl, rfl, rfl, by decide +kernel, rfl, by decide +kernel, by decide +kernel⟩
private theorem h_shim_rows (B : Bl mg) (F : Def K mg "shim_rows" s_shim_rows ["plan"]) (F_bound_rows : Has P w K mg base CX0 2 "bound_rows" ["shims"] (spN K gBR)) (C_ZERO : Zero4 K mg) : Has P w K mg base CX0 3 "shim_rows" ["plan"] (spW K (pur gSR)) := by
  refine F.hasP sc_shim_rows (fun ds P h => by obtain ⟨_, _, _, rfl, _⟩ := h; rfl) fun f cdv A outer s H E hr => ?_
  have nd := sc_shim_rows.nd
  refine ⟨_, (jss_one (js_ret (j_fz (jn_lc ["b", "d", "plan"] [none, none, some 0] ⟨rfl, by decide +kernel, by decide +kernel, rfl, rfl, free_of rfl⟩ rfl (ji_list (j_h (L3.Has.toW F_bound_rows) (hr.mono (by decide)) rfl (ja_cons (j_atV 0 j_int) ja_nil))) (fun _ _ _ _ _ => (jg_tup (n := 2) rfl (jgs_cons (jg_name (i := 0) (show List.Nodup [("b" : Str), ("d" : Str), ("plan" : Str)] by decide +kernel) rfl (Or.inl rfl)) (jgs_cons (jg_name (i := 1) (show List.Nodup [("b" : Str), ("d" : Str), ("plan" : Str)] by decide +kernel) rfl (Or.inl rfl)) jgs_nil)))) (fun _ _ _ _ _ => jc_nil) (fun _ _ _ _ _ => (j_tup (ja_cons (j_fz (jn_lc ["pair"] [none] ⟨rfl, by decide +kernel, by decide +kernel, rfl, rfl, by intro i x j _ h; exact absurd h (by rcases i with _ | _ | _ | i <;> simp)⟩ rfl (ji_list (j_atV 2 j_int)) (fun _ _ _ _ _ => (jg_name (i := 0) (show List.Nodup [("pair" : Str)] by decide +kernel) rfl (Or.inl rfl))) (fun _ _ _ _ _ => jc_nil) (fun _ _ _ _ _ => (j_glob C_ZERO rfl)))) (ja_cons (jv 0) (ja_cons (jv 1) ja_nil))))))))), ?_⟩
  rintro ds M Q ⟨S, T, Z, rfl, lS, lT, k⟩
  have lb := bnd_rows_len T
  refine ⟨T, rfl, lT, fun i out ρ M' => M' = M ∧ out = ((bndRows T).take i).map (fun r => zQ (List.replicate S.length 0, r.1, r.2)) ∧ ∃ o1 o2, ρ = [o1, o2, .sh (planQ S T Z)], ⟨rfl, rfl, _, _, rfl⟩, ?_, ?_⟩
  · rintro i d out ρ M' hd ⟨rfl, rfl, o1, o2, rfl⟩
    obtain ⟨r, hr', rfl⟩ := map_get hd
    have hi := (List.getElem?_eq_some_iff.mp hr').1
    refine ⟨rfl, fun j out ρ M2 => M2 = M' ∧ out = List.replicate j (frD 0) ∧ ∃ o, ρ = [o], ⟨rfl, rfl, _, rfl⟩, ?_, ?_⟩
    · rintro j d out ρ M2 hd ⟨rfl, rfl, o, rfl⟩
      have hj := (List.getElem?_eq_some_iff.mp hd).1
      have hj : j < (S.map bQ).length := hj
      rw [List.length_map] at hj
      exact ⟨by rw [List.length_replicate]; exact small1000 (by omega), rfl, by rw [List.replicate_succ'], .sh d, rfl⟩
    rintro out2 ρ M2 ⟨rfl, h2, o, rfl⟩
    have h2 : out2 = List.replicate (S.map bQ).length (frD 0) := h2
    rw [List.length_map] at h2
    have e2 : D.lst out2 = frL (List.replicate S.length 0) := by rw [h2, frL, List.map_replicate]
    refine ⟨by show 3 ≤ sizeLine; decide, by rw [List.length_map, List.length_take]; exact small1000 (by omega), rfl, ?_, .sh (frL r.1), .sh (frD r.2), rfl⟩
    rw [← take_map' (f := fun r : BR => zQ (List.replicate S.length 0, r.1, r.2)) hr', e2]
    rfl
  · rintro out ρ M' ⟨rfl, rfl, o1, o2, rfl⟩
    rw [List.length_map, List.take_length]
    have e : ((bndRows T).map fun r => zQ (List.replicate S.length 0, r.1, r.2)) = (shimR S T).map zQ := by rw [shimR, List.map_map]; rfl
    rw [e]
    exact ⟨_, Sub.refl _, k⟩
structure PlR (n : Nat) (S T : List (Rat × Rat)) (Z : List ZR) : Prop where
  s : S.length ≤ 10
  t : T.length ≤ 10
  z : Z.length ≤ 10
  r : ∀ z ∈ Z, RowOk S.length T.length n z
  b : ∀ x ∈ T, SmR n x.1 ∧ SmR n x.2
  n1 : 1 ≤ n
  n2 : n ≤ 2000
private theorem sm1 {n : Nat} (h : 1 ≤ n) : SmR n 1 := SmR.mono (a := 1) ⟨by unfold Sm; decide, by unfold Sm; decide⟩ h
private theorem smN {n : Nat} (h : 1 ≤ n) : SmR n (-1) := SmR.mono (a := 1) ⟨by unfold Sm; decide, by unfold Sm; decide⟩ h
private theorem smr_neg {n : Nat} {q : Rat} (h : SmR n q) : SmR n (-q) := ⟨by rw [Rat.neg_num]; exact h.1.neg, by rw [Rat.neg_den]; exact h.2⟩
private theorem unit_mem {n k : Nat} {q x : Rat} (h : x ∈ unitQ n k q) : x = 0 ∨ x = q := by
  unfold unitQ at h
  rcases List.mem_or_eq_of_mem_set h with h | h
  · exact .inl (List.eq_of_mem_replicate h)
  · exact .inr h
private theorem shim_ok {n : Nat} {S T : List (Rat × Rat)} {Z : List ZR} (pl : PlR n S T Z) : ∀ z ∈ shimR S T, RowOk S.length T.length n z := by
  intro z hz
  obtain ⟨r, hr, rfl⟩ := List.mem_map.mp hz
  unfold bndRows at hr
  obtain ⟨l, hl, hr⟩ := List.mem_flatten.mp hr
  obtain ⟨j, hj, rfl⟩ := List.mem_mapIdx.mp hl
  obtain ⟨b1, b2⟩ := pl.b _ (List.getElem_mem hj)
  have u : ∀ q : Rat, SmR n q → ∀ x ∈ unitQ T.length j q, SmR n x := fun q hq x hx => by
    rcases unit_mem hx with rfl | rfl
    · exact sm0.mono pl.n1
    · exact hq
  have ul : ∀ q : Rat, (unitQ T.length j q).length = T.length := fun q => by simp [unitQ]
  have z0 : ∀ x ∈ List.replicate S.length (0 : Rat), SmR n x := fun x hx => by rw [List.eq_of_mem_replicate hx]; exact sm0.mono pl.n1
  simp only [bndAt, List.mem_cons, List.not_mem_nil, or_false] at hr
  rcases hr with rfl | rfl
  · exact ⟨List.length_replicate, ul 1, z0, u 1 (sm1 pl.n1), smr_neg b1⟩
  · exact ⟨List.length_replicate, ul (-1), z0, u (-1) (smN pl.n1), b2⟩
noncomputable def firstQ (S T : List (Rat × Rat)) (Z : List ZR) : List ZR := onQ (Z ++ shimR S T)
noncomputable def gFirst : List D → (D → Prop) → Prop := fun ds P => ∃ (n : Nat) (S T : List (Rat × Rat)) (Z : List ZR), ds = [planQ S T Z] ∧ PlR n S T Z ∧ P (.lst ((firstQ S T Z).map zQ))
private theorem shim_len (S T : List (Rat × Rat)) : (shimR S T).length = 2 * T.length := by rw [shimR, List.length_map, bnd_rows_len]
noncomputable abbrev s_first_rows : Stmt := top 25
private theorem sc_first_rows : FnScope ["plan"] ["plan"] (defScope s_first_rows) := ⟨rfl, rfl, rfl, by decide +kernel, rfl, by decide +kernel, by decide +kernel⟩
private theorem h_first_rows (B : Bl mg) (F : Def K mg "first_rows" s_first_rows ["plan"]) (F_put_on : Has P w K mg base CX0 3 "put_on" ["rows"] (spW K (pur gOn))) (F_copied_rows : Has P w K mg base CX0 1 "copied_rows" ["rows"] (spN K gCR)) (F_shim_rows : Has P w K mg base CX0 3 "shim_rows" ["plan"] (spW K (pur gSR))) : Has P w K mg base CX0 4 "first_rows" ["plan"] (spW K (pur gFirst)) := by
  refine F.hasP sc_first_rows (fun ds P h => by obtain ⟨_, _, _, _, rfl, _⟩ := h; rfl) fun f cdv A outer s H E hr => ?_
  have nd := sc_first_rows.nd
  refine ⟨_, (jss_one (js_ret (j_h F_put_on (hr.mono (by decide)) rfl (ja_cons (j_fz (jn_cat (j_h (L3.Has.toW F_copied_rows) (hr.mono (by decide)) rfl (ja_cons (j_atV 0 j_int) ja_nil)) (j_h F_shim_rows (hr.mono (by decide)) rfl (ja_cons (jv 0) ja_nil)))) ja_nil)))), ?_⟩
  rintro ds M Q ⟨n, S, T, Z, rfl, pl, k⟩
  have lS := pl.s
  have lT := pl.t
  have lZ := pl.z
  have ls := shim_len S T
  refine ⟨Z, rfl, by omega, S, T, Z, rfl, by omega, by omega, Nat.le_trans (show _ ≤ 100 by rw [List.length_map, List.length_map]; omega) (by rw [sizeLine_eq]; decide), Z ++ shimR S T, S.length, T.length, by rw [List.map_append], by rw [List.length_append]; omega, by omega, by omega, fun z hz => ?_, _, Sub.refl _, k⟩
  rcases List.mem_append.mp hz with hz | hz
  · exact (pl.r z hz).mono (Nat.le_trans pl.n2 (by decide))
  · exact (shim_ok pl z hz).mono (Nat.le_trans pl.n2 (by decide))
noncomputable def mixQ (q : Rat) (a : List Rat) (r : Rat) (b : List Rat) : List Rat := List.zipWith (fun x y => q * x + r * y) a b
noncomputable def gMix : List D → (D → Prop) → Prop := fun ds P => ∃ (n : Nat) (q r : Rat) (a b : List Rat), ds = [frD q, frL a, frD r, frL b] ∧ n ≤ 2000 ∧ SmR n q ∧ SmR n r ∧ (∀ x ∈ a, SmR n x) ∧ (∀ x ∈ b, SmR n x) ∧ a.length = b.length ∧ a.length ≤ 100 ∧ P (frL (mixQ q a r b))
noncomputable abbrev s_mixed : Stmt := top 26
private theorem sc_mixed : FnScope ["q", "one", "r", "other"] ["q", "one", "r", "other"] (defScope s_mixed) := ⟨rfl, rfl, rfl, by decide +kernel, rfl, by decide +kernel, by decide +kernel⟩
private theorem h_mixed (B : Bl mg) (F : Def K mg "mixed" s_mixed ["q", "one", "r", "other"]) (F_plus : hPlus P w K mg base) (F_times : hTimes P w K mg base) : Has P w K mg base CX0 4 "mixed" ["q", "one", "r", "other"] (spW K (pur gMix)) := by
  refine F.hasP sc_mixed (fun ds P h => by obtain ⟨_, _, _, _, _, rfl, _⟩ := h; rfl) fun f cdv A outer s H E hr => ?_
  have nd := sc_mixed.nd
  refine ⟨_, (jss_one (js_ret (j_fz (jn_lc ["x", "y", "q", "r"] [none, none, some 0, some 2] ⟨rfl, by decide +kernel, by decide +kernel, rfl, rfl, free_of rfl⟩ rfl (ji_zip rfl B.zip (ja_cons (jv 1) (ja_cons (jv 3) ja_nil))) (fun _ _ _ _ _ => (jg_tup (n := 2) rfl (jgs_cons (jg_name (i := 0) (show List.Nodup [("x" : Str), ("y" : Str), ("q" : Str), ("r" : Str)] by decide +kernel) rfl (Or.inl rfl)) (jgs_cons (jg_name (i := 1) (show List.Nodup [("x" : Str), ("y" : Str), ("q" : Str), ("r" : Str)] by decide +kernel) rfl (Or.inl rfl)) jgs_nil)))) (fun _ _ _ _ _ => jc_nil) (fun _ _ _ _ _ => (j_h F_plus (hr.mono (by decide)) rfl (ja_cons (j_h F_times (hr.mono (by decide)) rfl (ja_cons (jv 2) (ja_cons (jv 0) ja_nil))) (ja_cons (j_h F_times (hr.mono (by decide)) rfl (ja_cons (jv 3) (ja_cons (jv 1) ja_nil))) ja_nil)))))))), ?_⟩
  rintro ds M Q ⟨n, q, r, a, b, rfl, hn, sq, sr, sa, sb, la, lb, k⟩
  refine ⟨fun i out ρ M' => M' = M ∧ out = ((mixQ q a r b).take i).map frD ∧ ∃ o1 o2, ρ = [o1, o2, .sh (frD q), .sh (frD r)], ⟨rfl, rfl, _, _, rfl⟩, ?_, ?_⟩
  · rintro i d out ρ M' hd ⟨rfl, rfl, o1, o2, rfl⟩
    obtain ⟨x, y, hx, hy, rfl⟩ := zip_fr hd
    have hi := (List.getElem?_eq_some_iff.mp hx).1
    have sx := sa x (List.mem_of_getElem? hx)
    have sy := sb y (List.mem_of_getElem? hy)
    have hm : (mixQ q a r b)[i]? = some (q * x + r * y) := by rw [mixQ, List.getElem?_zipWith, hx, hy]
    refine ⟨rfl, q, x, rfl, Mx.of sq sx (by omega), r, y, rfl, Mx.of sr sy (by omega), _, _, rfl, Mx.of (smr_mul sq sx) (smr_mul sr sy) (by omega), by rw [List.length_map, List.length_take]; exact small1000 (by omega), rfl, take_map' (f := frD) hm, .sh (frD x), .sh (frD y), rfl⟩
  · rintro out ρ M' ⟨rfl, rfl, o1, o2, rfl⟩
    have e : (zipD (a.map frD) (b.map frD)).length = (mixQ q a r b).length := by rw [zipD_len, List.length_map, List.length_map, mixQ, List.length_zipWith]
    rw [e, List.take_length]
    exact ⟨_, Sub.refl _, k⟩
noncomputable def ptQ (l h : ZR) (k : Nat) : ZR := (mixQ (-(h.2.1.getD k 0)) l.1 (l.2.1.getD k 0) h.1, mixQ (-(h.2.1.getD k 0)) l.2.1 (l.2.1.getD k 0) h.2.1, -(h.2.1.getD k 0) * l.2.2 + l.2.1.getD k 0 * h.2.2)
private theorem getD_mem {l : List Rat} {k : Nat} (h : k < l.length) : l.getD k 0 ∈ l := by
  rw [List.getD_eq_getElem?_getD, List.getElem?_eq_getElem h]
  exact List.getElem_mem h
private theorem RIx.frl {qs : List Rat} {k : Nat} {P : D → Prop} (h : k < qs.length) (p : P (frD (qs.getD k 0))) : RIx (frL qs) (.int (k : Int)) P := by
  refine RIx.get (d := frD (qs.getD k 0)) ?_ p
  rw [List.getElem?_map, List.getElem?_eq_getElem h, List.getD_eq_getElem?_getD, List.getElem?_eq_getElem h]; rfl
noncomputable def gPT : List D → (D → Prop) → Prop := fun ds P => ∃ (l h : ZR) (k s t n : Nat), ds = [zQ l, zQ h, .int k] ∧ RowOk s t n l ∧ RowOk s t n h ∧ k < t ∧ s ≤ 100 ∧ t ≤ 100 ∧ n ≤ 2000 ∧ P (zQ (ptQ l h k))
noncomputable abbrev s_put_together : Stmt := top 27
private theorem sc_put_together : FnScope ["low", "high", "k", "q", "r"] ["low", "high", "k"] (defScope s_put_together) := ⟨rfl, rfl, rfl, by decide +kernel, rfl, by decide +kernel, by decide +kernel⟩
private theorem h_put_together (B : Bl mg) (F : Def K mg "put_together" s_put_together ["low", "high", "k"]) (F_opposite : Has P w K mg base CX0 1 "opposite" ["q"] (spW K (pur gOpp))) (F_mixed : Has P w K mg base CX0 4 "mixed" ["q", "one", "r", "other"] (spW K (pur gMix))) (F_plus : hPlus P w K mg base) (F_times : hTimes P w K mg base) : Has P w K mg base CX0 5 "put_together" ["low", "high", "k"] (spW K (pur gPT)) := by
  refine F.hasP sc_put_together (fun ds P h => by obtain ⟨_, _, _, _, _, _, rfl, _⟩ := h; rfl) fun f cdv A outer s H E hr => ?_
  have nd := sc_put_together.nd
  refine ⟨_, (jss_cons (js_set (i := 3) nd rfl (Or.inl rfl) (j_h F_opposite (hr.mono (by decide)) rfl (ja_cons (j_at (j_atV 1 j_int) (jv 2)) ja_nil)))
    (jss_cons (js_set (i := 4) nd rfl (Or.inl rfl) (j_at (j_atV 0 j_int) (jv 2)))
    (jss_one (js_ret (j_tup (ja_cons (j_h F_mixed (hr.mono (by decide)) rfl (ja_cons (jv 3) (ja_cons (j_atV 0 j_int) (ja_cons (jv 4) (ja_cons (j_atV 1 j_int) ja_nil))))) (ja_cons (j_h F_mixed (hr.mono (by decide)) rfl (ja_cons (jv 3) (ja_cons (j_atV 0 j_int) (ja_cons (jv 4) (ja_cons (j_atV 1 j_int) ja_nil))))) (ja_cons (j_h F_plus (hr.mono (by decide)) rfl (ja_cons (j_h F_times (hr.mono (by decide)) rfl (ja_cons (jv 3) (ja_cons (j_atV 0 j_int) ja_nil))) (ja_cons (j_h F_times (hr.mono (by decide)) rfl (ja_cons (jv 4) (ja_cons (j_atV 1 j_int) ja_nil))) ja_nil))) ja_nil)))))))), ?_⟩
  rintro ds M Q ⟨l, h, k, s, t, n, rfl, ol, oh, hk, hs, ht, hn, q⟩
  have kl : k < l.2.1.length := by rw [ol.t]; exact hk
  have kh : k < h.2.1.length := by rw [oh.t]; exact hk
  have m1 := smr_neg (oh.b _ (getD_mem kh))
  have m2 := ol.b _ (getD_mem kl)
  refine RIx.frl kh ⟨_, rfl, RIx.frl kl ?_⟩
  refine ⟨n, _, _, l.1, h.1, rfl, hn, m1, m2, ol.a, oh.a, by rw [ol.s, oh.s], by rw [ol.s]; exact hs, n, _, _, l.2.1, h.2.1, rfl, hn, m1, m2, ol.b, oh.b, by rw [ol.t, oh.t], by rw [ol.t]; exact ht, ?_⟩
  exact ⟨_, _, rfl, Mx.of m1 ol.c (by omega), _, _, rfl, Mx.of m2 oh.c (by omega), _, _, rfl, Mx.of (smr_mul m1 ol.c) (smr_mul m2 oh.c) (by omega), by show 3 ≤ sizeLine; decide, _, Sub.refl _, q⟩

/-! ### fractions over a common bottom -/
private theorem smw_le {n : Nat} {a b : Int} (h : Sm n b) (h0 : 0 ≤ a) (h1 : a ≤ b) : Sm n a := by
  unfold Sm at *
  omega
noncomputable def Wh (D n : Nat) (q : Rat) : Prop := ∃ k : Int, q = Rat.divInt k D ∧ Sm n k
private theorem Wh.mono {D a b : Nat} {q : Rat} (h : Wh D a q) (k : a ≤ b) : Wh D b q := let ⟨x, e, s⟩ := h; ⟨x, e, s.mono k⟩
private theorem Wh.add {D n : Nat} {q r : Rat} (h : Wh D n q) (k : Wh D n r) : Wh D (n + 1) (q + r) := by
  obtain ⟨a, rfl, sa⟩ := h
  obtain ⟨b, rfl, sb⟩ := k
  refine ⟨a + b, ?_, sa.add sb⟩
  rw [Rat.divInt_eq_div, Rat.divInt_eq_div, Rat.divInt_eq_div, Rat.intCast_add, Rat.div_def, Rat.div_def, Rat.div_def, Rat.add_mul]
private theorem Wh.mul {D E n m : Nat} {q r : Rat} (h : Wh D n q) (k : Wh E m r) : Wh (D * E) (n + m) (q * r) := by
  obtain ⟨a, rfl, sa⟩ := h
  obtain ⟨b, rfl, sb⟩ := k
  exact ⟨a * b, by rw [Rat.divInt_mul_divInt, Int.natCast_mul], sa.mul sb⟩
private theorem Wh.up {D n m : Nat} {q : Rat} (c : Nat) (h : Wh D n q) (c0 : c ≠ 0) (sc : Sm m (c : Int)) : Wh (D * c) (n + m) q := by
  obtain ⟨a, rfl, sa⟩ := h
  refine ⟨a * c, ?_, sa.mul sc⟩
  rw [Int.natCast_mul, Rat.divInt_mul_right (by omega)]
private theorem Wh.smr {D n : Nat} {q : Rat} (h : Wh D n q) (d0 : D ≠ 0) (sD : Sm n (D : Int)) : SmR n q := by
  obtain ⟨a, rfl, sa⟩ := h
  exact fr_sm (by omega) sa sD
private theorem Wh.den {D n m : Nat} {q : Rat} (h : Wh D n q) (d0 : D ≠ 0) (sD : Sm m (D : Int)) : Sm m (q.den : Int) := by
  obtain ⟨a, rfl, _⟩ := h
  have hb : (D : Int) ≠ 0 := by omega
  have e2 := fr_den (a := a) hb
  rw [if_neg (by omega), Int.fdiv_eq_ediv_of_nonneg _ (by omega)] at e2
  refine smw_le sD (by omega) ?_
  rw [e2]
  exact Int.ediv_le_self _ (by omega)
private theorem Wh.of {n : Nat} {a : Int} {d c : Nat} (c0 : c ≠ 0) (h : Sm n (a * c)) : Wh (d * c) n (Rat.divInt a d) := ⟨a * c, by rw [Int.natCast_mul, Rat.divInt_mul_right (by omega)], h⟩

noncomputable def bAt (k : Nat) (z : ZR) : Rat := z.2.1.getD k 0
noncomputable def lowsQ (k : Nat) (R : List ZR) : List ZR := R.filter fun z => decide (0 < bAt k z)
noncomputable def highsQ (k : Nat) (R : List ZR) : List ZR := R.filter fun z => decide (bAt k z < 0)
noncomputable def restQ (k : Nat) (R : List ZR) : List ZR := R.filter fun z => decide (bAt k z = 0)
noncomputable def bothQ (k : Nat) (L G : List ZR) : List ZR := (L.map fun l => G.map fun h => ptQ l h k).flatten
noncomputable def outs0 (k : Nat) (R : List ZR) : List ZR := restQ k R ++ bothQ k (lowsQ k R) (highsQ k R)
noncomputable def outQ (k : Nat) (R : List ZR) : List ZR := onQ (restQ k R ++ bothQ k (lowsQ k R) (highsQ k R))
private theorem filter_take {α : Type} {p : α → Bool} {l : List α} {i : Nat} {x : α} (h : l[i]? = some x) : (l.take (i + 1)).filter p = (l.take i).filter p ++ (if p x = true then [x] else []) := by
  rw [List.take_add_one, h, Option.toList_some, List.filter_append]
  congr 1
  by_cases c : p x = true
  · rw [if_pos c, List.filter_cons_of_pos c]; rfl
  · rw [if_neg c, List.filter_cons_of_neg c]; rfl
private theorem both_len (k : Nat) : ∀ (L G : List ZR), (bothQ k L G).length = L.length * G.length
  | [], G => by simp [bothQ]
  | l :: L, G => by
    have := both_len k L G
    unfold bothQ at this ⊢
    rw [List.map_cons, List.flatten_cons, List.length_append, List.length_map, this, List.length_cons, Nat.add_mul, Nat.one_mul, Nat.add_comm]
private theorem both_take {k i : Nat} {L G : List ZR} {l : ZR} (h : L[i]? = some l) : bothQ k (L.take (i + 1)) G = bothQ k (L.take i) G ++ G.map (fun h => ptQ l h k) := by
  unfold bothQ
  rw [List.take_add_one, h, Option.toList_some, List.map_append, List.flatten_append]
  simp
noncomputable def gTO : List D → (D → Prop) → Prop := fun ds P => ∃ (R : List ZR) (k s t n : Nat), ds = [.lst (R.map zQ), .int k] ∧ R.length ≤ 330 ∧ (∀ z ∈ R, RowOk s t n z) ∧ (∀ z ∈ outs0 k R, RowOk s t 4000 z) ∧ k < t ∧ s ≤ 100 ∧ t ≤ 100 ∧ n ≤ 2000 ∧ P (.tup [.lst ((lowsQ k R).map zQ), .lst ((highsQ k R).map zQ), .lst ((outQ k R).map zQ)])
private theorem parts_len (k : Nat) : ∀ R : List ZR, (restQ k R).length + (lowsQ k R).length + (highsQ k R).length = R.length
  | [] => rfl
  | z :: R => by
    have ih := parts_len k R
    unfold restQ lowsQ highsQ at ih ⊢
    rw [List.filter_cons, List.filter_cons, List.filter_cons, List.length_cons]
    rcases (show bAt k z < 0 ∨ bAt k z = 0 ∨ 0 < bAt k z by grind) with h | h | h
    · have h1 : ¬ bAt k z = 0 := by grind
      have h2 : ¬ 0 < bAt k z := by grind
      simp only [h, h1, h2, decide_true, decide_false, if_true, Bool.false_eq_true, if_false, List.length_cons]; omega
    · have h1 : ¬ bAt k z < 0 := by grind
      have h2 : ¬ 0 < bAt k z := by grind
      simp only [h1, h2, decide_true, decide_false, if_true, Bool.false_eq_true, if_false]; rw [if_pos (by simpa using h), List.length_cons]; omega
    · have h1 : ¬ bAt k z = 0 := by grind
      have h2 : ¬ bAt k z < 0 := by grind
      have h3 : 0 < bAt k z := h
      simp only [h1, h2, h3, decide_true, decide_false, if_true, Bool.false_eq_true, if_false, List.length_cons]; omega
private theorem out_len4 {R : List ZR} {k c : Nat} (h : R.length ≤ c) (c4 : 4 ≤ c) : 4 * (outs0 k R).length ≤ c * c := by
  have e := parts_len k R
  unfold outs0
  rw [List.length_append, both_len]
  generalize (restQ k R).length = x at *
  generalize (lowsQ k R).length = a at *
  generalize (highsQ k R).length = b at *
  have h1 : 4 * (a * b) ≤ (a + b) * (a + b) := by
    rcases Nat.le_total a b with h | h
    · obtain ⟨d, rfl⟩ := Nat.exists_eq_add_of_le h
      have : (a + (a + d)) * (a + (a + d)) = 4 * (a * (a + d)) + d * d := by grind
      omega
    · obtain ⟨d, rfl⟩ := Nat.exists_eq_add_of_le h
      have : (b + d + b) * (b + d + b) = 4 * ((b + d) * b) + d * d := by grind
      omega
  have hm : x + (a + b) ≤ c := by omega
  generalize a + b = m at h1 hm
  obtain ⟨d, rfl⟩ := Nat.exists_eq_add_of_le (show m ≤ c by omega)
  have h2 : (m + d) * (m + d) = m * m + d * (m + (m + d)) := by grind
  have h3 : d * 4 ≤ d * (m + (m + d)) := Nat.mul_le_mul_left _ (by omega)
  omega
noncomputable abbrev s_taken_out : Stmt := top 28
private theorem sc_taken_out : FnScope ["rows", "k", "lows", "highs", "told_on", "low"] ["rows", "k"] (defScope s_taken_out) := ⟨rfl, rfl, rfl, by decide +kernel, rfl, by decide +kernel, by decide +kernel⟩
private theorem h_taken_out (B : Bl mg) (F : Def K mg "taken_out" s_taken_out ["rows", "k"]) (F_below : hBelow P w K mg base) (F_put_together : Has P w K mg base CX0 5 "put_together" ["low", "high", "k"] (spW K (pur gPT))) (F_put_on : Has P w K mg base CX0 3 "put_on" ["rows"] (spW K (pur gOn))) (C_ZERO : Zero4 K mg) : Has P w K mg base CX0 6 "taken_out" ["rows", "k"] (spW K (pur gTO)) := by
  refine F.hasP sc_taken_out (fun ds P h => by obtain ⟨_, _, _, _, _, rfl, _⟩ := h; rfl) fun f cdv A outer s H E hr => ?_
  have nd := sc_taken_out.nd
  refine ⟨_, (jss_cons (js_setCZ (k := 2) nd rfl (Or.inl rfl) ["row", "k"] [none, some 1] ⟨rfl, by decide +kernel, by decide +kernel, rfl, rfl, free_of rfl⟩ rfl (ji_list (jv 0)) (fun _ _ _ _ _ => (jg_name (i := 0) (show List.Nodup [("row" : Str), ("k" : Str)] by decide +kernel) rfl (Or.inl rfl))) (fun _ _ _ _ _ => (jc_one (jt (j_h F_below (hr.mono (by decide)) rfl (ja_cons (j_glob C_ZERO rfl) (ja_cons (j_at (j_atV 0 j_int) (jv 1)) ja_nil)))))) (fun _ _ _ _ _ => (jv 0)))
    (jss_cons (js_setCZ (k := 3) nd rfl (Or.inl rfl) ["row", "k"] [none, some 1] ⟨rfl, by decide +kernel, by decide +kernel, rfl, rfl, free_of rfl⟩ rfl (ji_list (jv 0)) (fun _ _ _ _ _ => (jg_name (i := 0) (show List.Nodup [("row" : Str), ("k" : Str)] by decide +kernel) rfl (Or.inl rfl))) (fun _ _ _ _ _ => (jc_one (jt (j_h F_below (hr.mono (by decide)) rfl (ja_cons (j_at (j_atV 0 j_int) (jv 1)) (ja_cons (j_glob C_ZERO rfl) ja_nil)))))) (fun _ _ _ _ _ => (jv 0)))
    (jss_cons (js_setC (k := 4) nd rfl (Or.inl rfl) ["row", "k"] [none, some 1] ⟨rfl, by decide +kernel, by decide +kernel, rfl, rfl, free_of rfl⟩ rfl (ji_list (jv 0)) (fun _ _ _ _ _ => (jg_name (i := 0) (show List.Nodup [("row" : Str), ("k" : Str)] by decide +kernel) rfl (Or.inl rfl))) (fun _ _ _ _ _ => (jc_one (jt_eq hr (j_at (j_atV 0 j_int) (jv 1)) (j_glob C_ZERO rfl)))) (fun _ _ _ _ _ => (jv 0)))
    (jss_cons (js_for PassesOwn.never rfl (ji_list (jv 2)) (jg_name (i := 5) nd rfl (Or.inr rfl))
    (jss_one (js_extN 4 (jn_lc ["high", "low", "k"] [none, some 5, some 1] ⟨rfl, by decide +kernel, by decide +kernel, rfl, rfl, free_of rfl⟩ rfl (ji_list (jv 3)) (fun _ _ _ _ _ => (jg_name (i := 0) (show List.Nodup [("high" : Str), ("low" : Str), ("k" : Str)] by decide +kernel) rfl (Or.inl rfl))) (fun _ _ _ _ _ => jc_nil) (fun _ _ _ _ _ => (j_h F_put_together (hr.mono (by decide)) rfl (ja_cons (jv 1) (ja_cons (jv 0) (ja_cons (jv 2) ja_nil)))))))))
    (jss_one (js_ret (j_tup (ja_cons (jv 2) (ja_cons (jv 3) (ja_cons (j_h F_put_on (hr.mono (by decide)) rfl (ja_cons (jv 4) ja_nil)) ja_nil)))))))))), ?_⟩
  rintro ds M Q ⟨R, k, s, t, n, rfl, lR, ok, ok2, hk, hs, ht, hn, q⟩
  have bk : ∀ z ∈ R, k < z.2.1.length ∧ SmR n (bAt k z) := fun z hz => ⟨by rw [(ok z hz).t]; exact hk, (ok z hz).b _ (getD_mem (by rw [(ok z hz).t]; exact hk))⟩
  -- lows
  refine ⟨fun i out ρ M' => M' = M ∧ out = ((R.take i).filter fun z => decide (0 < bAt k z)).map zQ ∧ ∃ o, ρ = [o, .sh (.int k)], ⟨rfl, rfl, _, rfl⟩, ?_, ?_⟩
  · rintro i d out ρ M' hd ⟨rfl, rfl, o, rfl⟩
    obtain ⟨z, hz, rfl⟩ := map_get hd
    obtain ⟨k1, k2⟩ := bk z (List.mem_of_getElem? hz)
    have hi := (List.getElem?_eq_some_iff.mp hz).1
    refine RIx.frl k1 ⟨0, bAt k z, rfl, Mx.of sm0 k2 (by omega), ?_⟩
    have fl := List.length_filter_le (fun z => decide (0 < bAt k z)) (R.take i)
    rw [List.length_take] at fl
    refine iteB (fun c => ⟨by rw [List.length_map]; exact small1000 (by omega), rfl, ?_, .sh (zQ z), rfl⟩) (fun c => ⟨rfl, ?_, .sh (zQ z), rfl⟩)
    · rw [filter_take hz, if_pos c, List.map_append]; rfl
    · rw [filter_take hz, if_neg (by rw [c]; exact Bool.false_ne_true), List.append_nil]
  rintro out ρ M' ⟨rfl, rfl, o, rfl⟩
  rw [List.length_map, List.take_length]
  -- highs
  refine ⟨fun i out ρ M2 => M2 = M' ∧ out = ((R.take i).filter fun z => decide (bAt k z < 0)).map zQ ∧ ∃ o, ρ = [o, .sh (.int k)], ⟨rfl, rfl, _, rfl⟩, ?_, ?_⟩
  · rintro i d out ρ M2 hd ⟨rfl, rfl, o, rfl⟩
    obtain ⟨z, hz, rfl⟩ := map_get hd
    obtain ⟨k1, k2⟩ := bk z (List.mem_of_getElem? hz)
    have hi := (List.getElem?_eq_some_iff.mp hz).1
    refine RIx.frl k1 ⟨bAt k z, 0, rfl, Mx.of k2 sm0 (by omega), ?_⟩
    have fl := List.length_filter_le (fun z => decide (bAt k z < 0)) (R.take i)
    rw [List.length_take] at fl
    refine iteB (fun c => ⟨by rw [List.length_map]; exact small1000 (by omega), rfl, ?_, .sh (zQ z), rfl⟩) (fun c => ⟨rfl, ?_, .sh (zQ z), rfl⟩)
    · rw [filter_take hz, if_pos c, List.map_append]; rfl
    · rw [filter_take hz, if_neg (by rw [c]; exact Bool.false_ne_true), List.append_nil]
  rintro out ρ M2 ⟨rfl, rfl, o, rfl⟩
  rw [List.length_map, List.take_length]
  -- the others
  refine ⟨fun i out ρ M3 => M3 = M2 ∧ out = ((R.take i).filter fun z => decide (bAt k z = 0)).map zQ ∧ ∃ o, ρ = [o, .sh (.int k)], ⟨rfl, rfl, _, rfl⟩, ?_, ?_⟩
  · rintro i d out ρ M3 hd ⟨rfl, rfl, o, rfl⟩
    obtain ⟨z, hz, rfl⟩ := map_get hd
    obtain ⟨k1, k2⟩ := bk z (List.mem_of_getElem? hz)
    have hi := (List.getElem?_eq_some_iff.mp hz).1
    refine RIx.frl k1 ⟨Nat.le_trans (dep_frD1 _) (by decide), ?_⟩
    have fl := List.length_filter_le (fun z => decide (bAt k z = 0)) (R.take i)
    rw [List.length_take] at fl
    have e0 : peq (frD (bAt k z)) (frD 0) = decide (bAt k z = 0) := frD_eq _ _
    show if peq (frD (bAt k z)) (frD 0) = true then _ else _
    rw [e0]
    refine iteB (fun c => ⟨by rw [List.length_map]; exact small1000 (by omega), rfl, ?_, .sh (zQ z), rfl⟩) (fun c => ⟨rfl, ?_, .sh (zQ z), rfl⟩)
    · rw [filter_take hz, if_pos c, List.map_append]; rfl
    · rw [filter_take hz, if_neg (by rw [c]; exact Bool.false_ne_true), List.append_nil]
  rintro out ρ M3 ⟨rfl, rfl, o, rfl⟩
  rw [List.length_map, List.take_length]
  have lL : (lowsQ k R).length ≤ 330 := Nat.le_trans (List.length_filter_le _ _) lR
  have lG : (highsQ k R).length ≤ 330 := Nat.le_trans (List.length_filter_le _ _) lR
  have lE : (restQ k R).length ≤ 330 := Nat.le_trans (List.length_filter_le _ _) lR
  have okL : ∀ z ∈ lowsQ k R, RowOk s t n z := fun z hz => ok z (List.mem_filter.mp hz).1
  have okG : ∀ z ∈ highsQ k R, RowOk s t n z := fun z hz => ok z (List.mem_filter.mp hz).1
  have tkG : (highsQ k R).take ((highsQ k R).map zQ).length = highsQ k R := by rw [List.length_map, List.take_length]
  have tkL : (lowsQ k R).take ((R.filter fun z => decide (0 < bAt k z)).map zQ).length = lowsQ k R := by rw [List.length_map]; exact List.take_length
  have l2 : ∀ l : ZR, ((highsQ k R).map (fun h => zQ (ptQ l h k))).length ≤ 330 := fun l => by rw [List.length_map]; exact lG
  -- each low with each high
  refine ⟨fun i ρ M4 => M4 = M3 ∧ ∃ o5 : Ent, ρ = [.sh (.lst (R.map zQ)), .sh (.int k), .sh (.lst ((lowsQ k R).map zQ)), .sh (.lst ((highsQ k R).map zQ)), .ow ((restQ k R ++ bothQ k ((lowsQ k R).take i) (highsQ k R)).map zQ), o5], ⟨rfl, .un, ?_⟩, ?_, ?_⟩
  · have : bothQ k ((lowsQ k R).take 0) (highsQ k R) = [] := by simp [bothQ]
    rw [this, List.append_nil]; rfl
  · rintro i d ρ M4 hd ⟨rfl, o5, rfl⟩
    obtain ⟨l, hl, rfl⟩ := map_get hd
    have hl : (lowsQ k R)[i]? = some l := hl
    have hi := (List.getElem?_eq_some_iff.mp hl).1
    have ol := okL l (List.mem_of_getElem? hl)
    have lB : ((restQ k R ++ bothQ k ((lowsQ k R).take i) (highsQ k R)).map zQ).length ≤ 330 + 330 * 330 := by
      rw [List.length_map, List.length_append, both_len, List.length_take]
      exact Nat.add_le_add lE (Nat.mul_le_mul (by omega) lG)
    refine ⟨trivial, fun j out ρ M5 => M5 = M4 ∧ out = ((highsQ k R).take j).map (fun h => zQ (ptQ l h k)) ∧ ∃ o, ρ = [o, .sh (zQ l), .sh (.int k)], ⟨rfl, rfl, _, rfl⟩, ?_, ?_⟩
    · rintro j d out ρ M5 hd ⟨rfl, rfl, o, rfl⟩
      obtain ⟨h, hh, rfl⟩ := map_get hd
      have hj := (List.getElem?_eq_some_iff.mp hh).1
      exact ⟨l, h, k, s, t, n, rfl, ol, okG h (List.mem_of_getElem? hh), hk, hs, ht, by omega, by rw [List.length_map, List.length_take]; exact small1000 (by omega), rfl, take_map' (f := fun h => zQ (ptQ l h k)) hh, .sh (zQ h), rfl⟩
    rintro out ρ M5 ⟨rfl, h1, o, rfl⟩
    have h1 : out = ((highsQ k R).take ((highsQ k R).map zQ).length).map (fun h => zQ (ptQ l h k)) := h1
    rw [tkG] at h1
    subst h1
    refine ⟨Nat.le_trans (Nat.add_le_add lB (l2 l)) (by rw [sizeLine_eq]; decide), rfl, .sh (zQ l), ?_⟩
    rw [both_take hl, ← List.append_assoc, List.map_append (l₁ := restQ k R ++ _), List.map_map]
    rfl
  rintro ρ M4 ⟨rfl, o5, rfl⟩
  have lo := out_len4 (R := R) (k := k) lR (by decide)
  have lo' : (restQ k R ++ bothQ k (lowsQ k R) (highsQ k R)).length ≤ 100000 := by unfold outs0 at lo; omega
  exact ⟨restQ k R ++ bothQ k (lowsQ k R) (highsQ k R), s, t, by rw [tkL], lo', hs, ht, ok2, by show 3 ≤ sizeLine; decide, _, Sub.refl _, q⟩

/-! ### rule_of, exact, for up to three shims -/
structure RowW (s t D n : Nat) (z : ZR) : Prop where
  s : z.1.length = s
  t : z.2.1.length = t
  a : ∀ q ∈ z.1, Wh D n q
  b : ∀ q ∈ z.2.1, Wh D n q
  c : Wh D n z.2.2
private theorem RowW.ok {s t D n : Nat} {z : ZR} (h : RowW s t D n z) (d0 : D ≠ 0) (sD : Sm n (D : Int)) : RowOk s t n z := ⟨h.s, h.t, fun q hq => (h.a q hq).smr d0 sD, fun q hq => (h.b q hq).smr d0 sD, h.c.smr d0 sD⟩
private theorem RowW.sq {s t D n : Nat} {z : ZR} (h : RowW s t D n z) (d0 : D ≠ 0) (sD : Sm n (D : Int)) : RowW s t (D * D) (2 * n + 1) z := by
  have u : ∀ q, Wh D n q → Wh (D * D) (2 * n + 1) q := fun q hq => (hq.up D d0 sD).mono (by omega)
  exact ⟨h.s, h.t, fun q hq => u q (h.a q hq), fun q hq => u q (h.b q hq), u _ h.c⟩
private theorem wh_neg {D n : Nat} {q : Rat} (h : Wh D n q) : Wh D n (-q) := by
  obtain ⟨a, rfl, sa⟩ := h
  exact ⟨-a, by rw [Rat.neg_divInt], sa.neg⟩
private theorem wh_mix {D n : Nat} {q r x y : Rat} (hq : Wh D n q) (hr : Wh D n r) (hx : Wh D n x) (hy : Wh D n y) : Wh (D * D) (2 * n + 1) (q * x + r * y) := ((hq.mul hx).add (hr.mul hy)).mono (by omega)
private theorem pt_w {s t D n k : Nat} {l h : ZR} (ol : RowW s t D n l) (oh : RowW s t D n h) (hk : k < t) : RowW s t (D * D) (2 * n + 1) (ptQ l h k) := by
  have m1 := wh_neg (oh.b _ (getD_mem (l := h.2.1) (k := k) (by rw [oh.t]; exact hk)))
  have m2 := ol.b _ (getD_mem (l := l.2.1) (k := k) (by rw [ol.t]; exact hk))
  have mm : ∀ a b : List Rat, (∀ x ∈ a, Wh D n x) → (∀ x ∈ b, Wh D n x) → ∀ x ∈ mixQ (-(h.2.1.getD k 0)) a (l.2.1.getD k 0) b, Wh (D * D) (2 * n + 1) x := by
    intro a b ha hb x hx
    obtain ⟨i, hi⟩ := List.mem_iff_getElem?.mp hx
    rw [mixQ, List.getElem?_zipWith] at hi
    cases e1 : a[i]? with
    | none => rw [e1] at hi; cases hi
    | some y =>
      cases e2 : b[i]? with
      | none => rw [e1, e2] at hi; cases hi
      | some z =>
        rw [e1, e2] at hi
        rw [← Option.some.inj hi]
        exact wh_mix m1 m2 (ha y (List.mem_of_getElem? e1)) (hb z (List.mem_of_getElem? e2))
  refine ⟨?_, ?_, mm _ _ ol.a oh.a, mm _ _ ol.b oh.b, wh_mix m1 m2 ol.c oh.c⟩
  · show (mixQ _ _ _ _).length = s
    rw [mixQ, List.length_zipWith, ol.s, oh.s, Nat.min_self]
  · show (mixQ _ _ _ _).length = t
    rw [mixQ, List.length_zipWith, ol.t, oh.t, Nat.min_self]
private theorem out_w {R : List ZR} {k s t D n : Nat} (d0 : D ≠ 0) (sD : Sm n (D : Int)) (ok : ∀ z ∈ R, RowW s t D n z) (hk : k < t) : ∀ z ∈ outs0 k R, RowW s t (D * D) (2 * n + 1) z := by
  intro z hz
  rcases List.mem_append.mp hz with hz | hz
  · exact (ok z (List.mem_filter.mp hz).1).sq d0 sD
  · obtain ⟨l, hl, hz⟩ := List.mem_flatten.mp hz
    obtain ⟨x, hx, rfl⟩ := List.mem_map.mp hl
    obtain ⟨y, hy, rfl⟩ := List.mem_map.mp hz
    exact pt_w (ok x (List.mem_filter.mp hx).1) (ok y (List.mem_filter.mp hy).1) hk
structure RuOk (S T : List (Rat × Rat)) (Z : List ZR) : Prop where
  s : S.length ≤ 10
  t3 : T.length ≤ 3
  z10 : Z.length ≤ 10
  zt : Z.length + 2 * T.length ≤ 14
  z3 : T.length = 3 → Z.length ≤ 6
  w : ∃ D : Nat, D ≠ 0 ∧ Sm 400 (D : Int) ∧ (∀ z ∈ Z, RowW S.length T.length D 400 z) ∧ ∀ x ∈ T, Wh D 400 x.1 ∧ Wh D 400 x.2
noncomputable def rowsR (S T : List (Rat × Rat)) (Z : List ZR) : Nat → List ZR
  | 0 => firstQ S T Z
  | i + 1 => outQ (T.length - 1 - i) (rowsR S T Z i)
noncomputable def stepD (k : Nat) (R : List ZR) : D := .tup [.lst ((lowsQ k R).map zQ), .lst ((highsQ k R).map zQ)]
noncomputable def stepsD (S T : List (Rat × Rat)) (Z : List ZR) (i : Nat) : List D := (List.range i).map fun j => stepD (T.length - 1 - j) (rowsR S T Z j)
noncomputable def ruleD (S T : List (Rat × Rat)) (Z : List ZR) : D := .tup [.lst (stepsD S T Z T.length).reverse, .lst ((rowsR S T Z T.length).map zQ)]
noncomputable def cntR (t : Nat) : Nat → Nat
  | 0 => if t = 3 then 12 else 14
  | i + 1 => cntR t i * cntR t i / 4
noncomputable def bitR : Nat → Nat
  | 0 => 400
  | i + 1 => 2 * bitR i + 1
noncomputable def botR (D : Nat) : Nat → Nat
  | 0 => D
  | i + 1 => botR D i * botR D i
private theorem bot_ok {D : Nat} (d0 : D ≠ 0) (sD : Sm 400 (D : Int)) : ∀ i, botR D i ≠ 0 ∧ Sm (bitR i) (botR D i : Int)
  | 0 => ⟨d0, sD⟩
  | i + 1 => by
    obtain ⟨h1, h2⟩ := bot_ok d0 sD i
    refine ⟨Nat.mul_ne_zero h1 h1, ?_⟩
    rw [botR, Int.natCast_mul]
    exact (h2.mul h2).mono (by rw [bitR]; omega)
private theorem cnt_4 (t i : Nat) : 4 ≤ cntR t i := by
  induction i with
  | zero => rw [cntR]; split <;> decide
  | succ i ih =>
    rw [cntR]
    have := Nat.mul_le_mul ih ih
    omega
private theorem rows_len {S T : List (Rat × Rat)} {Z : List ZR} (ok : RuOk S T Z) (i : Nat) : (rowsR S T Z i).length ≤ cntR T.length i := by
  induction i with
  | zero =>
    have h := on_len (Z ++ shimR S T)
    rw [List.length_append, shim_len] at h
    have h1 := ok.zt
    have h3 := ok.z3
    rw [rowsR, cntR]
    refine Nat.le_trans h ?_
    split
    · rename_i e
      have := h3 e
      omega
    · omega
  | succ i ih =>
    rw [rowsR, cntR]
    have h := on_len (outs0 (T.length - 1 - i) (rowsR S T Z i))
    have h2 := out_len4 (k := T.length - 1 - i) ih (cnt_4 _ _)
    refine Nat.le_trans h ?_
    omega
private theorem shim_w {S T : List (Rat × Rat)} {D : Nat} (d0 : D ≠ 0) (sD : Sm 400 (D : Int)) (b : ∀ x ∈ T, Wh D 400 x.1 ∧ Wh D 400 x.2) : ∀ z ∈ shimR S T, RowW S.length T.length D 400 z := by
  intro z hz
  obtain ⟨r, hr, rfl⟩ := List.mem_map.mp hz
  unfold bndRows at hr
  obtain ⟨l, hl, hr⟩ := List.mem_flatten.mp hr
  obtain ⟨j, hj, rfl⟩ := List.mem_mapIdx.mp hl
  obtain ⟨b1, b2⟩ := b _ (List.getElem_mem hj)
  have w0 : Wh D 400 0 := ⟨0, by rw [Rat.zero_divInt], by unfold Sm; decide⟩
  have w1 : Wh D 400 1 := ⟨D, by rw [Rat.divInt_self' (by omega)], sD⟩
  have u : ∀ q : Rat, Wh D 400 q → ∀ x ∈ unitQ T.length j q, Wh D 400 x := fun q hq x hx => by
    rcases unit_mem hx with rfl | rfl
    · exact w0
    · exact hq
  have ul : ∀ q : Rat, (unitQ T.length j q).length = T.length := fun q => by simp [unitQ]
  have z0 : ∀ x ∈ List.replicate S.length (0 : Rat), Wh D 400 x := fun x hx => by rw [List.eq_of_mem_replicate hx]; exact w0
  simp only [bndAt, List.mem_cons, List.not_mem_nil, or_false] at hr
  rcases hr with rfl | rfl
  · exact ⟨List.length_replicate, ul 1, z0, u 1 w1, wh_neg b1⟩
  · exact ⟨List.length_replicate, ul (-1), z0, u (-1) (wh_neg w1), b2⟩
private theorem rows_w {S T : List (Rat × Rat)} {Z : List ZR} {D : Nat} (d0 : D ≠ 0) (sD : Sm 400 (D : Int)) (a : ∀ z ∈ Z, RowW S.length T.length D 400 z) (b : ∀ x ∈ T, Wh D 400 x.1 ∧ Wh D 400 x.2) (i : Nat) (hi : i ≤ T.length) : ∀ z ∈ rowsR S T Z i, RowW S.length T.length (botR D i) (bitR i) z := by
  induction i with
  | zero =>
    intro z hz
    rcases List.mem_append.mp (on_mem hz) with h | h
    · exact a z h
    · exact shim_w d0 sD b z h
  | succ i ih =>
    intro z hz
    obtain ⟨h1, h2⟩ := bot_ok d0 sD i
    exact out_w h1 h2 (ih (by omega)) (by omega) z (on_mem hz)
private theorem bit_le {i : Nat} (h : i ≤ 3) : bitR i ≤ 3207 := by
  rcases i with _ | _ | _ | _ | i
  · decide
  · decide
  · decide
  · decide
  · omega
private theorem bit2_le {i : Nat} (h : i ≤ 2) : bitR i ≤ 1603 := by
  rcases i with _ | _ | _ | i
  · decide
  · decide
  · decide
  · omega
private theorem cnt_le {t i : Nat} (h : i < t) (ht : t ≤ 3) : cntR t i ≤ 330 := by
  have : t = 1 ∨ t = 2 ∨ t = 3 := by omega
  rcases this with rfl | rfl | rfl
  · rcases i with _ | i
    · decide
    · omega
  · rcases i with _ | _ | i
    · decide
    · decide
    · omega
  · rcases i with _ | _ | _ | i
    · decide
    · decide
    · decide
    · omega
noncomputable def gRule : List D → (D → Prop) → Prop := fun ds P => ∃ (S T : List (Rat × Rat)) (Z : List ZR), ds = [planQ S T Z] ∧ RuOk S T Z ∧ P (ruleD S T Z)
noncomputable abbrev s_rule_of : Stmt := top 29
private theorem sc_rule_of : FnScope ["plan", "rows", "steps", "k", "parts"] ["plan"] (defScope s_rule_of) := ⟨rfl, rfl, rfl, by decide +kernel, rfl, by decide +kernel, by decide +kernel⟩
private theorem h_rule_of (B : Bl2 mg) (F : Def K mg "rule_of" s_rule_of ["plan"]) (F_first_rows : Has P w K mg base CX0 4 "first_rows" ["plan"] (spW K (pur gFirst))) (F_taken_out : Has P w K mg base CX0 6 "taken_out" ["rows", "k"] (spW K (pur gTO))) : Has P w K mg base CX0 7 "rule_of" ["plan"] (spW K (pur gRule)) := by
  refine F.hasP sc_rule_of (fun ds P h => by obtain ⟨_, _, _, rfl, _⟩ := h; rfl) fun f cdv A outer s H E hr => ?_
  have nd := sc_rule_of.nd
  refine ⟨_, (jss_cons (js_set (i := 1) nd rfl (Or.inl rfl) (j_h F_first_rows (hr.mono (by decide)) rfl (ja_cons (jv 0) ja_nil)))
    (jss_cons (js_setN (i := 2) nd rfl (Or.inl rfl) (jn_lst ja_nil))
    (jss_cons (js_for PassesOwn.never rfl (ji_down rfl B.range (ja_cons (j_sub (j_len rfl B.len (ja_cons (j_atV 0 j_int) ja_nil)) j_int) (ja_cons (j_neg j_int) (ja_cons (j_neg j_int) ja_nil)))) (jg_name (i := 3) nd rfl (Or.inl rfl))
    (jss_cons (js_set (i := 4) nd rfl (Or.inl rfl) (j_h F_taken_out (hr.mono (by decide)) rfl (ja_cons (jv 1) (ja_cons (jv 3) ja_nil))))
    (jss_cons (js_appW 2 (j_tup (ja_cons (j_atV 4 j_int) (ja_cons (j_atV 4 j_int) ja_nil))))
    (jss_one (js_set (i := 1) nd rfl (Or.inl rfl) (j_atV 4 j_int))))))
    (jss_one (js_ret (j_tup (ja_cons (j_fz (jn_listrev rfl B.list rfl B.reversed rfl (ja_cons (jv 2) ja_nil))) (ja_cons (jv 1) ja_nil)))))))), ?_⟩
  rintro ds M Q ⟨S, T, Z, rfl, ok, k⟩
  have t3 := ok.t3
  have lS := ok.s
  have z10 := ok.z10
  obtain ⟨D, d0, sD, wZ, wT⟩ := ok.w
  have pl : PlR 400 S T Z := ⟨lS, by omega, z10, fun z hz => (wZ z hz).ok d0 sD, fun x hx => ⟨(wT x hx).1.smr d0 sD, (wT x hx).2.smr d0 sD⟩, by decide, by decide⟩
  refine ⟨400, S, T, Z, rfl, pl, by show 0 ≤ sizeLine; decide, _, _, rfl, ⟨by rw [List.length_map]; omega, by rw [List.length_map]; omega, by decide, by decide⟩, ?_⟩
  refine ⟨fun i ρ M' => M' = M ∧ i ≤ T.length ∧ ∃ (o3 o4 : Ent), ρ = [.sh (planQ S T Z), .sh (.lst ((rowsR S T Z i).map zQ)), .ow (stepsD S T Z i), o3, o4], ⟨rfl, by omega, _, _, rfl⟩, ?_, ?_⟩
  · rintro i d ρ M' hd ⟨rfl, i2, o3, o4, rfl⟩
    obtain ⟨rfl, hi⟩ := down_get hd
    have hi : i < T.length := by
      rw [List.length_map] at hi
      omega
    have ek : (((T.map bQ).length : Nat) : Int) - 1 - i = ((T.length - 1 - i : Nat) : Int) := by rw [List.length_map]; omega
    obtain ⟨b1, b2⟩ := bot_ok d0 sD i
    obtain ⟨b3, b4⟩ := bot_ok d0 sD (i + 1)
    have rw' := rows_w d0 sD wZ wT i (by omega)
    have ls : (stepsD S T Z i).length = i := by rw [stepsD, List.length_map, List.length_range]
    refine ⟨rowsR S T Z i, T.length - 1 - i, S.length, T.length, bitR i, by rw [ek], Nat.le_trans (rows_len ok i) (cnt_le hi t3), fun z hz => (rw' z hz).ok b1 b2, fun z hz => ((out_w b1 b2 rw' (by omega) z hz).ok b3 b4).mono (Nat.le_trans (bit_le (i := i + 1) (by omega)) (by decide)), by omega, by omega, by omega, Nat.le_trans (bit2_le (by omega)) (by decide), trivial, by show 2 ≤ sizeLine; decide, by rw [ls]; exact small1000 (by omega), rfl, by omega, .sh (.int ((((T.map bQ).length : Nat) : Int) - 1 - i)), .sh (.tup [.lst ((lowsQ (T.length - 1 - i) (rowsR S T Z i)).map zQ), .lst ((highsQ (T.length - 1 - i) (rowsR S T Z i)).map zQ), .lst ((outQ (T.length - 1 - i) (rowsR S T Z i)).map zQ)]), ?_⟩
    have e : stepsD S T Z (i + 1) = stepsD S T Z i ++ [stepD (T.length - 1 - i) (rowsR S T Z i)] := by
      unfold stepsD
      rw [List.range_succ, List.map_append]; rfl
    rw [e]
    rfl
  · rintro ρ M' ⟨rfl, i2, o3, o4, rfl⟩
    have el : (downD ((((T.map bQ).length : Nat) : Int) - 1) ((((T.map bQ).length : Nat) : Int) - 1 - -1).toNat).length = T.length := by rw [down_len, List.length_map]; omega
    rw [el] at *
    have ls : (stepsD S T Z T.length).length = T.length := by rw [stepsD, List.length_map, List.length_range]
    exact ⟨by rw [ls]; omega, by show 2 ≤ sizeLine; decide, _, Sub.refl _, k⟩

/-! ### sums of products over common bottoms -/
private theorem wh_00 (D n : Nat) : Wh D n 0 := ⟨0, by rw [Rat.zero_divInt], by unfold Sm; exact Nat.pow_pos (by decide)⟩
private theorem wh_dots {D E n m : Nat} : ∀ (qs rs : List Rat), (∀ q ∈ qs, Wh D n q) → (∀ r ∈ rs, Wh E m r) → Wh (D * E) (n + m + qs.length) (dot qs rs) := by
  intro qs
  induction qs with
  | nil => intro rs _ _; exact wh_00 _ _
  | cons q qs ih =>
    intro rs h k
    cases rs with
    | nil => exact wh_00 _ _
    | cons r rs =>
      rw [dot]
      have a : Wh (D * E) (n + m) (q * r) := (h q (.head _)).mul (k r (.head _))
      exact (a.mono (b := n + m + qs.length) (by omega)).add (ih rs (fun x hx => h x (.tail _ hx)) fun x hx => k x (.tail _ hx))
structure WsOk (D E n m : Nat) (qs rs : List Rat) : Prop where
  d0 : D ≠ 0
  e0 : E ≠ 0
  sD : Sm n (D : Int)
  sE : Sm m (E : Int)
  q : ∀ x ∈ qs, Wh D n x
  r : ∀ x ∈ rs, Wh E m x
  l : qs.length ≤ 20
  b : n + m ≤ 4300
private theorem WsOk.de {D E n m : Nat} {qs rs : List Rat} (o : WsOk D E n m qs rs) : D * E ≠ 0 ∧ Sm (n + m) ((D * E : Nat) : Int) := ⟨Nat.mul_ne_zero o.d0 o.e0, by rw [Int.natCast_mul]; exact o.sD.mul o.sE⟩
private theorem WsOk.wh {D E n m : Nat} {qs rs : List Rat} (o : WsOk D E n m qs rs) : Wh (D * E) (n + m + 20) (dot qs rs) := (wh_dots qs rs o.q o.r).mono (by have := o.l; omega)
private theorem WsOk.wi {D E n m : Nat} {qs rs : List Rat} (o : WsOk D E n m qs rs) (i : Nat) : SmR (n + m + 20) (dot (qs.take i) (rs.take i)) := by
  obtain ⟨h1, h2⟩ := o.de
  exact ((wh_dots (qs.take i) (rs.take i) (fun x hx => o.q x (List.mem_of_mem_take hx)) fun x hx => o.r x (List.mem_of_mem_take hx)).mono (by have := o.l; rw [List.length_take]; omega)).smr h1 (h2.mono (by omega))
noncomputable def gWS : List D → (D → Prop) → Prop := fun ds P => ∃ (qs rs : List Rat) (D E n m : Nat), ds = [frL qs, frL rs] ∧ WsOk D E n m qs rs ∧ P (frD (dot qs rs))
noncomputable abbrev s_weighed_sum : Stmt := top 16
private theorem sc_weighed_sum : FnScope ["factors", "told", "total", "factor", "q"] ["factors", "told"] (defScope s_weighed_sum) := ⟨rfl, rfl, rfl, by decide +kernel, rfl, by decide +kernel, by decide +kernel⟩
private theorem h_weighed_sum (B : Bl mg) (F : Def K mg "weighed_sum" s_weighed_sum ["factors", "told"]) (F_plus : Has P w K mg base CX0 3 "plus" ["q", "r"] (spW K (pur (gOp fun q r => q + r)))) (F_times : Has P w K mg base CX0 3 "times" ["q", "r"] (spW K (pur (gOp fun q r => q * r)))) (C_ZERO : Zero4 K mg) : Has P w K mg base CX0 4 "weighed_sum" ["factors", "told"] (spW K (pur gWS)) := by
  refine F.hasP sc_weighed_sum (fun ds P h => by obtain ⟨a, b, _, _, _, _, rfl, _⟩ := h; rfl) fun f cdv A outer s H E hr => ?_
  have nd := sc_weighed_sum.nd
  refine ⟨_, (jss_cons (js_set (i := 2) nd rfl (Or.inl rfl) (j_glob C_ZERO rfl))
    (jss_cons (js_for PassesOwn.never rfl (ji_zip rfl B.zip (ja_cons (jv 0) (ja_cons (jv 1) ja_nil))) (jg_tup (n := 2) rfl (jgs_cons (jg_name (i := 3) nd rfl (Or.inl rfl)) (jgs_cons (jg_name (i := 4) nd rfl (Or.inl rfl)) jgs_nil)))
    (jss_one (js_set (i := 2) nd rfl (Or.inl rfl) (j_h F_plus (hr.mono (by decide)) rfl (ja_cons (jv 2) (ja_cons (j_h F_times (hr.mono (by decide)) rfl (ja_cons (jv 3) (ja_cons (jv 4) ja_nil))) ja_nil))))))
    (jss_one (js_ret (jv 2))))), ?_⟩
  rintro ds M Q ⟨qs, rs, D, E, n, m, rfl, o, q⟩
  have ob := o.b
  obtain ⟨h1, h2⟩ := o.de
  refine ⟨fun i ρ M' => M' = M ∧ ∃ o3 o4, ρ = [.sh (frL qs), .sh (frL rs), .sh (frD (dot (qs.take i) (rs.take i))), o3, o4], ⟨rfl, _, _, rfl⟩, ?_, ?_⟩
  · rintro i d ρ M' hd ⟨rfl, o3, o4, rfl⟩
    obtain ⟨a, b, ha, hb, rfl⟩ := zip_fr hd
    have wa := o.q _ (List.mem_of_getElem? ha)
    have wb := o.r _ (List.mem_of_getElem? hb)
    refine ⟨rfl, a, b, rfl, Mx.of (wa.smr o.d0 o.sD) (wb.smr o.e0 o.sE) (by omega), _, _, rfl, Mx.of (o.wi i) ((wa.mul wb).smr h1 h2) (by omega), rfl, .sh (frD a), .sh (frD b), ?_⟩
    rw [dot_take ha hb]; rfl
  · rintro ρ M' ⟨rfl, o3, o4, rfl⟩
    refine ⟨_, Sub.refl _, ?_⟩
    have e : (zipD (qs.map frD) (rs.map frD)).length = min qs.length rs.length := by rw [zipD_len, List.length_map, List.length_map]
    rw [e, dot_trunc]
    exact q
noncomputable def worthQ (z : ZR) (M C : List Rat) : Rat := dot z.1 M + dot z.2.1 C + z.2.2
structure DwOk (D E n m : Nat) (z : ZR) (M C : List Rat) : Prop where
  a : WsOk D E n m z.1 M
  b : WsOk D E n m z.2.1 C
  c : Wh D n z.2.2
private theorem DwOk.wh {D E n m : Nat} {z : ZR} {M C : List Rat} (o : DwOk D E n m z M C) : Wh (D * E) (n + m + 22) (worthQ z M C) := by
  have h := (o.a.wh.add o.b.wh)
  have c := (o.c.up E o.a.e0 o.a.sE).mono (b := n + m + 21) (by omega)
  exact (h.add c)
private theorem DwOk.s {D E n m : Nat} {z : ZR} {M C : List Rat} (o : DwOk D E n m z M C) : SmR (n + m + 22) (worthQ z M C) := o.wh.smr o.a.de.1 (o.a.de.2.mono (by omega))
noncomputable def gDW : List D → (D → Prop) → Prop := fun ds P => ∃ (z : ZR) (M C : List Rat) (D E n m : Nat), ds = [zQ z, frL M, frL C] ∧ DwOk D E n m z M C ∧ P (frD (worthQ z M C))
noncomputable abbrev s_demand_worth : Stmt := top 17
private theorem sc_demand_worth : FnScope ["demand", "made", "choice", "both"] ["demand", "made", "choice"] (defScope s_demand_worth) := ⟨rfl, rfl, rfl, by decide +kernel, rfl, by decide +kernel, by decide +kernel⟩
private theorem h_demand_worth (B : Bl mg) (F : Def K mg "demand_worth" s_demand_worth ["demand", "made", "choice"]) (F_plus : hPlus P w K mg base) (F_weighed_sum : Has P w K mg base CX0 4 "weighed_sum" ["factors", "told"] (spW K (pur gWS))) : Has P w K mg base CX0 5 "demand_worth" ["demand", "made", "choice"] (spW K (pur gDW)) := by
  refine F.hasP sc_demand_worth (fun ds P h => by obtain ⟨_, _, _, _, _, _, _, rfl, _⟩ := h; rfl) fun f cdv A outer s H E hr => ?_
  have nd := sc_demand_worth.nd
  refine ⟨_, (jss_cons (js_set (i := 3) nd rfl (Or.inl rfl) (j_h F_plus (hr.mono (by decide)) rfl (ja_cons (j_h F_weighed_sum (hr.mono (by decide)) rfl (ja_cons (j_atV 0 j_int) (ja_cons (jv 1) ja_nil))) (ja_cons (j_h F_weighed_sum (hr.mono (by decide)) rfl (ja_cons (j_atV 0 j_int) (ja_cons (jv 2) ja_nil))) ja_nil))))
    (jss_one (js_ret (j_h F_plus (hr.mono (by decide)) rfl (ja_cons (jv 3) (ja_cons (j_atV 0 j_int) ja_nil)))))), ?_⟩
  rintro ds M0 Q ⟨z, M, C, D, E, n, m, rfl, o, q⟩
  have ob := o.a.b
  obtain ⟨h1, h2⟩ := o.a.de
  have sa := o.a.wh.smr h1 (h2.mono (by omega))
  have sb := o.b.wh.smr h1 (h2.mono (by omega))
  have sab := (o.a.wh.add o.b.wh).smr h1 (h2.mono (by omega))
  refine ⟨z.1, M, D, E, n, m, rfl, o.a, z.2.1, C, D, E, n, m, rfl, o.b, _, _, rfl, Mx.of sa sb (by omega), ?_⟩
  exact ⟨_, _, rfl, Mx.of sab (o.c.smr o.a.d0 o.a.sD) (by omega), _, Sub.refl _, q⟩
noncomputable def gOver : List D → (D → Prop) → Prop := fun ds P => ∃ q r : Rat, ds = [frD q, frD r] ∧ r ≠ 0 ∧ Mx q r ∧ P (frD (q / r))
noncomputable abbrev s_over : Stmt := top 12
private theorem sc_over : FnScope ["q", "r"] ["q", "r"] (defScope s_over) := ⟨rfl, rfl, rfl, by decide +kernel, rfl, by decide +kernel, by decide +kernel⟩
private theorem h_over (B : Bl mg) (F : Def K mg "over" s_over ["q", "r"]) (F_fraction : hFrac P w K mg base) : Has P w K mg base CX0 3 "over" ["q", "r"] (spW K (pur gOver)) := by
  refine F.hasP sc_over (fun ds P h => by obtain ⟨a, b, rfl, _⟩ := h; rfl) fun f cdv A outer s H E hr => ?_
  have nd := sc_over.nd
  refine ⟨_, (jss_one (js_ret (j_h F_fraction (hr.mono (by decide)) rfl (ja_cons (j_mul (j_atV 0 j_int) (j_atV 1 j_int)) (ja_cons (j_mul (j_atV 0 j_int) (j_atV 1 j_int)) ja_nil))))), ?_⟩
  rintro ds M Q ⟨q, r, rfl, r0, m, k⟩
  have hb : (q.den : Int) * r.num ≠ 0 := Int.mul_ne_zero (den_ne q) (fun e => r0 (Rat.num_eq_zero.mp e))
  obtain ⟨n1, n2, l, a, b⟩ := m
  exact ⟨.inr ⟨n1, n2, by omega, a.1, b.2⟩, .inr ⟨n1, n2, by omega, a.2, b.1⟩, _, _, rfl, hb, (a.2.mul b.1).mono (by omega), _, Sub.refl _, by rw [r_div q r (fun e => r0 (Rat.num_eq_zero.mp e))]; exact k⟩
structure LLOk (D E n m k : Nat) (z : ZR) (M C : List Rat) : Prop where
  w : DwOk D E n m z M C
  kl : k < z.2.1.length
  b : bAt k z ≠ 0
noncomputable def llQ (k : Nat) (M C : List Rat) (z : ZR) : Rat := -(worthQ z M C) / bAt k z
noncomputable def gLL : List D → (D → Prop) → Prop := fun ds P => ∃ (z : ZR) (k : Nat) (M C : List Rat) (D E n m : Nat), ds = [zQ z, .int k, frL M, frL C] ∧ LLOk D E n m k z M C ∧ P (frD (llQ k M C z))
noncomputable abbrev s_least_let : Stmt := top 30
private theorem sc_least_let : FnScope ["low", "k", "made", "others"] ["low", "k", "made", "others"] (defScope s_least_let) := ⟨rfl, rfl, rfl, by decide +kernel, rfl, by decide +kernel, by decide +kernel⟩
private theorem h_least_let (B : Bl mg) (F : Def K mg "least_let" s_least_let ["low", "k", "made", "others"]) (F_over : Has P w K mg base CX0 3 "over" ["q", "r"] (spW K (pur gOver))) (F_opposite : Has P w K mg base CX0 1 "opposite" ["q"] (spW K (pur gOpp))) (F_demand_worth : Has P w K mg base CX0 5 "demand_worth" ["demand", "made", "choice"] (spW K (pur gDW))) : Has P w K mg base CX0 6 "least_let" ["low", "k", "made", "others"] (spW K (pur gLL)) := by
  refine F.hasP sc_least_let (fun ds P h => by obtain ⟨_, _, _, _, _, _, _, _, rfl, _⟩ := h; rfl) fun f cdv A outer s H E hr => ?_
  have nd := sc_least_let.nd
  refine ⟨_, (jss_one (js_ret (j_h F_over (hr.mono (by decide)) rfl (ja_cons (j_h F_opposite (hr.mono (by decide)) rfl (ja_cons (j_h F_demand_worth (hr.mono (by decide)) rfl (ja_cons (jv 0) (ja_cons (jv 2) (ja_cons (jv 3) ja_nil)))) ja_nil)) (ja_cons (j_at (j_atV 0 j_int) (jv 1)) ja_nil))))), ?_⟩
  rintro ds M0 Q ⟨z, k, M, C, D, E, n, m, rfl, o, q⟩
  have ob := o.w.a.b
  have sb : SmR n (bAt k z) := (o.w.b.q _ (getD_mem o.kl)).smr o.w.a.d0 o.w.a.sD
  refine ⟨z, M, C, D, E, n, m, rfl, o.w, _, rfl, RIx.frl o.kl ?_⟩
  exact ⟨_, _, rfl, o.b, Mx.of (smr_neg o.w.s) sb (by omega), _, Sub.refl _, q⟩
noncomputable def grQ (q : Rat) (qs : List Rat) : Rat := qs.foldl (fun g q => if g < q then q else g) q
noncomputable def gGr : List D → (D → Prop) → Prop := fun ds P => ∃ (q : Rat) (qs : List Rat) (n : Nat), ds = [frL (q :: qs)] ∧ (∀ x ∈ q :: qs, SmR n x) ∧ n ≤ 4400 ∧ P (frD (grQ q (q :: qs)))
private theorem gr_mem (n : Nat) : ∀ (qs : List Rat) (q : Rat), SmR n q → (∀ x ∈ qs, SmR n x) → SmR n (grQ q qs)
  | [], q, h, _ => h
  | x :: qs, q, h, k => by
    unfold grQ
    rw [List.foldl_cons]
    refine gr_mem n qs _ ?_ fun y hy => k y (.tail _ hy)
    split
    · exact k x (.head _)
    · exact h
noncomputable abbrev s_greatest_of : Stmt := top 31
private theorem sc_greatest_of : FnScope ["fractions", "greatest", "q"] ["fractions"] (defScope s_greatest_of) := ⟨rfl, rfl, rfl, by decide +kernel, rfl, by decide +kernel, by decide +kernel⟩
private theorem h_greatest_of (B : Bl mg) (F : Def K mg "greatest_of" s_greatest_of ["fractions"]) (F_below : hBelow P w K mg base) : Has P w K mg base CX0 2 "greatest_of" ["fractions"] (spW K (pur gGr)) := by
  refine F.hasP sc_greatest_of (fun ds P h => by obtain ⟨_, _, _, rfl, _⟩ := h; rfl) fun f cdv A outer s H E hr => ?_
  have nd := sc_greatest_of.nd
  refine ⟨_, (jss_cons (js_set (i := 1) nd rfl (Or.inl rfl) (j_atV 0 j_int))
    (jss_cons (js_for PassesOwn.never rfl (ji_list (jv 0)) (jg_name (i := 2) nd rfl (Or.inl rfl))
    (jss_one (js_if (jt (j_h F_below (hr.mono (by decide)) rfl (ja_cons (jv 1) (ja_cons (jv 2) ja_nil)))) (jss_one (js_set (i := 1) nd rfl (Or.inl rfl) (jv 2))) jss_nil)))
    (jss_one (js_ret (jv 1))))), ?_⟩
  rintro ds M Q ⟨q, qs, n, rfl, sq, hn, k⟩
  refine RIx.get (k := 0) (d := frD q) rfl ?_
  refine ⟨fun i ρ M' => M' = M ∧ ∃ o2, ρ = [.sh (frL (q :: qs)), .sh (frD (grQ q ((q :: qs).take i))), o2], ⟨rfl, _, rfl⟩, ?_, ?_⟩
  · rintro i d ρ M' hd ⟨rfl, o2, rfl⟩
    obtain ⟨x, hx, rfl⟩ := map_get hd
    have sx := sq x (List.mem_of_getElem? hx)
    have sg := gr_mem n ((q :: qs).take i) q (sq q (.head _)) fun y hy => sq y (List.mem_of_mem_take hy)
    have e : grQ q ((q :: qs).take (i + 1)) = if grQ q ((q :: qs).take i) < x then x else grQ q ((q :: qs).take i) := foldl_take hx
    refine ⟨_, x, rfl, Mx.of sg sx (by omega), ?_⟩
    refine iteB (fun c => ?_) (fun c => ?_)
    · refine ⟨rfl, .sh (frD x), ?_⟩
      rw [e, if_pos (by simpa using c)]; rfl
    · refine ⟨rfl, .sh (frD x), ?_⟩
      rw [e, if_neg (by simpa using c)]; rfl
  · rintro ρ M' ⟨rfl, o2, rfl⟩
    rw [List.length_map, List.take_length]
    exact ⟨_, Sub.refl _, k⟩

/-! ### chosen_by, exact -/
private theorem gr_in : ∀ (qs : List Rat) (q : Rat), grQ q qs = q ∨ grQ q qs ∈ qs
  | [], q => .inl rfl
  | x :: qs, q => by
    unfold grQ
    rw [List.foldl_cons]
    rcases gr_in qs (if q < x then x else q) with h | h
    · unfold grQ at h
      rw [h]
      split
      · exact .inr (.head _)
      · exact .inl rfl
    · exact .inr (.tail _ h)
noncomputable def bestQ : List Rat → Rat
  | [] => 0
  | q :: qs => grQ q (q :: qs)
private theorem best_in {l : List Rat} (h : l ≠ []) : bestQ l ∈ l := by
  cases l with
  | nil => exact (h rfl).elim
  | cons q qs =>
    rcases gr_in (q :: qs) q with e | e
    · show grQ q (q :: qs) ∈ _
      rw [e]; exact .head _
    · exact e
noncomputable def rowsK (S T : List (Rat × Rat)) (Z : List ZR) (k : Nat) : List ZR := rowsR S T Z (T.length - 1 - k)
noncomputable def chQ (S T : List (Rat × Rat)) (Z : List ZR) (M : List Rat) : Nat → List Rat
  | 0 => []
  | k + 1 => chQ S T Z M k ++ [bestQ ((lowsQ k (rowsK S T Z k)).map (llQ k M (chQ S T Z M k)))]
noncomputable def noneQ (S T : List (Rat × Rat)) (Z : List ZR) (M : List Rat) : Bool := (rowsR S T Z T.length).any fun z => decide (worthQ z M [] < 0)
private theorem on_stays {R : List ZR} {y : ZR} (h : y ∈ R) (i : idle y = false) : y ∈ onQ R := by
  unfold onQ
  have keep : ∀ (R acc : List ZR), y ∈ acc → y ∈ R.foldl onR acc := by
    intro R
    induction R with
    | nil => intro acc h; exact h
    | cons z R ih =>
      intro acc h
      rw [List.foldl_cons]
      refine ih _ ?_
      unfold onR
      split
      · exact h
      · split
        · exact h
        · exact List.mem_append_left _ h
  have go : ∀ (R acc : List ZR), y ∈ R → y ∈ R.foldl onR acc := by
    intro R
    induction R with
    | nil => intro acc h; cases h
    | cons z R ih =>
      intro acc h
      rw [List.foldl_cons]
      rcases List.mem_cons.mp h with rfl | h
      · refine keep R _ ?_
        unfold onR
        rw [i, if_neg Bool.false_ne_true]
        split
        · assumption
        · exact List.mem_append_right _ (.head _)
      · exact ih _ h
  exact go R [] h
noncomputable def lowR (S T : List (Rat × Rat)) (k : Nat) (x : Rat × Rat) : ZR := (List.replicate S.length 0, unitQ T.length k 1, -x.1)
private theorem unit_at {n k j : Nat} {q : Rat} (h : k < n) : (unitQ n k q).getD j 0 = if j = k then q else 0 := by
  unfold unitQ
  rw [List.getD_eq_getElem?_getD, List.getElem?_set]
  by_cases e : k = j
  · subst e
    rw [if_pos rfl, if_pos rfl, List.length_replicate, if_pos h]; rfl
  · rw [if_neg e, if_neg (fun z => e z.symm), List.getElem?_replicate]
    split <;> rfl
private theorem low_idle {S T : List (Rat × Rat)} {k : Nat} {x : Rat × Rat} (h : k < T.length) : idle (lowR S T k x) = false := by
  unfold idle
  have : ((lowR S T k x).1 ++ (lowR S T k x).2.1).all (fun q => decide (q = 0)) = false := by
    rw [List.all_eq_false]
    refine ⟨1, List.mem_append_right _ ?_, by decide +kernel⟩
    have e := unit_at (q := 1) (j := k) h
    rw [if_pos rfl] at e
    show (1 : Rat) ∈ unitQ T.length k 1
    have m := getD_mem (l := unitQ T.length k 1) (k := k) (by unfold unitQ; simpa using h)
    rw [e] at m
    exact m
  rw [this]; rfl
private theorem low_first {S T : List (Rat × Rat)} {Z : List ZR} {k : Nat} {x : Rat × Rat} (h : T[k]? = some x) : lowR S T k x ∈ firstQ S T Z := by
  have hk := (List.getElem?_eq_some_iff.mp h).1
  refine on_stays (List.mem_append_right _ ?_) (low_idle hk)
  refine List.mem_map.mpr ⟨(unitQ T.length k 1, -x.1), ?_, rfl⟩
  unfold bndRows
  refine List.mem_flatten.mpr ⟨bndAt T.length k x, List.mem_mapIdx.mpr ⟨k, hk, ?_⟩, .head _⟩
  rw [(List.getElem?_eq_some_iff.mp h).2]
private theorem low_rows {S T : List (Rat × Rat)} {Z : List ZR} {k : Nat} {x : Rat × Rat} (h : T[k]? = some x) : ∀ i, i ≤ T.length - 1 - k → lowR S T k x ∈ rowsR S T Z i
  | 0, _ => low_first h
  | i + 1, hi => by
    have hk := (List.getElem?_eq_some_iff.mp h).1
    refine on_stays (List.mem_append_left _ (List.mem_filter.mpr ⟨low_rows h i (by omega), ?_⟩)) (low_idle hk)
    have : bAt (T.length - 1 - i) (lowR S T k x) = 0 := by
      unfold bAt lowR
      rw [unit_at hk, if_neg (by omega)]
    rw [this]; decide +kernel
private theorem lows_ne {S T : List (Rat × Rat)} {Z : List ZR} {k : Nat} (h : k < T.length) : lowsQ k (rowsK S T Z k) ≠ [] := by
  have hx : T[k]? = some T[k] := List.getElem?_eq_getElem h
  intro e
  have m : lowR S T k T[k] ∈ lowsQ k (rowsK S T Z k) := List.mem_filter.mpr ⟨low_rows hx _ (Nat.le_refl _), by
    have : bAt k (lowR S T k T[k]) = 1 := by
      unfold bAt lowR
      rw [unit_at h, if_pos rfl]
    rw [this]; decide +kernel⟩
  rw [e] at m
  cases m
private theorem ll_wh {D E n m k : Nat} {z : ZR} {M C : List Rat} (o : LLOk D E n m k z M C) : ∃ B : Nat, B ≠ 0 ∧ Sm n (B : Int) ∧ Wh (E * B) (n + m + 22) (llQ k M C z) := by
  obtain ⟨K, hK, sK⟩ := o.w.wh
  obtain ⟨b, hb, sb⟩ := o.w.b.q _ (getD_mem o.kl)
  have hb : bAt k z = Rat.divInt b D := hb
  have d0 : (D : Int) ≠ 0 := by have := o.w.a.d0; omega
  have e0 : (E : Int) ≠ 0 := by have := o.w.a.e0; omega
  have b0 : b ≠ 0 := fun e => o.b (by rw [hb, e, Rat.zero_divInt])
  refine ⟨b.natAbs, by omega, by unfold Sm at sb ⊢; omega, ?_⟩
  refine ⟨-(K * b.sign), ?_, ?_⟩
  · have c1 : (D : Rat) ≠ 0 := by have := o.w.a.d0; exact_mod_cast this
    have c2 : (E : Rat) ≠ 0 := by have := o.w.a.e0; exact_mod_cast this
    have c3 : (b : Rat) ≠ 0 := by exact_mod_cast b0
    show -(worthQ z M C) / bAt k z = _
    rw [hK, hb, Rat.divInt_eq_div, Rat.divInt_eq_div, Rat.divInt_eq_div]
    rcases Int.lt_or_lt_of_ne b0 with h | h
    · have e1 : b.sign = -1 := Int.sign_eq_neg_one_of_neg h
      have e2 : ((E * b.natAbs : Nat) : Int) = (E : Int) * (-b) := by rw [Int.natCast_mul]; congr 1; omega
      rw [e1, e2]
      simp only [Int.natCast_mul, Rat.intCast_mul, Rat.intCast_neg, Rat.intCast_natCast] at *
      grind
    · have e1 : b.sign = 1 := Int.sign_eq_one_of_pos h
      have e2 : ((E * b.natAbs : Nat) : Int) = (E : Int) * b := by rw [Int.natCast_mul]; congr 1; omega
      rw [e1, e2]
      simp only [Int.natCast_mul, Rat.intCast_mul, Rat.intCast_neg, Rat.intCast_natCast] at *
      grind
  · unfold Sm at sK ⊢
    rw [Int.natAbs_neg, Int.natAbs_mul, Int.natAbs_sign_of_ne_zero b0, Nat.mul_one]
    exact sK

private theorem noLs_fr (xs : List Rat) : noLs (xs.map frD) = true := noLs_map fun _ => rfl

/-! ### an own tree in a name, held for good from here on -/
noncomputable def mdelA (M : Mm) (A : List Addr) : Mm := fun q => if q ∈ A then none else M q
noncomputable def wFzU (i : Nat) (f : WS) : WS := fun E ρ M => match uOf ρ[i]? with
  | some u => ∃ d A, Own M d u A ∧ f E (ρ.set i (.sh d)) (mdelA M A)
  | none => False
private theorem ag_fzU {Z F H : Hp} {M : Mm} {ρ : Rho} {σ : L2.St} {i : Nat} {u : U} {d : D} {A : List Addr} (ag : Ag K Z F M H ρ σ) (hu : uOf ρ[i]? = some u) (ow : Own M d u A) : Ag K Z (frz A H F) (mdelA M A) H (ρ.set i (.sh d)) σ := by
  have th := ow.there
  have sF := frz_same ag.m th
  have hv : ∃ v, σ[i]? = some (some v) ∧ RU K F u v := by
    cases q : ρ[i]? with
    | none => rw [q] at hu; cases hu
    | some en =>
      rw [q] at hu
      have hen := ag.en i en q
      cases en with
      | ut w => cases hu; obtain ⟨v, h1, h2⟩ := hen; exact ⟨v, sl_of h1, h2⟩
      | rf p => cases hu; exact ⟨.ref p, sl_of hen, by rw [RU]⟩
      | un => cases hu
      | sh d => cases hu
      | ow ds => cases hu
  obtain ⟨v, hv1, hv2⟩ := hv
  have m1 : AgM K Z (frz A H F) (mdelA M A) H := by
    refine ⟨frz_sm ag.m, fun q o e => ?_, fun q o e => ?_⟩
    · obtain ⟨z1, z2, z3⟩ := ag.m.zz q o e
      have nq : q ∉ A := fun hq => by obtain ⟨_, y⟩ := th q hq; rw [z3] at y; cases y
      exact ⟨z1, by rw [frz_out nq]; exact z2, by unfold mdelA; rw [if_neg nq]; exact z3⟩
    · have nq : q ∉ A := fun hq => by unfold mdelA at e; rw [if_pos hq] at e; cases e
      have e : M q = some o := by unfold mdelA at e; rw [if_neg nq] at e; exact e
      obtain ⟨z1, z2⟩ := ag.m.mo q o e
      exact ⟨by rw [frz_out nq]; exact z1, z2.same sF rfl⟩
  have a1 : Ag K Z (frz A H F) (mdelA M A) H ρ σ := by
    refine ⟨m1, ag.len, fun j en h => ?_, ag.di⟩
    have := ag.en j en h
    cases en with
    | un => trivial
    | sh d => obtain ⟨v, h1, h2⟩ := this; exact ⟨v, h1, Rp.same sF h2⟩
    | rf p => exact this
    | ut u => obtain ⟨v, h1, h2⟩ := this; exact ⟨v, h1, RU.same sF h2⟩
    | ow ds' =>
      obtain ⟨p, vs, h1, h2, h3, h4, h6, h5⟩ := this
      have nq : p ∉ A := fun hq => by obtain ⟨_, y⟩ := th p hq; rw [h4] at y; cases y
      exact ⟨p, vs, h1, h2, by rw [frz_out nq]; exact h3, by unfold mdelA; rw [if_neg nq]; exact h4, h6, Rps.same sF h5⟩
  have a3 := a1.set (i := i) (ow.rp ag.m sF (fun q hq => frz_in hq) hv2)
  rw [set_id hv1] at a3
  exact a3
private theorem js_fzU {X : Cx} {st : Stmt} {fs : WS} (i : Nat) (h : JS X st fs) : JS X st (wFzU i fs) := ⟨imS h.h fun D' σ H hh => ex5 hh fun Z F ρ M E ag hf k => by
  unfold wFzU at hf
  split at hf
  · rename_i u hu
    obtain ⟨d, A, ow, hf⟩ := hf
    exact ⟨Z, _, _, _, E, ag_fzU ag hu ow, hf, k.mono (frz_same ag.m ow.there)⟩
  · exact hf.elim⟩
private theorem mdel_mset {M : Mm} {p : Addr} {o : MO} (h : M p = none) : mdelA (mset M p o) [p] = M := by
  funext q
  unfold mdelA
  by_cases z : q = p
  · subst z; rw [if_pos (by simp)]; exact h.symm
  · rw [if_neg (by simpa using z), mset_ne z]
private theorem mset_mset {M : Mm} {p : Addr} {o o' : MO} : mset (mset M p o) p o' = mset M p o' := by
  funext q
  by_cases z : q = p
  · subst z; rw [mset_same, mset_same]
  · rw [mset_ne z, mset_ne z, mset_ne z]
/-! ### what is told new -/
noncomputable def ownL (ys : List Rat) : MO := .own ((ys.map frD).map U.d)
private theorem own_list {M : Mm} {p : Addr} {ys : List Rat} (h : M p = some (ownL ys)) : Own M (frL ys) (.adr p) [p] := .mkflat (noLs_fr ys) h
structure ChOk (S T : List (Rat × Rat)) (Z : List ZR) (M : List Rat) : Prop where
  ru : RuOk S T Z
  m : ∃ E : Nat, E ≠ 0 ∧ Sm 300 (E : Int) ∧ ∀ x ∈ M, Wh E 300 x
noncomputable def accR (t : Nat) : Nat → Nat
  | 0 => 300
  | k + 1 => accR t k + bitR (t - 1 - k) + 22
private theorem ch_wh {S T : List (Rat × Rat)} {Z : List ZR} {M : List Rat} {D : Nat} (d0 : D ≠ 0) (sD : Sm 400 (D : Int)) (a : ∀ z ∈ Z, RowW S.length T.length D 400 z) (b : ∀ x ∈ T, Wh D 400 x.1 ∧ Wh D 400 x.2) (hS : S.length ≤ 10) (hT : T.length ≤ 3)
    (hm : ∃ E : Nat, E ≠ 0 ∧ Sm 300 (E : Int) ∧ ∀ x ∈ M, Wh E 300 x) (hacc : ∀ k, k ≤ T.length → accR T.length k + bitR (T.length - 1 - k) ≤ 4300) : ∀ k, k ≤ T.length → ∃ E : Nat, E ≠ 0 ∧ Sm (accR T.length k) (E : Int) ∧ (∀ x ∈ M, Wh E (accR T.length k) x) ∧ ∀ x ∈ chQ S T Z M k, Wh E (accR T.length k) x
  | 0, _ => by
    obtain ⟨E, e0, sE, h⟩ := hm
    exact ⟨E, e0, sE, h, fun x hx => by cases hx⟩
  | k + 1, hk => by
    obtain ⟨E, e0, sE, h1, h2⟩ := ch_wh d0 sD a b hS hT hm hacc k (by omega)
    have in1 := best_in (l := (lowsQ k (rowsK S T Z k)).map (llQ k M (chQ S T Z M k))) (fun e => lows_ne (S := S) (Z := Z) (show k < T.length by omega) (List.map_eq_nil_iff.mp e))
    obtain ⟨z, hz, ez⟩ := List.mem_map.mp in1
    obtain ⟨zr, zb⟩ := List.mem_filter.mp hz
    have rw' := rows_w d0 sD a b (T.length - 1 - k) (by omega) z zr
    obtain ⟨b1, b2⟩ := bot_ok d0 sD (T.length - 1 - k)
    have acc := hacc k (by omega)
    have lo : LLOk (botR D (T.length - 1 - k)) E (bitR (T.length - 1 - k)) (accR T.length k) k z M (chQ S T Z M k) := by
      refine ⟨⟨⟨b1, e0, b2, sE, rw'.a, h1, by rw [rw'.s]; omega, by omega⟩, ⟨b1, e0, b2, sE, rw'.b, h2, by rw [rw'.t]; omega, by omega⟩, rw'.c⟩, by rw [rw'.t]; omega, fun e => ?_⟩
      rw [e] at zb
      exact absurd zb (by decide +kernel)
    obtain ⟨B, B0, sB, wB⟩ := ll_wh lo
    have up : ∀ x, Wh E (accR T.length k) x → Wh (E * B) (accR T.length (k + 1)) x := fun x hx => (hx.up B B0 sB).mono (by rw [accR]; omega)
    refine ⟨E * B, Nat.mul_ne_zero e0 B0, ?_, fun x hx => up x (h1 x hx), fun x hx => ?_⟩
    · rw [Int.natCast_mul]
      exact (sE.mul sB).mono (by rw [accR]; omega)
    · rcases List.mem_append.mp hx with hx | hx
      · exact up x (h2 x hx)
      · rw [List.mem_singleton.mp hx, ← ez]
        exact wB.mono (by rw [accR]; omega)
private theorem acc_le {t k : Nat} (ht : t ≤ 3) (hk : k ≤ t) : accR t k + bitR (t - 1 - k) ≤ 4300 := by
  have : t = 0 ∨ t = 1 ∨ t = 2 ∨ t = 3 := by omega
  rcases this with rfl | rfl | rfl | rfl <;> (rcases k with _ | _ | _ | _ | k <;> first | decide | omega)
private theorem jss_nox {X : Cx} {ss : List Stmt} {G : WS} (h : JSs X.nox ss G) : JSs X ss G := ⟨h.h.nox⟩
private theorem jt_nox {X : Cx} {e : Expr} {G : WT} (h : JT X.nox e G) : JT X e G := ⟨h.h.nox⟩
private theorem step_at {S T : List (Rat × Rat)} {Z : List ZR} {i : Nat} {d : D} (h : (stepsD S T Z T.length).reverse[i]? = some d) : i < T.length ∧ d = stepD i (rowsK S T Z i) := by
  have hi := (List.getElem?_eq_some_iff.mp h).1
  rw [List.length_reverse, stepsD, List.length_map, List.length_range] at hi
  refine ⟨hi, ?_⟩
  have l : (stepsD S T Z T.length).length = T.length := by rw [stepsD, List.length_map, List.length_range]
  rw [List.getElem?_reverse (by rw [l]; exact hi), l, stepsD, List.getElem?_map, List.getElem?_range (by omega)] at h
  have e : T.length - 1 - (T.length - 1 - i) = i := by omega
  have := Option.some.inj h
  rw [← this]
  show stepD (T.length - 1 - (T.length - 1 - i)) (rowsR S T Z (T.length - 1 - i)) = _
  rw [e]
  rfl
private theorem ch_len (S T : List (Rat × Rat)) (Z : List ZR) (M : List Rat) : ∀ k, (chQ S T Z M k).length = k
  | 0 => rfl
  | k + 1 => by rw [chQ, List.length_append, ch_len S T Z M k]; rfl
noncomputable def gCh : List D → (Option D → Prop) → Prop := fun ds P => ∃ (S T : List (Rat × Rat)) (Z : List ZR) (M : List Rat), ds = [ruleD S T Z, frL M] ∧ ChOk S T Z M ∧ if noneQ S T Z M = true then P none else P (some (frL (chQ S T Z M T.length)))
noncomputable abbrev s_chosen_by : Stmt := top 32
private theorem sc_chosen_by : FnScope ["rule", "made", "choice", "lows", "highs"] ["rule", "made"] (defScope s_chosen_by) := ⟨rfl, rfl, rfl, by decide +kernel, rfl, by decide +kernel, by decide +kernel⟩
private theorem h_chosen_by (B : Bl mg) (XC : ExC K mg "NoChoice") (F : Def K mg "chosen_by" s_chosen_by ["rule", "made"]) (F_below : hBelow P w K mg base) (F_demand_worth : Has P w K mg base CX0 5 "demand_worth" ["demand", "made", "choice"] (spW K (pur gDW))) (F_greatest_of : Has P w K mg base CX0 2 "greatest_of" ["fractions"] (spW K (pur gGr))) (F_least_let : Has P w K mg base CX0 6 "least_let" ["low", "k", "made", "others"] (spW K (pur gLL))) (C_ZERO : Zero4 K mg) : Has P w K mg base (CX1 P w) 7 "chosen_by" ["rule", "made"] (spE K (cOf mg "NoChoice") gCh) := by
  refine F.hasE sc_chosen_by XC (fun ds P h => by obtain ⟨_, _, _, _, rfl, _⟩ := h; rfl) rfl (fun _ _ _ _ _ _ _ => rfl) (by decide) fun f cdv A outer s H E hr => ?_
  have nd := sc_chosen_by.nd
  refine ⟨_, _, (jt_nox (jt (j_any rfl B.any rfl (ja_cons (j_fz (jn_lc ["row", "made"] [none, some 1] ⟨rfl, by decide +kernel, by decide +kernel, rfl, rfl, free_of rfl⟩ rfl (ji_list (j_atV 0 j_int)) (fun _ _ _ _ _ => (jg_name (i := 0) (show List.Nodup [("row" : Str), ("made" : Str)] by decide +kernel) rfl (Or.inl rfl))) (fun _ _ _ _ _ => jc_nil) (fun _ _ _ _ _ => (j_h F_below (hr.mono (by decide)) rfl (ja_cons (j_h F_demand_worth (hr.mono (by decide)) rfl (ja_cons (jv 0) (ja_cons (jv 1) (ja_cons (j_fz (jn_lst ja_nil)) ja_nil)))) (ja_cons (j_glob C_ZERO rfl) ja_nil)))))) ja_nil)))), (jss_nox (jss_cons (js_setU (i := 2) nd rfl (Or.inr rfl) (ju_new (jnu_n (jn_lst ja_nil))))
    (jss_cons (js_for PassesOwn.never rfl (ji_list (j_atV 0 j_int)) (jg_tup (n := 2) rfl (jgs_cons (jg_name (i := 3) nd rfl (Or.inl rfl)) (jgs_cons (jg_name (i := 4) nd rfl (Or.inl rfl)) jgs_nil)))
    (jss_one (js_appU (ju_v 2) (ju_d (j_frE 2 (j_h F_greatest_of (hr.mono (by decide)) rfl (ja_cons (j_fz (jn_lc ["low", "made", "choice"] [none, some 1, some 2] ⟨rfl, by decide +kernel, by decide +kernel, rfl, rfl, free_of rfl⟩ rfl (ji_list (jv 3)) (fun _ _ _ _ _ => (jg_name (i := 0) (show List.Nodup [("low" : Str), ("made" : Str), ("choice" : Str)] by decide +kernel) rfl (Or.inl rfl))) (fun _ _ _ _ _ => jc_nil) (fun _ _ _ _ _ => (j_h F_least_let (hr.mono (by decide)) rfl (ja_cons (jv 0) (ja_cons (j_lenV 2 rfl B.len) (ja_cons (jv 1) (ja_cons (jv 2) ja_nil)))))))) ja_nil)))))))
    (jss_one (js_fzU 2 (js_ret (jv 2))))))), ?_⟩
  rintro ds M0 Q ⟨S, T, Z, M, rfl, ok, q⟩
  have hS := ok.ru.s
  have hT := ok.ru.t3
  obtain ⟨D0, d0, sD, wZ, wT⟩ := ok.ru.w
  have cw := ch_wh (Z := Z) d0 sD wZ wT hS hT ok.m (fun k hk => acc_le hT hk)
  obtain ⟨E0, e0, sE, wM⟩ := ok.m
  obtain ⟨b1, b2⟩ := bot_ok d0 sD T.length
  have rl := rows_w d0 sD wZ wT T.length (Nat.le_refl _)
  have bl := bit_le hT
  have rn : (rowsR S T Z T.length).length ≤ 100000 := by
    refine Nat.le_trans (rows_len ok.ru T.length) ?_
    have : T.length = 0 ∨ T.length = 1 ∨ T.length = 2 ∨ T.length = 3 := by omega
    rcases this with e | e | e | e <;> rw [e] <;> decide
  -- the last rows
  refine ⟨fun i out ρ M' => M' = M0 ∧ out = ((rowsR S T Z T.length).take i).map (fun z => L3.D.bl (decide (worthQ z M [] < 0))) ∧ ∃ o, ρ = [o, .sh (frL M)], ⟨rfl, rfl, _, rfl⟩, ?_, ?_⟩
  · rintro i d out ρ M' hd ⟨rfl, rfl, o, rfl⟩
    obtain ⟨z, hz, rfl⟩ := map_get hd
    have wz := rl z (List.mem_of_getElem? hz)
    have hi := (List.getElem?_eq_some_iff.mp hz).1
    have dw : DwOk (botR D0 T.length) E0 (bitR T.length) 300 z M [] := ⟨⟨b1, e0, b2, sE, wz.a, wM, by rw [wz.s]; omega, by omega⟩, ⟨b1, e0, b2, sE, wz.b, fun x hx => (by cases hx), by rw [wz.t]; omega, by omega⟩, wz.c⟩
    exact ⟨by show 0 ≤ sizeLine; decide, z, M, [], _, _, _, _, rfl, dw, worthQ z M [], 0, rfl, Mx.of dw.s sm0 (by omega), by rw [List.length_map, List.length_take]; exact small10k (by omega), rfl, take_map' (f := fun z => L3.D.bl (decide (worthQ z M [] < 0))) hz, .sh (zQ z), rfl⟩
  rintro out ρ M' ⟨rfl, rfl, o, rfl⟩
  rw [List.length_map, List.take_length]
  show match bls ((rowsR S T Z T.length).map fun z => L3.D.bl (decide (worthQ z M [] < 0))) with | some bs => _ | none => False
  have eb : ((rowsR S T Z T.length).map fun z => L3.D.bl (decide (worthQ z M [] < 0))) = ((rowsR S T Z T.length).map fun z => decide (worthQ z M [] < 0)).map L3.D.bl := by rw [List.map_map]; rfl
  rw [eb, bls_map]
  have ea : ((rowsR S T Z T.length).map fun z => decide (worthQ z M [] < 0)).any id = noneQ S T Z M := by rw [List.any_map]; rfl
  show if ((rowsR S T Z T.length).map fun z => decide (worthQ z M [] < 0)).any id = true then _ else _
  rw [ea]
  refine iteB (fun c => ?_) (fun c => ?_)
  · rw [if_pos c] at q
    exact ⟨Sub.refl _, q⟩
  rw [if_neg (by rw [c]; exact Bool.false_ne_true)] at q
  have ls : (stepsD S T Z T.length).reverse.length = T.length := by rw [List.length_reverse, stepsD, List.length_map, List.length_range]
  refine ⟨by show 0 ≤ sizeLine; decide, fun p hp => ⟨fun i ρ M1 => M1 = mset M' p (ownL (chQ S T Z M i)) ∧ i ≤ T.length ∧ ∃ o3 o4 : Ent, ρ = [.sh (ruleD S T Z), .sh (frL M), .ut (.adr p), o3, o4], ⟨rfl, by omega, _, _, rfl⟩, ?_, ?_⟩⟩
  · rintro i d ρ M1 hd ⟨rfl, hi, o3, o4, rfl⟩
    obtain ⟨hi, rfl⟩ := step_at hd
    obtain ⟨Ek, ek0, sEk, wMk, wCk⟩ := cw i (by omega)
    obtain ⟨c1, c2⟩ := bot_ok d0 sD (T.length - 1 - i)
    have rk := rows_w d0 sD wZ wT (T.length - 1 - i) (by omega)
    have acc := acc_le hT (show i ≤ T.length by omega)
    have lo : ∀ z ∈ lowsQ i (rowsK S T Z i), LLOk (botR D0 (T.length - 1 - i)) Ek (bitR (T.length - 1 - i)) (accR T.length i) i z M (chQ S T Z M i) := fun z hz => by
      obtain ⟨zr, zb⟩ := List.mem_filter.mp hz
      have rz := rk z zr
      refine ⟨⟨⟨c1, ek0, c2, sEk, rz.a, wMk, by rw [rz.s]; omega, by omega⟩, ⟨c1, ek0, c2, sEk, rz.b, wCk, by rw [rz.t]; omega, by omega⟩, rz.c⟩, by rw [rz.t]; omega, fun e => ?_⟩
      rw [e] at zb
      exact absurd zb (by decide +kernel)
    have ln : (lowsQ i (rowsK S T Z i)).length ≤ 330 := Nat.le_trans (List.length_filter_le _ _) (Nat.le_trans (rows_len ok.ru _) (cnt_le (by omega) hT))
    have cl := ch_len S T Z M i
    refine ⟨rfl, ⟨_, mset_same⟩, frL (chQ S T Z M i), [p], own_list mset_same, fun j out ρ M2 => M2 = (fun _ => none) ∧ out = ((lowsQ i (rowsK S T Z i)).take j).map (fun z => frD (llQ i M (chQ S T Z M i) z)) ∧ ∃ o, ρ = [o, .sh (frL M), .sh (frL (chQ S T Z M i))], ⟨rfl, rfl, _, rfl⟩, ?_, ?_⟩
    · rintro j d out ρ M2 hd ⟨rfl, rfl, o, rfl⟩
      obtain ⟨z, hz, rfl⟩ := map_get hd
      have hj := (List.getElem?_eq_some_iff.mp hz).1
      exact ⟨z, i, M, chQ S T Z M i, _, _, _, _, by rw [List.length_map, cl], lo z (List.mem_of_getElem? hz), by rw [List.length_map, List.length_take]; exact small1000 (by omega), rfl, take_map' (f := fun z => frD (llQ i M (chQ S T Z M i) z)) hz, .sh (zQ z), rfl⟩
    rintro out ρ M2 ⟨rfl, h1, o, rfl⟩
    have h1 : out = ((lowsQ i (rowsK S T Z i)).take ((lowsQ i (rowsK S T Z i)).map zQ).length).map (fun z => frD (llQ i M (chQ S T Z M i) z)) := h1
    rw [List.length_map, List.take_length] at h1
    have e1 : ((lowsQ i (rowsK S T Z i)).map (fun z => frD (llQ i M (chQ S T Z M i) z))) = ((lowsQ i (rowsK S T Z i)).map (llQ i M (chQ S T Z M i))).map frD := by rw [List.map_map]; rfl
    rw [e1] at h1
    subst h1
    have ss : ∀ x ∈ (lowsQ i (rowsK S T Z i)).map (llQ i M (chQ S T Z M i)), SmR (bitR (T.length - 1 - i) + accR T.length i + 22) x := fun x hx => by
      obtain ⟨z, hz, rfl⟩ := List.mem_map.mp hx
      obtain ⟨B, B0, sB, wB⟩ := ll_wh (lo z hz)
      refine wB.smr (Nat.mul_ne_zero ek0 B0) ?_
      rw [Int.natCast_mul]
      exact (sEk.mul sB).mono (by omega)
    have nx : chQ S T Z M (i + 1) = chQ S T Z M i ++ [bestQ ((lowsQ i (rowsK S T Z i)).map (llQ i M (chQ S T Z M i)))] := rfl
    have ne : (lowsQ i (rowsK S T Z i)).map (llQ i M (chQ S T Z M i)) ≠ [] := fun e => lows_ne (S := S) (Z := Z) hi (List.map_eq_nil_iff.mp e)
    obtain ⟨q1, qs, el⟩ := List.exists_cons_of_ne_nil ne
    refine ⟨q1, qs, _, by rw [el], by rw [← el]; exact ss, by omega, rfl, _, mset_same, by rw [List.length_map, List.length_map, cl]; exact small1000 (by omega), ?_, by omega, .sh _, .sh _, rfl⟩
    rw [mset_mset, nx, el, ownL, List.map_append, List.map_append]
    rfl
  · rintro ρ M1 ⟨rfl, hi, o3, o4, rfl⟩
    rw [ls]
    refine ⟨frL (chQ S T Z M T.length), [p], own_list mset_same, ?_⟩
    rw [mdel_mset hp]
    exact ⟨Sub.refl _, q⟩

/-! ### what rules mean: the first of the choices, shim by shim -/
private theorem dot_mix (q r : Rat) : ∀ (a b x : List Rat), a.length = b.length → dot (mixQ q a r b) x = q * dot a x + r * dot b x
  | [], [], x, _ => by simp [mixQ, dot]; grind
  | [], _ :: _, _, h => by simp at h
  | _ :: _, [], _, h => by simp at h
  | u :: a, v :: b, [], _ => by simp [mixQ, dot]; grind
  | u :: a, v :: b, y :: x, h => by
    have ih := dot_mix q r a b x (by simpa using h)
    unfold mixQ at ih ⊢
    rw [List.zipWith_cons_cons, dot, dot, dot, ih]
    grind
private theorem dot_snoc (y : Rat) : ∀ (b p : List Rat), dot b (p ++ [y]) = dot b p + b.getD p.length 0 * y
  | [], p => by simp [dot]; grind
  | v :: b, [] => by
    have e : dot b [] = 0 := by cases b <;> rfl
    show v * y + dot b [] = 0 + v * y
    rw [e]; grind
  | v :: b, u :: p => by
    have ih := dot_snoc y b p
    rw [List.cons_append, dot, dot, ih, List.length_cons, List.getD_cons_succ]
    grind
private theorem dot_zeros : ∀ (b x : List Rat), (∀ j, b.getD j 0 = 0) → dot b x = 0
  | [], x, _ => by simp [dot]
  | v :: b, [], _ => by simp [dot]
  | v :: b, y :: x, h => by
    have h0 := h 0
    have ih := dot_zeros b x fun j => by have := h (j + 1); rwa [List.getD_cons_succ] at this
    rw [List.getD_cons_zero] at h0
    rw [dot, ih, h0]
    grind
noncomputable def Solves (R : List ZR) (M x : List Rat) : Prop := ∀ z ∈ R, 0 ≤ worthQ z M x
private theorem worth_pt {l h : ZR} {k : Nat} {M x : List Rat} (e1 : l.1.length = h.1.length) (e2 : l.2.1.length = h.2.1.length) : worthQ (ptQ l h k) M x = -(bAt k h) * worthQ l M x + bAt k l * worthQ h M x := by
  unfold worthQ ptQ bAt
  show dot (mixQ _ _ _ _) M + dot (mixQ _ _ _ _) x + _ = _
  rw [dot_mix _ _ _ _ _ e1, dot_mix _ _ _ _ _ e2]
  grind
private theorem idle_worth {z : ZR} {M x : List Rat} (h : idle z = true) : 0 ≤ worthQ z M x := by
  unfold idle at h
  rw [Bool.and_eq_true, List.all_eq_true] at h
  obtain ⟨h1, h2⟩ := h
  have g : ∀ (l : List Rat), (∀ q ∈ l, q = 0) → ∀ j, l.getD j 0 = 0 := fun l hl j => by
    rw [List.getD_eq_getElem?_getD]
    cases e : l[j]? with
    | none => rfl
    | some v => exact hl v (List.mem_of_getElem? e)
  unfold worthQ
  rw [dot_zeros z.1 M (g _ fun q hq => by simpa using h1 q (List.mem_append_left _ hq)), dot_zeros z.2.1 x (g _ fun q hq => by simpa using h1 q (List.mem_append_right _ hq))]
  have : ¬ z.2.2 < 0 := by simpa using h2
  grind
private theorem solves_on {R : List ZR} {M x : List Rat} : Solves (onQ R) M x ↔ Solves R M x := by
  constructor
  · intro h z hz
    by_cases c : idle z = true
    · exact idle_worth c
    · exact h z (on_stays hz (by simpa using c))
  · exact fun h z hz => h z (on_mem hz)
structure Cut (s t m : Nat) (z : ZR) : Prop where
  s : z.1.length = s
  t : z.2.1.length = t
  z : ∀ j, m ≤ j → z.2.1.getD j 0 = 0
private theorem mix_at (q r : Rat) (j : Nat) : ∀ (a b : List Rat), a.length = b.length → (mixQ q a r b).getD j 0 = q * a.getD j 0 + r * b.getD j 0 := by
  intro a b h
  unfold mixQ
  rw [List.getD_eq_getElem?_getD, List.getD_eq_getElem?_getD, List.getD_eq_getElem?_getD, List.getElem?_zipWith]
  by_cases c : j < a.length
  · rw [List.getElem?_eq_getElem c, List.getElem?_eq_getElem (by omega)]; rfl
  · rw [List.getElem?_eq_none (by omega), List.getElem?_eq_none (by omega)]
    simp
    grind
private theorem cut_out {s t k : Nat} {R : List ZR} (h : ∀ z ∈ R, Cut s t (k + 1) z) : ∀ z ∈ outs0 k R, Cut s t k z := by
  intro z hz
  rcases List.mem_append.mp hz with hz | hz
  · obtain ⟨zr, zb⟩ := List.mem_filter.mp hz
    have c := h z zr
    refine ⟨c.s, c.t, fun j hj => ?_⟩
    by_cases e : j = k
    · subst e; have : bAt j z = 0 := by simpa using zb
      exact this
    · exact c.z j (by omega)
  · obtain ⟨l, hl, hz⟩ := List.mem_flatten.mp hz
    obtain ⟨x, hx, rfl⟩ := List.mem_map.mp hl
    obtain ⟨y, hy, rfl⟩ := List.mem_map.mp hz
    have cx := h x (List.mem_filter.mp hx).1
    have cy := h y (List.mem_filter.mp hy).1
    refine ⟨?_, ?_, fun j hj => ?_⟩
    · show (mixQ _ _ _ _).length = s
      rw [mixQ, List.length_zipWith, cx.s, cy.s, Nat.min_self]
    · show (mixQ _ _ _ _).length = t
      rw [mixQ, List.length_zipWith, cx.t, cy.t, Nat.min_self]
    · show (mixQ _ _ _ _).getD j 0 = 0
      rw [mix_at _ _ _ _ _ (by rw [cx.t, cy.t])]
      by_cases e : j = k
      · subst e; grind
      · rw [cx.z j (by omega), cy.z j (by omega)]; grind
private theorem worth_snoc {z : ZR} {M p : List Rat} {y : Rat} : worthQ z M (p ++ [y]) = worthQ z M p + bAt p.length z * y := by
  unfold worthQ bAt
  rw [dot_snoc]
  grind
private theorem out_of {s t : Nat} {R : List ZR} {M p : List Rat} {y : Rat} (c : ∀ z ∈ R, Cut s t (p.length + 1) z) (h : Solves R M (p ++ [y])) : Solves (outs0 p.length R) M p := by
  intro z hz
  rcases List.mem_append.mp hz with hz | hz
  · obtain ⟨zr, zb⟩ := List.mem_filter.mp hz
    have e : bAt p.length z = 0 := by simpa using zb
    have := h z zr
    rw [worth_snoc, e] at this
    grind
  · obtain ⟨l, hl, hz⟩ := List.mem_flatten.mp hz
    obtain ⟨u, hu, rfl⟩ := List.mem_map.mp hl
    obtain ⟨v, hv, rfl⟩ := List.mem_map.mp hz
    obtain ⟨ur, ub⟩ := List.mem_filter.mp hu
    obtain ⟨vr, vb⟩ := List.mem_filter.mp hv
    have cu := c u ur
    have cv := c v vr
    have ub : 0 < bAt p.length u := by simpa using ub
    have vb : bAt p.length v < 0 := by simpa using vb
    have h1 := h u ur
    have h2 := h v vr
    rw [worth_snoc] at h1 h2
    rw [worth_pt (by rw [cu.s, cv.s]) (by rw [cu.t, cv.t])]
    have m1 : 0 ≤ -(bAt p.length v) * (worthQ u M p + bAt p.length u * y) := Rat.mul_nonneg (by grind) h1
    have m2 : 0 ≤ bAt p.length u * (worthQ v M p + bAt p.length v * y) := Rat.mul_nonneg (by grind) h2
    grind
private theorem gr_ge : ∀ (qs : List Rat) (q : Rat), q ≤ grQ q qs ∧ ∀ x ∈ qs, x ≤ grQ q qs
  | [], q => ⟨Rat.le_refl, fun x hx => by cases hx⟩
  | x :: qs, q => by
    have ⟨h1, h2⟩ := gr_ge qs (if q < x then x else q)
    unfold grQ at h1 h2 ⊢
    rw [List.foldl_cons]
    refine ⟨?_, fun y hy => ?_⟩
    · split at h1 <;> grind
    · rcases List.mem_cons.mp hy with rfl | hy
      · split at h1 <;> grind
      · exact h2 y hy
private theorem best_ge {l : List Rat} {x : Rat} (h : x ∈ l) : x ≤ bestQ l := by
  cases l with
  | nil => cases h
  | cons q qs => exact (gr_ge (q :: qs) q).2 x h
private theorem nn_of {a b : Rat} (ha : 0 < a) (h : 0 ≤ a * b) : 0 ≤ b := by
  rcases (show b < 0 ∨ 0 ≤ b by grind) with c | c
  · have := Rat.mul_pos ha (show 0 < -b by grind)
    grind
  · exact c
private theorem ll_le {z : ZR} {k : Nat} {M p : List Rat} {y : Rat} (b : 0 < bAt k z) : llQ k M p z ≤ y ↔ 0 ≤ worthQ z M p + bAt k z * y := by
  unfold llQ
  have e : bAt k z * (-(worthQ z M p) / bAt k z) = -(worthQ z M p) := by rw [Rat.mul_comm]; exact Rat.div_mul_cancel (by grind)
  generalize -(worthQ z M p) / bAt k z = q at *
  have e2 : worthQ z M p + bAt k z * y = bAt k z * (y - q) := by grind
  rw [e2]
  constructor
  · intro h; exact Rat.mul_nonneg (by grind) (by grind)
  · intro h; have := nn_of b h; grind
private theorem out_to {s t : Nat} {R : List ZR} {M p : List Rat} (c : ∀ z ∈ R, Cut s t (p.length + 1) z) (ne : lowsQ p.length R ≠ []) (h : Solves (outs0 p.length R) M p) : Solves R M (p ++ [bestQ ((lowsQ p.length R).map (llQ p.length M p))]) := by
  intro z hz
  rw [worth_snoc]
  rcases (show bAt p.length z < 0 ∨ bAt p.length z = 0 ∨ 0 < bAt p.length z by grind) with b | b | b
  · obtain ⟨u, hu, eu⟩ := List.mem_map.mp (best_in (l := (lowsQ p.length R).map (llQ p.length M p)) fun e => ne (List.map_eq_nil_iff.mp e))
    rw [← eu]
    obtain ⟨ur, ub⟩ := List.mem_filter.mp hu
    have ub : 0 < bAt p.length u := by simpa using ub
    have cu := c u ur
    have cv := c z hz
    have hp := h (ptQ u z p.length) (List.mem_append_right _ (List.mem_flatten.mpr ⟨_, List.mem_map.mpr ⟨u, hu, rfl⟩, List.mem_map.mpr ⟨z, List.mem_filter.mpr ⟨hz, by simpa using b⟩, rfl⟩⟩))
    rw [worth_pt (by rw [cu.s, cv.s]) (by rw [cu.t, cv.t])] at hp
    unfold llQ
    have e : bAt p.length u * (-(worthQ u M p) / bAt p.length u) = -(worthQ u M p) := by rw [Rat.mul_comm]; exact Rat.div_mul_cancel (by grind)
    generalize -(worthQ u M p) / bAt p.length u = y at *
    have : 0 ≤ bAt p.length u * (worthQ z M p + bAt p.length z * y) := by
      have : bAt p.length u * (worthQ z M p + bAt p.length z * y) = bAt p.length u * worthQ z M p + bAt p.length z * (bAt p.length u * y) := by grind
      rw [this, e]
      grind
    exact nn_of ub this
  · rw [b]
    have := h z (List.mem_append_left _ (List.mem_filter.mpr ⟨hz, by simpa using b⟩))
    grind
  · exact (ll_le b).mp (best_ge (List.mem_map.mpr ⟨z, List.mem_filter.mpr ⟨hz, by simpa using b⟩, rfl⟩))
private theorem best_le {R : List ZR} {M p : List Rat} {y : Rat} (ne : lowsQ p.length R ≠ []) (h : Solves R M (p ++ [y])) : bestQ ((lowsQ p.length R).map (llQ p.length M p)) ≤ y := by
  obtain ⟨u, hu, eu⟩ := List.mem_map.mp (best_in (l := (lowsQ p.length R).map (llQ p.length M p)) fun e => ne (List.map_eq_nil_iff.mp e))
  obtain ⟨ur, ub⟩ := List.mem_filter.mp hu
  rw [← eu, ll_le (by simpa using ub)]
  have := h u ur
  rwa [worth_snoc] at this
private theorem rows_cut {S T : List (Rat × Rat)} {Z : List ZR} (h : ∀ z ∈ Z, z.1.length = S.length ∧ z.2.1.length = T.length) : ∀ i, i ≤ T.length → ∀ z ∈ rowsR S T Z i, Cut S.length T.length (T.length - i) z
  | 0, _, z, hz => by
    have l : z.1.length = S.length ∧ z.2.1.length = T.length := by
      rcases List.mem_append.mp (on_mem hz) with hz | hz
      · exact h z hz
      · obtain ⟨r, hr, rfl⟩ := List.mem_map.mp hz
        unfold bndRows at hr
        obtain ⟨l, hl, hr⟩ := List.mem_flatten.mp hr
        obtain ⟨j, hj, rfl⟩ := List.mem_mapIdx.mp hl
        simp only [bndAt, List.mem_cons, List.not_mem_nil, or_false] at hr
        rcases hr with rfl | rfl <;> exact ⟨List.length_replicate, by simp [unitQ]⟩
    refine ⟨l.1, l.2, fun j hj => ?_⟩
    rw [List.getD_eq_getElem?_getD, List.getElem?_eq_none (by omega)]; rfl
  | i + 1, hi, z, hz => by
    have ih := rows_cut h i (by omega)
    have e : T.length - i = T.length - 1 - i + 1 := by omega
    rw [e] at ih
    have := cut_out ih z (on_mem hz)
    have e2 : T.length - (i + 1) = T.length - 1 - i := by omega
    rw [e2]
    exact this
noncomputable def First (P : List Rat → Prop) (t : Nat) (c : List Rat) : Prop := c.length = t ∧ P c ∧ ∀ x, x.length = t → P x → ∀ k, k < t → x.take k = c.take k → c.getD k 0 ≤ x.getD k 0
private theorem First.uniq {P : List Rat → Prop} {t : Nat} {c d : List Rat} (h : First P t c) (g : First P t d) : c = d := by
  obtain ⟨h1, h2, h3⟩ := h
  obtain ⟨g1, g2, g3⟩ := g
  have : ∀ k, k ≤ t → c.take k = d.take k := by
    intro k
    induction k with
    | zero => intro _; rfl
    | succ k ih =>
      intro hk
      have e := ih (by omega)
      have a := h3 d g1 g2 k (by omega) e.symm
      have b := g3 c h1 h2 k (by omega) e
      have ek : c.getD k 0 = d.getD k 0 := by grind
      rw [List.getD_eq_getElem?_getD, List.getD_eq_getElem?_getD, List.getElem?_eq_getElem (by omega), List.getElem?_eq_getElem (by omega)] at ek
      rw [List.take_add_one, List.take_add_one, e, List.getElem?_eq_getElem (by omega), List.getElem?_eq_getElem (by omega)]
      simp only [Option.getD_some] at ek
      rw [ek]
  have := this t (Nat.le_refl _)
  rwa [List.take_of_length_le (by omega), List.take_of_length_le (by omega)] at this
private theorem rows_of {S T : List (Rat × Rat)} {Z : List ZR} {M x : List Rat} (h : ∀ z ∈ Z, z.1.length = S.length ∧ z.2.1.length = T.length) (lx : x.length = T.length) (s : Solves (firstQ S T Z) M x) : ∀ i, i ≤ T.length → Solves (rowsR S T Z i) M (x.take (T.length - i))
  | 0, _ => by rw [Nat.sub_zero, List.take_of_length_le (by omega)]; exact s
  | i + 1, hi => by
    have ih := rows_of h lx s i (by omega)
    have c := rows_cut h i (by omega)
    have e : T.length - i = T.length - 1 - i + 1 := by omega
    have e2 : T.length - (i + 1) = T.length - 1 - i := by omega
    rw [e] at ih c
    rw [e2]
    have lp : (x.take (T.length - 1 - i)).length = T.length - 1 - i := by rw [List.length_take]; omega
    rw [List.take_add_one, List.getElem?_eq_getElem (by omega), Option.toList_some] at ih
    rw [rowsR]
    refine solves_on.mpr ?_
    have := out_of (p := x.take (T.length - 1 - i)) (by rw [lp]; exact c) ih
    rwa [lp] at this
private theorem none_iff {S T : List (Rat × Rat)} {Z : List ZR} {M : List Rat} : noneQ S T Z M = false ↔ Solves (rowsR S T Z T.length) M [] := by
  unfold noneQ Solves
  rw [List.any_eq_false]
  constructor
  · intro h z hz
    have := h z hz
    have : ¬ worthQ z M [] < 0 := by simpa using this
    grind
  · intro h z hz
    have := h z hz
    have : ¬ worthQ z M [] < 0 := by grind
    simpa using this
private theorem ch_solves {S T : List (Rat × Rat)} {Z : List ZR} {M : List Rat} (h : ∀ z ∈ Z, z.1.length = S.length ∧ z.2.1.length = T.length) (s : noneQ S T Z M = false) : ∀ k, k ≤ T.length → Solves (rowsR S T Z (T.length - k)) M (chQ S T Z M k)
  | 0, _ => none_iff.mp s
  | k + 1, hk => by
    have ih := ch_solves h s k (by omega)
    have lp := ch_len S T Z M k
    have e : T.length - k = T.length - (k + 1) + 1 := by omega
    rw [e, rowsR] at ih
    have ek : T.length - 1 - (T.length - (k + 1)) = k := by omega
    rw [ek] at ih
    have c := rows_cut h (T.length - (k + 1)) (by omega)
    have ec : T.length - (T.length - (k + 1)) = k + 1 := by omega
    rw [ec] at c
    have ne := lows_ne (S := S) (Z := Z) (show k < T.length by omega)
    have er : rowsK S T Z k = rowsR S T Z (T.length - (k + 1)) := by unfold rowsK; congr 1; omega
    rw [er] at ne
    have := out_to (p := chQ S T Z M k) (by rw [lp]; exact c) (by rw [lp]; exact ne) (by rw [lp]; exact solves_on.mp ih)
    rw [lp] at this
    rw [chQ, er]
    exact this
private theorem ch_take (S T : List (Rat × Rat)) (Z : List ZR) (M : List Rat) (k : Nat) : ∀ n, k ≤ n → (chQ S T Z M n).take k = chQ S T Z M k
  | 0, h => by have : k = 0 := by omega
               subst this; rfl
  | n + 1, h => by
    by_cases e : k = n + 1
    · subst e; rw [List.take_of_length_le (by rw [ch_len]; omega)]
    · rw [chQ, List.take_append_of_le_length (by rw [ch_len]; omega)]
      exact ch_take S T Z M k n (by omega)
noncomputable def PlanKeeps (S T : List (Rat × Rat)) (Z : List ZR) (M x : List Rat) : Prop := Solves (Z ++ shimR S T) M x
private theorem ch_first {S T : List (Rat × Rat)} {Z : List ZR} {M : List Rat} (h : ∀ z ∈ Z, z.1.length = S.length ∧ z.2.1.length = T.length) : (noneQ S T Z M = true → ∀ x, x.length = T.length → ¬ PlanKeeps S T Z M x) ∧ (noneQ S T Z M = false → First (PlanKeeps S T Z M) T.length (chQ S T Z M T.length)) := by
  constructor
  · intro n x lx k
    have := rows_of h lx (solves_on.mpr k) T.length (Nat.le_refl _)
    rw [Nat.sub_self, List.take_zero] at this
    rw [none_iff.mpr this] at n
    cases n
  · intro n
    refine ⟨ch_len _ _ _ _ _, ?_, fun x lx kx k hk e => ?_⟩
    · have := ch_solves h n T.length (Nat.le_refl _)
      rw [Nat.sub_self] at this
      exact solves_on.mp this
    · have a := rows_of h lx (solves_on.mpr kx) (T.length - (k + 1)) (by omega)
      have ec : T.length - (T.length - (k + 1)) = k + 1 := by omega
      rw [ec, List.take_add_one, e, List.getElem?_eq_getElem (by omega), Option.toList_some, ch_take S T Z M k T.length (by omega)] at a
      have lp := ch_len S T Z M k
      have er : rowsK S T Z k = rowsR S T Z (T.length - (k + 1)) := by unfold rowsK; congr 1; omega
      have ne := lows_ne (S := S) (Z := Z) hk
      rw [← er] at a
      have b := best_le (p := chQ S T Z M k) (by rw [lp]; exact ne) a
      rw [lp] at b
      have ce : (chQ S T Z M T.length).getD k 0 = bestQ ((lowsQ k (rowsK S T Z k)).map (llQ k M (chQ S T Z M k))) := by
        have t := ch_take S T Z M (k + 1) T.length (by omega)
        have g : (chQ S T Z M T.length)[k]? = (chQ S T Z M (k + 1))[k]? := by
          rw [← t, List.getElem?_take, if_pos (by omega)]
        rw [List.getD_eq_getElem?_getD, g, chQ, List.getElem?_append_right (by omega), lp, Nat.sub_self]
        rfl
      rw [ce, List.getD_eq_getElem?_getD, List.getElem?_eq_getElem (by omega)]
      exact b

/-! ### try: x = f(..) except S: suite, what is caught has no name -/
noncomputable def trX0 (K : PySem.W.Frag) (S : Addr) (ts : TS) (D : Ends) : L2.St → XK := fun σ' c oa H' => ∃ a C, c = .ref C ∧ oa = some a ∧ PySem.W.exmOne K (.ref C) (.ref S) = some true ∧ ts D σ' (upd H' a (.ext (IsX a C)))
noncomputable def tTry0 (K : PySem.W.Frag) (S : Addr) (tb : (L2.St → XK) → TS) (ts : TS) : TS := fun D σ H => tb (trX0 K S ts D) D σ H
private theorem ps_try0 {X : Cx} {S : Addr} {x : Str} {body suite : List Stmt} {b0 : Stmt} {tb : (L2.St → XK) → TS} {ts : TS} {np hpos pos : Pos} (hg : Gl X x) (hm : X.mg x = some (.ref S))
    (hb : ∀ pn xe R, Arr (Cx.tr X pn xe) R → PSs (Cx.tr X pn xe) body (tb R)) (hs : ∀ a, PSs (Cx.mk' X a) (b0 :: suite) ts) (hst : X.stack = X.env :: X.outer := by rfl) (hf : X.env.frame = some X.env.locals := by rfl)
    (hdb : (x == ("__debug__" : Str)) = false := by decide) :
    PS X (.Try body [.ExceptHandler (some (.Name x np)) none (b0 :: suite) hpos] [] [] pos) (tTry0 X.K S tb ts) := by
  intro pins s σ H D I h
  let XE : Value → Shared → Prop := fun e s' => ∃ (σ' : L2.St) (H0 H' : Hp) (s0 : Shared) (a C : Addr) (tb : Option Addr), e = .ref a ∧ Inv X pins σ' H0 s0 ∧ Lay X.prog X.w X.stack H0 H' s0 s' a C tb ∧ trX0 X.K S ts D σ' (.ref C) (some a) H'
  have ar : Arr (Cx.tr X (X.pn ++ pins) XE) (trX0 X.K S ts D) := fun pins' σ' H0 H' s0 s' a C tb I' y r => ⟨σ', H0, H', s0, a, C, tb, rfl, inv_untr I', y, r⟩
  refine wpAny_Try_except (wpAny_mono (hb (X.pn ++ pins) XE _ ar [] s σ H D (inv_tr I) h) (fun f s1 q => ?_) fun e s1 q => ?_)
  · cases f with
    | next =>
      obtain ⟨σ', H', I', q⟩ := q
      exact wpAny_execs_nil ⟨σ', H', inv_untr I', q⟩
    | brk => obtain ⟨σ', H', I', q⟩ := q; exact ⟨σ', H', inv_untr I', q⟩
    | cont => obtain ⟨σ', H', I', q⟩ := q; exact ⟨σ', H', inv_untr I', q⟩
    | ret u => obtain ⟨v, σ', H', I', r, q⟩ := q; exact ⟨v, σ', H', inv_untr I', r, q⟩
  obtain ⟨σ', H0, H', s0, a, C, tb', rfl, I0, y, a', C', eC, ea, hx, q⟩ := q
  cases eC
  cases ea
  have fu := I0.stack
  have sf := I0.stkFree
  have fr := I0.ok.frames
  have yf := y.funs fu sf
  rw [hst] at fr yf
  refine note_ok fr yf hf y.fl fun h' T hT fl kp => ?_
  rw [← hst] at kp
  have y' := y.noted fu sf hT fl kp
  have J := inv_land I0 y'
  refine wpAny_handleBy_cons (codeAny_handlers_test ?_) (by intro z; cases z)
  refine ld_glob (X := Cx.mk' X a) (inv_mark J) hg hm ?_ hdb
  obtain ⟨ox, ix⟩ := (J.hok a _ upd_same).1
  refine PySem.W.exm_one J.kIn ix.type hx _ _ _ _ (fun _ _ z => z) ?_
  refine codeAny_handlers_suite ?_
  refine land_ok fl fun h2 fl2 k2 z2 => ?_
  have nT := (y'.nT T rfl).2
  have n0 : ∀ b o, s0.heap.get? b = some o → b ≠ T := fun b o z e => by rw [e, nT] at z; cases z
  obtain ⟨m0, ⟨oL, _, _, hoL, _⟩, _⟩ := id I0.loc
  have hTs : X.s₀.heap.objs.size ≤ T := by
    obtain ⟨o', z⟩ := y.un.there _ _ hoL (by simp)
    exact Nat.le_trans I0.ok.above (Nat.le_trans (Nat.le_of_lt (Heap.lt_size z)) hT)
  have J2 : Inv X pins σ' (upd H' a (.ext (IsX a C))) { s1 with heap := h2 } := by
    refine Inv.turned (s := { s1 with heap := h' }) (h' := h2) (it := T) (t' := s1.toks) J (fun b o hb z => k2 b o hb z) ?_ (fun e => n0 _ _ hoL e.symm) (.inr hTs) (fun x c e z => ?_) fun p hp z => ?_
    · rw [upd_ne (fl.tr T rfl).1]; exact (y'.nT T rfl).1
    · obtain ⟨v, o, ho, _⟩ := I0.cell x c e
      exact n0 _ _ ho z
    · exact n0 _ _ (I0.pin p hp).1 z
  refine wpAny_mono (hs a pins _ _ _ _ (inv_mark J2) q) (fun f s3 z => ?_) fun _ _ z => z.elim
  cases f with
  | next =>
    obtain ⟨σ3, H3, J4, z⟩ := z
    exact ⟨_, _, inv_unmark I0.ok.hd J4, z⟩
  | brk =>
    obtain ⟨σ3, H3, J4, z⟩ := z
    exact ⟨_, _, inv_unmark I0.ok.hd J4, z⟩
  | cont =>
    obtain ⟨σ3, H3, J4, z⟩ := z
    exact ⟨_, _, inv_unmark I0.ok.hd J4, z⟩
  | ret u =>
    obtain ⟨v, σ3, H3, J4, r, z⟩ := z
    exact ⟨v, _, _, inv_unmark I0.ok.hd J4, r, z⟩
noncomputable def wTryE0 (i : Nat) (C : Addr) (g : List D → (Option D → Prop) → Prop) (fl : WA) (fs : WS) : WS := fun E ρ M => fl ρ M fun ds ρ1 M1 => g ds fun o => match o with
  | some d => E.nx (ρ1.set i (.sh d)) M1
  | none => ∀ p, M1 p = none → fs E ρ1 (mset M1 p (.xc C))
section
variable {X : Cx} {e : Expr} {es : List Expr} {fl : WA} {fs : WS} {x f S : Str} {i : Nat} {g : List D → (Option D → Prop) → Prop} {k : Nat} {ps : List Str} {b0 : Stmt} {suite : List Stmt} {pos pos' p cpos np hpos tpos : Pos} {C Sa : Addr}
private theorem js_tryE0 (F : Has X.prog X.w X.K X.mg X.base (CX1 X.prog X.w) k f ps (spE X.K C g)) (hr : Room k X.A) (hg : Gl X f) (hN : X.N.Nodup) (hi : X.N[i]? = some x) (hx : Loc X.env.scope x) (hgS : Gl X S) (hmS : X.mg S = some (.ref Sa)) (hex : PySem.W.exmOne X.K (.ref C) (.ref Sa) = some true)
    (ha : ∀ pn xe, JA (Cx.tr X pn xe) (e :: es) fl) (hs : ∀ a, JSs (Cx.mk' X a) (b0 :: suite) fs)
    (hdb : (f == ("__debug__" : Str)) = false := by decide) (he : starEach (e :: es) X.env = (false, eval e X.env) :: starEach es X.env := by rfl) (hpl : (backTo cpos (starEach es X.env)).any (·.1) = false := by rfl)
    (hsw : swapsWith (.Call (.Name f p) (e :: es) [] cpos) (some (.Name x pos')) pos.line X.env = pure false := by rfl) (hf : X.fn x = true ∨ X.env.scope.names.lookup x = some .local := by first | exact .inl rfl | exact .inr rfl | assumption)
    (hst : X.stack = X.env :: X.outer := by rfl) (hfr : X.env.frame = some X.env.locals := by rfl) (hdS : (S == ("__debug__" : Str)) = false := by decide) :
    JS X (.Try [.Assign [.Name x pos'] (.Call (.Name f p) (e :: es) [] cpos) pos] [.ExceptHandler (some (.Name S np)) none (b0 :: suite) hpos] [] [] tpos) (wTryE0 i C g fl fs) :=
  ⟨imS (ps_try0 (tb := fun R => tAsg (tCallX (spE X.K C g) R (lfA X.K fl)) (gName i)) (ts := lfS X.K fs) hgS hmS (fun pn xe R ar => pss_one (ps_set (X := Cx.tr X pn xe) hN hi hx (pe_hX (X := Cx.tr X pn xe) F hr hg ar (ha pn xe).h hdb he hpl) hsw hf)) (fun a => (hs a).h) hst hfr hdS) fun D' σ H hh => ex5 hh fun Z F ρ M E ag hf k => by
    refine ⟨Z, F, ρ, M, _, ag, hf, fun vs H1 F1 ds ρ1 M1 s1 ag1 r1 h1 => ?_⟩
    refine ⟨_, F1, M1, ds, _, ag1.m.inner, r1, h1, fun v H' F' d s' m' r p => ?_, fun x H' F' s' m' hx p => ?_⟩
    · exact k.nx _ H' F' _ M1 (s1.trans s') ((ag1.back s' m').set r) p
    · have a1 := ag1.back s' m'
      obtain ⟨y1, y2, y3⟩ := none_of a1.m hx
      have a2 := (a1.newO (o := .ext (IsX x C)) hx).adoptM (mo := .xc C) upd_same y1 y2 y3 (fun q es h z => by
        obtain ⟨q', ws, h1, h2, _⟩ := a1.en q _ h
        rw [z] at h1
        cases h1
        rw [hx] at h2; cases h2) upd_same
      have s2 := s1.trans s'
      exact ⟨x, C, rfl, rfl, hex, Z, F', _, _, _, a2, p x y2, ⟨fun σ' H2 F2 ρ2 M2 t a q => k.nx _ H2 F2 _ M2 (s2.trans t) a q, fun σ' H2 F2 ρ2 M2 t a q => k.bk _ H2 F2 _ M2 (s2.trans t) a q, fun σ' H2 F2 ρ2 M2 t a q => k.ct _ H2 F2 _ M2 (s2.trans t) a q, fun v H2 F2 u M2 t a r q => k.rt v H2 F2 u M2 (s2.trans t) a r q⟩⟩⟩
end

/-! ### pools: dicts that are drawn from, with a budget -/
private theorem U1 {k : Nat} {A : Around} (hr : Room k A) : A.units + 1 < cLine := Nat.lt_of_le_of_lt (Nat.add_le_add_left (by decide) _) (Room.u60 hr)
private theorem noSl_str {x : Str} {j : Nat} {pos : Pos} : NoSl (.Constant (.str x) j pos) := by
  first | exact fun _ _ => rfl | (intro _ _ _ _ _ h; cases h) | trivial | decide
noncomputable def PoolAt (b : Int) (o : HO) : Prop := ∃ (kvs : List (Key × V)) (rest turn : Int) (mixed : Bool), o = .dK kvs ∧ kvs.length ≤ 10 ∧ valV kvs (.inr "rest") = some (.int rest) ∧ valV kvs (.inr "mixed") = some (.bl mixed) ∧ valV kvs (.inr "turn") = some (.int turn) ∧ 0 ≤ turn ∧ turn + b ≤ 1000000000000000
private theorem putK_len {kvs : List (Key × V)} {k : Key} {v y : V} (h : valV kvs k = some v) : (putK kvs k y).length = kvs.length := by
  unfold putK
  have : (kvs.any fun kv => decide (kv.1 = k)) = true := by
    unfold valV at h
    rw [Option.map_eq_some_iff] at h
    obtain ⟨p, hp, _⟩ := h
    rw [List.any_eq_true]
    exact ⟨p, List.mem_of_find?_eq_some hp, by have := List.find?_some hp; simpa using this⟩
  rw [if_pos this, List.length_map]
noncomputable def spTake : Sp := fun vs H Q _ => ∃ (p : Addr) (many b : Int) (o : HO), vs = [.ref p, .int many] ∧ H p = some o ∧ PoolAt b o ∧ 1 ≤ b ∧ 0 < many ∧ Sm 9000 many ∧ ∀ r o', 0 ≤ r → r < many → PoolAt (b - 1) o' → Q (.int r) (upd H p o')
private theorem upd_upd {H : Hp} {p : Addr} {o o' : HO} : upd (upd H p o) p o' = upd H p o' := by
  funext b
  by_cases h : b = p
  · subst h; rw [upd_same, upd_same]
  · rw [upd_ne h, upd_ne h, upd_ne h]
noncomputable abbrev s_law_take : Stmt := top 36
private theorem sc_law_take : FnScope ["state", "many", "found", "stir"] ["state", "many"] (defScope s_law_take) := ⟨rfl, rfl, rfl, by decide +kernel, rfl, by decide +kernel, by decide +kernel⟩
private theorem h0__law_take (B : Bl mg) (F : Def K mg "_law_take" s_law_take ["state", "many"]) : Has P w K mg base CX0 1 "_law_take" ["state", "many"] spTake := by
  refine F.has sc_law_take (fun vs H Q E h => by obtain ⟨_, _, _, _, rfl, _⟩ := h; rfl) (fun f cdv A outer s H vs Q E hr h => ?_)
  obtain ⟨p, many, b, o, rfl, hp, ⟨kvs, rest, turn, mixed, rfl, l10, k1, k2, k3, c0, cb⟩, b1, m0, m1, q⟩ := h
  have nd := sc_law_take.nd
  refine ⟨_, (pss_cons (ps_if (pt_not (pt_val (pe_dget (U1 hr) (pv 0) pe_str noSl_str))) (pss_cons (ps_set (i := 2) nd rfl (Or.inl rfl) (pe_op op_modN (pe_dget (U1 hr) (pv 0) pe_str noSl_str) (pv 1)))
    (pss_cons (ps_dput (U1 hr) (pv 0) pe_str (pe_op op_fdivS (pe_dget (U1 hr) (pv 0) pe_str noSl_str) (pv 1)) rfl)
    (pss_one (ps_ret (pv 2))))) pss_nil)
    (pss_cons (ps_dput (U1 hr) (pv 0) pe_str (pe_op op_add (pe_dget (U1 hr) (pv 0) pe_str noSl_str) pe_int) rfl)
    (pss_cons (ps_set (i := 3) nd rfl (Or.inl rfl) (pe_op op_modN (pe_op op_add (pe_op op_modN (pe_dget (U1 hr) (pv 0) pe_str noSl_str) pe_int) (pe_op op_mulS pe_int (pe_dget (U1 hr) (pv 0) pe_str noSl_str))) pe_int))
    (pss_cons (ps_set (i := 3) nd rfl (Or.inl rfl) (pe_op op_modN (pe_op op_mulS (pv 3) (pv 3)) pe_int))
    (pss_cons (ps_dput (U1 hr) (pv 0) pe_str (pe_op op_modN (pe_op op_add (pe_op op_mulS (pv 3) pe_int) pe_int) pe_int) rfl)
    (pss_one (ps_ret (pe_op op_modN (pe_op op_fdivS (pe_dget (U1 hr) (pv 0) pe_str noSl_str) pe_int) (pv 1))))))))), ?_⟩
  have lk : kvs.length < sizeLine := Nat.lt_of_le_of_lt l10 (by decide)
  have g1 : DGet H p (.str "rest") (some (.int rest)) := by have := DGet.k (k := .inr "rest") hp; rw [k1] at this; exact this
  have g2 : DGet H p (.str "mixed") (some (.bl mixed)) := by have := DGet.k (k := .inr "mixed") hp; rw [k2] at this; exact this
  refine ⟨_, rfl, p, _, rfl, g2, _, rfl, ?_⟩
  have ne12 : ¬ ((.inr "mixed" : Key) = .inr "rest") := by decide
  have ne13 : ¬ ((.inr "turn" : Key) = .inr "rest") := by decide
  have ne31 : ¬ ((.inr "rest" : Key) = .inr "turn") := by decide
  have ne32 : ¬ ((.inr "mixed" : Key) = .inr "turn") := by decide
  have ml : ∀ x : Int, 0 ≤ x.fmod many ∧ x.fmod many < many := fun x => by
    rw [Int.fmod_eq_emod_of_nonneg _ (by omega)]; exact ⟨Int.emod_nonneg _ (by omega), Int.emod_lt_of_pos _ m0⟩
  refine iteB (fun c => ?_) (fun c => ?_)
  · refine ⟨_, rfl, p, _, rfl, g1, _, rfl, _, _, rfl, rfl, (by omega : many ≠ 0), ?_⟩
    refine ⟨_, rfl, p, _, rfl, g1, _, rfl, _, _, rfl, rfl, ⟨by omega, m1⟩, _, rfl, p, _, rfl, DPut.k (k := .inr "rest") hp lk, ?_⟩
    refine ⟨_, rfl, ?_⟩
    refine q _ _ (ml _).1 (ml _).2 ⟨_, _, turn, mixed, rfl, by rw [putK_len k1]; exact l10, by rw [valV_put, if_pos rfl], by rw [valV_put, if_neg ne12]; exact k2, by rw [valV_put, if_neg ne13]; exact k3, c0, by omega⟩
  · have g3 : DGet H p (.str "turn") (some (.int turn)) := by have := DGet.k (k := .inr "turn") hp; rw [k3] at this; exact this
    refine ⟨_, rfl, p, _, rfl, g3, _, _, rfl, rfl, _, rfl, p, _, rfl, DPut.k (k := .inr "turn") hp lk, ?_⟩
    generalize e1 : putK kvs (.inr "turn") (.int (turn + 1)) = kv1
    have h1 : valV kv1 (.inr "turn") = some (.int (turn + 1)) := by rw [← e1, valV_put, if_pos rfl]
    have h2 : valV kv1 (.inr "rest") = some (.int rest) := by rw [← e1, valV_put, if_neg ne31]; exact k1
    have h3 : valV kv1 (.inr "mixed") = some (.bl mixed) := by rw [← e1, valV_put, if_neg ne32]; exact k2
    have l1 : kv1.length ≤ 10 := by rw [← e1, putK_len k3]; exact l10
    have hp1 : upd H p (.dK kv1) p = some (.dK kv1) := upd_same
    have g4 : DGet (upd H p (.dK kv1)) p (.str "turn") (some (.int (turn + 1))) := by have := DGet.k (k := .inr "turn") hp1; rw [h1] at this; exact this
    have g5 : DGet (upd H p (.dK kv1)) p (.str "rest") (some (.int rest)) := by have := DGet.k (k := .inr "rest") hp1; rw [h2] at this; exact this
    have sm : ∀ x : Int, -(2 ^ 100 : Int) < x → x < (2 ^ 100 : Int) → Sm 100 x := fun x a b => sm_of a b
    have pw : (2 : Int) ^ 100 = 1267650600228229401496703205376 := by decide
    have Pm : ∀ (y m : Int), 0 < m → 0 ≤ y.fmod m ∧ y.fmod m < m := fun y m h => by
      rw [Int.fmod_eq_emod_of_nonneg _ (by omega)]; exact ⟨Int.emod_nonneg _ (by omega), Int.emod_lt_of_pos _ h⟩
    have P1 := Pm (rest.fmod 2147483579 + 70001 * (turn + 1)) 2147483579 (by decide)
    refine ⟨_, rfl, p, _, rfl, g5, _, _, rfl, rfl, (by decide : (2147483579 : Int) ≠ 0), _, rfl, p, _, rfl, g4, _, _, rfl, rfl, ⟨100, 100, by decide, sm _ (by decide) (by decide), sm _ (by omega) (by omega)⟩, _, _, rfl, rfl, _, _, rfl, rfl, (by decide : (2147483579 : Int) ≠ 0), ?_⟩
    refine ⟨_, rfl, _, rfl, _, _, rfl, rfl, ⟨100, 100, by decide, sm _ (by omega) (by omega), sm _ (by omega) (by omega)⟩, _, _, rfl, rfl, (by decide : (2147483563 : Int) ≠ 0), ?_⟩
    have P2 := Pm ((rest.fmod 2147483579 + 70001 * (turn + 1)).fmod 2147483579 * (rest.fmod 2147483579 + 70001 * (turn + 1)).fmod 2147483579) 2147483563 (by decide)
    refine ⟨_, rfl, _, _, rfl, rfl, ⟨100, 100, by decide, sm _ (by omega) (by omega), sm _ (by decide) (by decide)⟩, _, _, rfl, rfl, _, _, rfl, rfl, (by decide : (2147483579 : Int) ≠ 0), _, rfl, p, _, rfl, DPut.k (k := .inr "rest") hp1 (Nat.lt_of_le_of_lt l1 (by decide)), ?_⟩
    rw [upd_upd]
    generalize e2 : putK kv1 (.inr "rest") _ = kv2
    have hp2 : upd H p (.dK kv2) p = some (.dK kv2) := upd_same
    have h6 : ∃ z : Int, valV kv2 (.inr "rest") = some (.int z) := ⟨_, by rw [← e2, valV_put, if_pos rfl]⟩
    obtain ⟨z, h6⟩ := h6
    have g6 : DGet (upd H p (.dK kv2)) p (.str "rest") (some (.int z)) := by have := DGet.k (k := .inr "rest") hp2; rw [h6] at this; exact this
    refine ⟨_, rfl, p, _, rfl, g6, _, _, rfl, rfl, ⟨by decide, by unfold Sm; exact Nat.lt_of_lt_of_le (show (5 : Int).natAbs < 2 ^ 4 by decide) (Nat.pow_le_pow_right (by decide) (by decide))⟩, _, rfl, _, _, rfl, rfl, (by omega : many ≠ 0), ?_⟩
    refine q _ _ (ml _).1 (ml _).2 ?_
    rw [← e2]
    exact ⟨_, _, turn + 1, mixed, rfl, by rw [putK_len h2]; exact l1, by rw [valV_put, if_pos rfl], by rw [valV_put, if_neg ne12]; exact h3, by rw [valV_put, if_neg ne13]; exact h1, by omega, by omega⟩
noncomputable def isPool (b : Int) : HO → Prop := PoolAt b
noncomputable def gTake : List D → (D → Prop) → Prop := fun ds P => ∃ many : Int, ds = [.int many] ∧ 0 < many ∧ Sm 9000 many ∧ ∀ r : Int, 0 ≤ r → r < many → P (.int r)
private theorem less_pool : Less isPool := fun b b' o h ⟨kvs, rest, count, mixed, e, l, k1, k2, k3, c0, cb⟩ => ⟨kvs, rest, count, mixed, e, l, k1, k2, k3, c0, by omega⟩
private theorem h__law_take (B : Bl mg) (F : Def K mg "_law_take" s_law_take ["state", "many"]) : Has P w K mg base CX0 1 "_law_take" ["state", "many"] (spP K isPool 1 gTake) := by
  obtain ⟨f, fd, F, b, kp, m⟩ := (h0__law_take (P := P) (w := w) (base := base) B F).ex
  refine ⟨f, fd, F.imp ?_, b, kp, m⟩
  rintro vs H Q E ⟨Z, F', M, p, vs', ds, P, b, rfl, ag, hp, hb, r, ⟨many, rfl, m0, m1, q⟩, kk⟩
  obtain ⟨v, rfl, rv⟩ := rps1 r
  rw [Rp] at rv
  subst rv
  obtain ⟨fp, o, ho, po⟩ := ag.mo p _ hp
  refine ⟨p, many, b, o, rfl, ho, po, hb, m0, m1, fun r o' r0 r1 po' => kk (.int r) _ F' (.int r) (Same.refl _) ⟨fun b o e => ?_, fun b o e => ?_, fun b o e => ?_⟩ (by rw [Rp]) (q r r0 r1)⟩
  · rw [upd_ne (fun z => by rw [z, fp] at e; cases e)]; exact ag.sm b o e
  · obtain ⟨a1, a2, a3⟩ := ag.zz b o e
    have ne : b ≠ p := fun z => by rw [z, hp] at a3; cases a3
    exact ⟨by rw [upd_ne ne]; exact a1, a2, by rw [mset_ne ne]; exact a3⟩
  · by_cases e1 : b = p
    · subst e1
      rw [mset_same] at e
      cases e
      exact ⟨fp, o', upd_same, po'⟩
    · rw [mset_ne e1] at e
      obtain ⟨a1, a2⟩ := ag.mo b o e
      exact ⟨a1, MOk.same (Same.refl _) (upd_ne e1) a2⟩

/-! ### k19's family: cells, states and numbers -/
noncomputable def gCell : List D → (D → Prop) → Prop := fun ds P => ∃ k : Int, ds = [.int k] ∧ 0 ≤ k ∧ k ≤ 1000 ∧ ∀ c : Int, P (.int c)
private theorem at_get {α : Type} {ns : List α} {k : Int} (k0 : 0 ≤ k) (h : k < (ns.length : Int)) : ∃ c, atI ns k = some c := by
  refine ⟨ns[k.toNat]'(by omega), ?_⟩
  have := at_nat (ds := ns) (k := k.toNat) (List.getElem?_eq_getElem (by omega))
  rw [Int.toNat_of_nonneg k0] at this
  exact this
private theorem cmR {i j : Int} (h : -(2 ^ 64) < j ∧ j < 2 ^ 64) : CM i j := .inl (.inr h)
private theorem cmL {i j : Int} (h : -(2 ^ 64) < i ∧ i < 2 ^ 64) : CM i j := .inl (.inl h)
noncomputable abbrev s_law_cell : Stmt := top 34
private theorem sc_law_cell : FnScope ["script", "k"] ["script", "k"] (defScope s_law_cell) := ⟨rfl, rfl, rfl, by decide +kernel, rfl, by decide +kernel, by decide +kernel⟩
private theorem h__law_cell (B : Bl mg) (F : Def K mg "_law_cell" s_law_cell ["script", "k"]) : Has P w K mg base CX0 1 "_law_cell" ["script", "k"] (spD K (Scr K) gCell) := by
  refine F.hasD sc_law_cell (fun ds P h => by obtain ⟨_, rfl, _⟩ := h; rfl) fun f cdv A outer s H E hr => ?_
  have nd := sc_law_cell.nd
  refine ⟨_, (jss_cons (js_if (jt_lt (jv 1) (j_lenS 0 rfl B.len)) (jss_one (js_ret (j_atS 0 (jv 1)))) jss_nil)
    (jss_one (js_ret (j_add (j_add (j_mul (j_mul j_int (jv 1)) (jv 1)) (j_mul j_int (jv 1))) j_int)))), ?_⟩
  rintro p ds M Q ⟨ns, hN⟩ ⟨k, rfl, k0, k1, q⟩
  refine ⟨ns, hN, ?_⟩
  show if decide (k < (ns.length : Int)) = true then _ else _
  refine iteB (fun c => ?_) (fun c => ?_)
  · obtain ⟨x, hx⟩ := at_get k0 (show k < (ns.length : Int) by simpa using c)
    exact ⟨ns, x, hN, hx, Sub.refl _, q x⟩
  · exact ⟨cmL ⟨by decide, by decide⟩, cmR ⟨by omega, by omega⟩, cmL ⟨by decide, by decide⟩, Sub.refl _, q _⟩
noncomputable abbrev hCell (P : Program) (w : World) (K : PySem.W.Frag) (mg : Str → Option Value) (base : Heap) : Prop := Has P w K mg base CX0 1 "_law_cell" ["script", "k"] (spD K (Scr K) gCell)
noncomputable def gkPool : List D → Prop := fun ds => ∃ k : Int, ds = [.int k] ∧ 0 ≤ k ∧ k ≤ 1000
noncomputable abbrev s_law_state : Stmt := top 35
private theorem sc_law_state : FnScope ["script", "k"] ["script", "k"] (defScope s_law_state) := ⟨rfl, rfl, rfl, by decide +kernel, rfl, by decide +kernel, by decide +kernel⟩
private theorem h__law_state (B : Bl mg) (F : Def K mg "_law_state" s_law_state ["script", "k"]) (F__law_cell : hCell P w K mg base) : Has P w K mg base CX0 2 "_law_state" ["script", "k"] (spMk K (Scr K) gkPool (isPool 100000000)) := by
  refine F.hasMkO sc_law_state (fun ds h => by obtain ⟨_, rfl, _⟩ := h; rfl) fun f cdv A outer s H E hr => ?_
  have nd := sc_law_state.nd
  refine ⟨_, (jss_one (js_retD3 (isPool 100000000) (j_hD 0 F__law_cell (hr.mono (by decide)) rfl (ja_cons (jv 1) ja_nil)) (j_eq hr (j_mod (j_hD 0 F__law_cell (hr.mono (by decide)) rfl (ja_cons j_int ja_nil)) j_int) j_int) (jv 1))), ?_⟩
  rintro p ds M hS ⟨k, rfl, k0, k1⟩
  refine ⟨hS, k, rfl, k0, k1, fun c => ⟨hS, 0, rfl, by decide, by decide, fun c2 => ⟨(by decide : (2 : Int) ≠ 0), (by show 0 ≤ 60; decide), _, _, _, rfl, rfl, rfl, ⟨_, c, k, _, rfl, by show 3 ≤ 10; decide, rfl, rfl, rfl, by omega, by omega⟩, fun q hq => ⟨q, rfl, hq, Sub.refl _⟩⟩⟩⟩
noncomputable def gFrP : List D → (D → Prop) → Prop := fun ds P => ∃ a b : Int, ds = [.int a, .int b] ∧ 0 < b ∧ Sm 9000 b ∧ P (frD (Rat.divInt a b))
private theorem abs_gcd1 (a b : Int) : Int.gcd (if a < 0 then -a else a) b = Int.gcd a b := by
  split <;> simp [Int.neg_gcd]
noncomputable abbrev s_law_frac : Stmt := top 37
private theorem sc_law_frac : FnScope ["top", "bottom", "one", "other"] ["top", "bottom"] (defScope s_law_frac) := ⟨rfl, rfl, rfl, by decide +kernel, rfl, by decide +kernel, by decide +kernel⟩
private theorem h__law_frac (B : Bl mg) (F : Def K mg "_law_frac" s_law_frac ["top", "bottom"]) : Has P w K mg base CX0 1 "_law_frac" ["top", "bottom"] (spW K (pur gFrP)) := by
  refine F.hasP sc_law_frac (fun ds P h => by obtain ⟨a, b, rfl, _⟩ := h; rfl) fun f cdv A outer s H E hr => ?_
  have nd := sc_law_frac.nd
  refine ⟨_, (jss_cons (js_set (i := 2) nd rfl (Or.inl rfl) (j_abs rfl B.abs (ja_cons (jv 0) ja_nil)))
    (jss_cons (js_set (i := 3) nd rfl (Or.inl rfl) (jv 1))
    (jss_cons (js_while PassesOwn.never (jt_gt (jv 3) j_int) (jss_one (js_par (ps_par (i := 2) (j := 3) rfl nd rfl rfl (by decide) rfl rfl (JA.h (ja_cons (jv 3) (ja_cons (j_mod (jv 2) (jv 3)) ja_nil))) rfl))))
    (jss_one (js_ret (j_tup (ja_cons (j_fdiv (jv 0) (jv 2)) (ja_cons (j_fdiv (jv 1) (jv 2)) ja_nil)))))))), ?_⟩
  rintro ds M Q ⟨a, b, rfl, hb0, hs, q⟩
  have hb : b ≠ 0 := by omega
  refine ⟨fun m ρ M' => M' = M ∧ ∃ (l k : Int), ρ = [.sh (.int a), .sh (.int b), .sh (.int l), .sh (.int k)] ∧ m = k.natAbs ∧ 0 ≤ l ∧ 0 ≤ k ∧ Int.gcd l k = Int.gcd a b, ⟨_, rfl, _, _, rfl, rfl, ?_, by omega, abs_gcd1 a b⟩, ?_⟩
  · split <;> omega
  rintro m ρ M' ⟨rfl, l, k, rfl, rfl, l0, k0, e⟩
  show if decide (0 < k) = true then _ else _
  refine iteB (fun c => ?_) (fun c => ?_)
  · have c' : k ≠ 0 := by have : 0 < k := by simpa using c
                          omega
    exact ⟨c', _, fmod_small (a := l) c', rfl, _, _, rfl, rfl, k0, Int.fmod_nonneg l0 k0, by rw [gcd_step, e]⟩
  have c' : k = 0 := by have : ¬ 0 < k := by simpa using c
                        omega
  subst c'
  have e2 : l = (Int.gcd a b : Int) := by
    rw [← e, Int.gcd_zero_right]
    omega
  subst e2
  have gs : Sm 9000 (Int.gcd a b : Int) := gcd_sm hb hs
  have gp := gcd_pos (a := a) hb
  have e1 := fr_num (a := a) hb
  have e3 := fr_den (a := a) hb
  rw [if_neg (by omega)] at e1 e3
  refine ⟨⟨by omega, gs⟩, ⟨by omega, gs⟩, by show 2 ≤ sizeLine; decide, _, Sub.refl _, ?_⟩
  unfold frD at q
  rw [e1, e3] at q
  exact q
noncomputable abbrev hLF (P : Program) (w : World) (K : PySem.W.Frag) (mg : Str → Option Value) (base : Heap) : Prop := Has P w K mg base CX0 1 "_law_frac" ["top", "bottom"] (spW K (pur gFrP))
private theorem den_mul0 (q r : Rat) : 0 < (q.den : Int) * (r.den : Int) := Int.mul_pos (by have := den_pos q; omega) (by have := den_pos r; omega)
noncomputable abbrev s_law_plus : Stmt := top 38
private theorem sc_law_plus : FnScope ["q", "r"] ["q", "r"] (defScope s_law_plus) := ⟨rfl, rfl, rfl, by decide +kernel, rfl, by decide +kernel, by decide +kernel⟩
private theorem h__law_plus (B : Bl mg) (F : Def K mg "_law_plus" s_law_plus ["q", "r"]) (F__law_frac : hLF P w K mg base) : Has P w K mg base CX0 2 "_law_plus" ["q", "r"] (spW K (pur (gOp fun q r => q + r))) := by
  refine F.hasP sc_law_plus (fun ds P h => by obtain ⟨a, b, rfl, _⟩ := h; rfl) fun f cdv A outer s H E hr => ?_
  have nd := sc_law_plus.nd
  refine ⟨_, (jss_one (js_ret (j_h F__law_frac (hr.mono (by decide)) rfl (ja_cons (j_add (j_mul (j_atV 0 j_int) (j_atV 1 j_int)) (j_mul (j_atV 1 j_int) (j_atV 0 j_int))) (ja_cons (j_mul (j_atV 0 j_int) (j_atV 1 j_int)) ja_nil))))), ?_⟩
  rintro ds M Q ⟨q, r, rfl, m, k⟩
  exact ⟨m.c1, m.c2, m.c3, _, _, rfl, den_mul0 q r, m.s, _, Sub.refl _, by rw [r_add]; exact k⟩
noncomputable abbrev s_law_times : Stmt := top 39
private theorem sc_law_times : FnScope ["q", "r"] ["q", "r"] (defScope s_law_times) := ⟨rfl, rfl, rfl, by decide +kernel, rfl, by decide +kernel, by decide +kernel⟩
private theorem h__law_times (B : Bl mg) (F : Def K mg "_law_times" s_law_times ["q", "r"]) (F__law_frac : hLF P w K mg base) : Has P w K mg base CX0 2 "_law_times" ["q", "r"] (spW K (pur (gOp fun q r => q * r))) := by
  refine F.hasP sc_law_times (fun ds P h => by obtain ⟨a, b, rfl, _⟩ := h; rfl) fun f cdv A outer s H E hr => ?_
  have nd := sc_law_times.nd
  refine ⟨_, (jss_one (js_ret (j_h F__law_frac (hr.mono (by decide)) rfl (ja_cons (j_mul (j_atV 0 j_int) (j_atV 1 j_int)) (ja_cons (j_mul (j_atV 0 j_int) (j_atV 1 j_int)) ja_nil))))), ?_⟩
  rintro ds M Q ⟨q, r, rfl, m, k⟩
  exact ⟨m.c4, m.c3, _, _, rfl, den_mul0 q r, m.s, _, Sub.refl _, by rw [r_mul]; exact k⟩
noncomputable abbrev hLP (P : Program) (w : World) (K : PySem.W.Frag) (mg : Str → Option Value) (base : Heap) : Prop := Has P w K mg base CX0 2 "_law_plus" ["q", "r"] (spW K (pur (gOp fun q r => q + r)))
noncomputable abbrev hLT (P : Program) (w : World) (K : PySem.W.Frag) (mg : Str → Option Value) (base : Heap) : Prop := Has P w K mg base CX0 2 "_law_times" ["q", "r"] (spW K (pur (gOp fun q r => q * r)))
noncomputable abbrev hTake (P : Program) (w : World) (K : PySem.W.Frag) (mg : Str → Option Value) (base : Heap) : Prop := Has P w K mg base CX0 1 "_law_take" ["state", "many"] (spP K isPool 1 gTake)

noncomputable def SmN (n d : Nat) (q : Rat) : Prop := Sm n q.num ∧ Sm d (q.den : Int)
private theorem SmN.smr {n d : Nat} {q : Rat} (h : SmN n d q) (l : d ≤ n) : SmR n q := ⟨h.1, h.2.mono l⟩
private theorem smn_fr {n d : Nat} {a b : Int} (hb : 0 < b) (ha : Sm n a) (sb : Sm d b) (l : d ≤ n) : SmN n d (Rat.divInt a b) := by
  have e : ((b.toNat : Nat) : Int) = b := Int.toNat_of_nonneg (by omega)
  have w : Wh b.toNat n (Rat.divInt a b) := ⟨a, by rw [e], ha⟩
  exact ⟨(fr_sm (by omega) ha (sb.mono l)).1, w.den (by omega) (by rw [e]; exact sb)⟩
private theorem smn_int {n d : Nat} {a : Int} (ha : Sm n a) (d1 : 1 ≤ d) : SmN n d (a : Rat) := ⟨by rw [Rat.num_intCast]; exact ha, by rw [Rat.den_intCast]; exact Sm.mono (a := 1) (by unfold Sm; decide) d1⟩
private theorem smM {n : Int} (h : n.natAbs < 2 ^ 200 := by decide) : Sm 9000 n := Sm.mono (a := 200) h (by decide)
noncomputable def gSome : List D → (D → Prop) → Prop := fun ds P => ds = [] ∧ ∀ q : Rat, SmN 40 7 q → P (frD q)
noncomputable abbrev s_law_some : Stmt := top 41
private theorem sc_law_some : FnScope ["state", "kind"] ["state"] (defScope s_law_some) := ⟨rfl, rfl, rfl, by decide +kernel, rfl, by decide +kernel, by decide +kernel⟩
private theorem h__law_some (B : Bl mg) (F : Def K mg "_law_some" s_law_some ["state"]) (F__law_take : hTake P w K mg base) (F__law_frac : hLF P w K mg base) : Has P w K mg base CX0 2 "_law_some" ["state"] (spP K isPool 3 gSome) := by
  refine F.hasB less_pool sc_law_some (fun ds P h => by obtain ⟨rfl, _⟩ := h; rfl) fun f cdv A outer s H E hr => ?_
  have nd := sc_law_some.nd
  refine ⟨_, (jss_cons (js_set (i := 1) nd rfl (Or.inl rfl) (j_hP 0 F__law_take (hr.mono (by decide)) rfl (ja_cons j_int ja_nil)))
    (jss_cons (js_if (jt_eq hr (jv 1) j_int) (jss_one (js_ret (j_h F__law_frac (hr.mono (by decide)) rfl (ja_cons (j_sub (j_hP 0 F__law_take (hr.mono (by decide)) rfl (ja_cons (j_pow j_int j_int) ja_nil)) (j_mul j_int (j_pow j_int j_int))) (ja_cons (j_add j_int (j_hP 0 F__law_take (hr.mono (by decide)) rfl (ja_cons j_int ja_nil))) ja_nil))))) jss_nil)
    (jss_cons (js_if (jt_lt (jv 1) j_int) (jss_one (js_ret (j_tup (ja_cons (j_sub (j_hP 0 F__law_take (hr.mono (by decide)) rfl (ja_cons j_int ja_nil)) j_int) (ja_cons j_int ja_nil))))) jss_nil)
    (jss_one (js_ret (j_h F__law_frac (hr.mono (by decide)) rfl (ja_cons (j_sub (j_hP 0 F__law_take (hr.mono (by decide)) rfl (ja_cons j_int ja_nil)) j_int) (ja_cons (j_add j_int (j_hP 0 F__law_take (hr.mono (by decide)) rfl (ja_cons j_int ja_nil))) ja_nil)))))))), ?_⟩
  rintro p ds M b Q hp hb ⟨rfl, q⟩
  refine ⟨b, hp, by omega, 8, rfl, by decide, smM, fun r r0 r1 => ?_⟩
  refine ⟨by show 0 ≤ 60; decide, ?_⟩
  show if peq (.int r) (.int 7) = true then _ else _
  refine iteB (fun c => ?_) (fun c => ?_)
  · refine ⟨⟨by decide, by decide⟩, b - 1, mset_same, by omega, 1000000000000, rfl, by decide, smM, fun r2 r20 r21 => ⟨⟨by decide, by decide⟩, cmL ⟨by decide, by decide⟩, b - 1 - 1, mset_same, by omega, 97, rfl, by decide, smM, fun r3 r30 r31 => ?_⟩⟩
    have s1 : Sm 40 (r2 - 5 * 10 ^ 11) := by unfold Sm; omega
    have s2 : Sm 7 (1 + r3) := by unfold Sm; omega
    exact ⟨_, _, rfl, by omega, s2.mono (by decide), ⟨b - 1 - 1 - 1, by omega, by rw [mset_mset, mset_mset]; exact Sub.refl _⟩, q _ (smn_fr (by omega) s1 s2 (by decide))⟩
  show if decide (r < 3) = true then _ else _
  refine iteB (fun c => ?_) (fun c => ?_)
  · refine ⟨b - 1, mset_same, by omega, 19, rfl, by decide, smM, fun r' r0' r1' => ⟨by show 2 ≤ sizeLine; decide, ⟨b - 1 - 1, by omega, by rw [mset_mset]; exact Sub.refl _⟩, ?_⟩⟩
    have e := frI (r' - 9)
    have := q _ (smn_int (n := 40) (d := 7) (a := r' - 9) (by unfold Sm; omega) (by decide))
    rw [← e] at this
    exact this
  · refine ⟨b - 1, mset_same, by omega, 41, rfl, by decide, smM, fun r2 r20 r21 => ⟨b - 1 - 1, mset_same, by omega, 6, rfl, by decide, smM, fun r3 r30 r31 => ?_⟩⟩
    have s1 : Sm 40 (r2 - 20) := by unfold Sm; omega
    have s2 : Sm 7 (1 + r3) := by unfold Sm; omega
    exact ⟨_, _, rfl, by omega, s2.mono (by decide), ⟨b - 1 - 1 - 1, by omega, by rw [mset_mset, mset_mset]; exact Sub.refl _⟩, q _ (smn_fr (by omega) s1 s2 (by decide))⟩
noncomputable abbrev hSome (P : Program) (w : World) (K : PySem.W.Frag) (mg : Str → Option Value) (base : Heap) : Prop := Has P w K mg base CX0 2 "_law_some" ["state"] (spP K isPool 3 gSome)
noncomputable def gBounds : List D → (D → Prop) → Prop := fun ds P => ds = [] ∧ ∀ q r : Rat, SmN 40 7 q → SmN 4 2 r → 0 ≤ r → P (bQ (q, q + r))
noncomputable abbrev s_law_bounds : Stmt := top 43
private theorem sc_law_bounds : FnScope ["state", "low"] ["state"] (defScope s_law_bounds) := ⟨rfl, rfl, rfl, by decide +kernel, rfl, by decide +kernel, by decide +kernel⟩
private theorem h__law_bounds (B : Bl mg) (F : Def K mg "_law_bounds" s_law_bounds ["state"]) (F__law_some : hSome P w K mg base) (F__law_plus : hLP P w K mg base) (F__law_frac : hLF P w K mg base) (F__law_take : hTake P w K mg base) : Has P w K mg base CX0 3 "_law_bounds" ["state"] (spP K isPool 5 gBounds) := by
  refine F.hasB less_pool sc_law_bounds (fun ds P h => by obtain ⟨rfl, _⟩ := h; rfl) fun f cdv A outer s H E hr => ?_
  have nd := sc_law_bounds.nd
  refine ⟨_, (jss_cons (js_set (i := 1) nd rfl (Or.inl rfl) (j_hP 0 F__law_some (hr.mono (by decide)) rfl ja_nil))
    (jss_one (js_ret (j_tup (ja_cons (jv 1) (ja_cons (j_h F__law_plus (hr.mono (by decide)) rfl (ja_cons (jv 1) (ja_cons (j_h F__law_frac (hr.mono (by decide)) rfl (ja_cons (j_hP 0 F__law_take (hr.mono (by decide)) rfl (ja_cons j_int ja_nil)) (ja_cons (j_add j_int (j_hP 0 F__law_take (hr.mono (by decide)) rfl (ja_cons j_int ja_nil))) ja_nil))) ja_nil))) ja_nil)))))), ?_⟩
  rintro p ds M b Q hp hb ⟨rfl, q⟩
  refine ⟨b, hp, by omega, rfl, fun q1 s1 => ⟨b - 3, mset_same, by omega, 9, rfl, by decide, smM, fun r r0 r1 => ⟨b - 3 - 1, mset_same, by omega, 3, rfl, by decide, smM, fun r2 r20 r21 => ?_⟩⟩⟩
  have t1 : Sm 4 r := by unfold Sm; omega
  have t2 : Sm 2 (1 + r2) := by unfold Sm; omega
  have t3 := smn_fr (by omega) t1 t2 (by decide)
  refine ⟨_, _, rfl, by omega, t2.mono (by decide), q1, _, rfl, Mx.of (s1.smr (by decide)) (t3.smr (by decide)), by show 2 ≤ sizeLine; decide, ⟨b - 3 - 1 - 1, by omega, by rw [mset_mset, mset_mset]; exact Sub.refl _⟩, q q1 _ s1 t3 ?_⟩
  exact Rat.divInt_nonneg (by omega) (by omega)

noncomputable def gWt : List D → (D → Prop) → Prop := fun ds P => ds = [] ∧ ∀ q : Rat, Wh 60 12 q → P (frD q)
private theorem frD_lit {a b : Int} (h1 : (Rat.divInt a b).num = a) (h2 : ((Rat.divInt a b).den : Int) = b) : .tup [.int a, .int b] = frD (Rat.divInt a b) := by rw [frD, h1, h2]
private theorem wh_60 {a : Int} {d : Nat} (c : Nat) (e : d * c = 60) (h : Sm 12 (a * c)) : Wh 60 12 (Rat.divInt a d) := by
  have := Wh.of (n := 12) (a := a) (d := d) (c := c) (fun z => by subst z; omega) h
  rwa [e] at this
private theorem some_wt {P : D → Prop} (q : ∀ q : Rat, Wh 60 12 q → P (frD q)) : ∀ d ∈ ([.tup [.int 0, .int 1], .tup [.int 0, .int 1], .tup [.int 1, .int 1], .tup [.int (-1), .int 1], .tup [.int 1, .int 1], .tup [.int (-1), .int 1], .tup [.int 2, .int 1], .tup [.int (-3), .int 2], .tup [.int 1, .int 3], .tup [.int (-2), .int 1]] : List D), P d := by
  have g : ∀ (a : Int) (d c : Nat), d * c = 60 → Sm 12 (a * c) → (Rat.divInt a d).num = a → ((Rat.divInt a d).den : Int) = d → P (.tup [.int a, .int d]) := fun a d c e h h1 h2 => by
    rw [frD_lit h1 h2]; exact q _ (wh_60 c e h)
  have i0 := g 0 1 60 rfl (by unfold Sm; decide) (by decide +kernel) (by decide +kernel)
  have i1 := g 1 1 60 rfl (by unfold Sm; decide) (by decide +kernel) (by decide +kernel)
  have i2 := g (-1) 1 60 rfl (by unfold Sm; decide) (by decide +kernel) (by decide +kernel)
  have i3 := g 2 1 60 rfl (by unfold Sm; decide) (by decide +kernel) (by decide +kernel)
  have i4 := g (-3) 2 30 rfl (by unfold Sm; decide) (by decide +kernel) (by decide +kernel)
  have i5 := g 1 3 20 rfl (by unfold Sm; decide) (by decide +kernel) (by decide +kernel)
  have i6 := g (-2) 1 60 rfl (by unfold Sm; decide) (by decide +kernel) (by decide +kernel)
  intro d hd
  simp only [List.mem_cons, List.not_mem_nil, or_false] at hd
  rcases hd with rfl | rfl | rfl | rfl | rfl | rfl | rfl | rfl | rfl | rfl
  · exact i0
  · exact i0
  · exact i1
  · exact i2
  · exact i1
  · exact i2
  · exact i3
  · exact i4
  · exact i5
  · exact i6
private theorem wt_fr {r2 r3 : Int} (h1 : 0 ≤ r2) (h2 : r2 < 41) (h3 : 0 ≤ r3) (h4 : r3 < 6) : Wh 60 12 (Rat.divInt (r2 - 20) (1 + r3)) := by
  have : r3 = 0 ∨ r3 = 1 ∨ r3 = 2 ∨ r3 = 3 ∨ r3 = 4 ∨ r3 = 5 := by omega
  rcases this with rfl | rfl | rfl | rfl | rfl | rfl
  · exact wh_60 (d := 1) 60 rfl (by unfold Sm; omega)
  · exact wh_60 (d := 2) 30 rfl (by unfold Sm; omega)
  · exact wh_60 (d := 3) 20 rfl (by unfold Sm; omega)
  · exact wh_60 (d := 4) 15 rfl (by unfold Sm; omega)
  · exact wh_60 (d := 5) 12 rfl (by unfold Sm; omega)
  · exact wh_60 (d := 6) 10 rfl (by unfold Sm; omega)
noncomputable abbrev s_law_weight : Stmt := top 42
private theorem sc_law_weight : FnScope ["state", "some", "kind"] ["state"] (defScope s_law_weight) := ⟨rfl, rfl, rfl, by decide +kernel, rfl, by decide +kernel, by decide +kernel⟩
private theorem h__law_weight (B : Bl mg) (F : Def K mg "_law_weight" s_law_weight ["state"]) (F__law_take : hTake P w K mg base) (F__law_frac : hLF P w K mg base) : Has P w K mg base CX0 2 "_law_weight" ["state"] (spP K isPool 3 gWt) := by
  refine F.hasB less_pool sc_law_weight (fun ds P h => by obtain ⟨rfl, _⟩ := h; rfl) fun f cdv A outer s H E hr => ?_
  have nd := sc_law_weight.nd
  refine ⟨_, (jss_cons (js_set (i := 1) nd rfl (Or.inl rfl) (j_fz (jn_lst (ja_cons (j_tup (ja_cons j_int (ja_cons j_int ja_nil))) (ja_cons (j_tup (ja_cons j_int (ja_cons j_int ja_nil))) (ja_cons (j_tup (ja_cons j_int (ja_cons j_int ja_nil))) (ja_cons (j_tup (ja_cons (j_neg j_int) (ja_cons j_int ja_nil))) (ja_cons (j_tup (ja_cons j_int (ja_cons j_int ja_nil))) (ja_cons (j_tup (ja_cons (j_neg j_int) (ja_cons j_int ja_nil))) (ja_cons (j_tup (ja_cons j_int (ja_cons j_int ja_nil))) (ja_cons (j_tup (ja_cons (j_neg j_int) (ja_cons j_int ja_nil))) (ja_cons (j_tup (ja_cons j_int (ja_cons j_int ja_nil))) (ja_cons (j_tup (ja_cons (j_neg j_int) (ja_cons j_int ja_nil))) ja_nil)))))))))))))
    (jss_cons (js_set (i := 2) nd rfl (Or.inl rfl) (j_hP 0 F__law_take (hr.mono (by decide)) rfl (ja_cons j_int ja_nil)))
    (jss_cons (js_if (jt_lt (jv 2) j_int) (jss_one (js_ret (j_atV 1 (jv 2)))) jss_nil)
    (jss_one (js_ret (j_h F__law_frac (hr.mono (by decide)) rfl (ja_cons (j_sub (j_hP 0 F__law_take (hr.mono (by decide)) rfl (ja_cons j_int ja_nil)) j_int) (ja_cons (j_add j_int (j_hP 0 F__law_take (hr.mono (by decide)) rfl (ja_cons j_int ja_nil))) ja_nil)))))))), ?_⟩
  rintro p ds M b Q hp hb ⟨rfl, q⟩
  refine ⟨by show 2 ≤ sizeLine; decide, by show 2 ≤ sizeLine; decide, by show 2 ≤ sizeLine; decide, by show 2 ≤ sizeLine; decide, by show 2 ≤ sizeLine; decide, by show 2 ≤ sizeLine; decide, by show 2 ≤ sizeLine; decide, by show 2 ≤ sizeLine; decide, by show 2 ≤ sizeLine; decide, by show 2 ≤ sizeLine; decide, by show 10 ≤ sizeLine; decide, b, hp, by omega, 12, rfl, by decide, smM, fun r r0 r1 => ?_⟩
  show if decide (r < 10) = true then _ else _
  refine iteB (fun c => ?_) (fun c => ?_)
  · have c : r < 10 := by simpa using c
    refine RIx.lst r0 (by show r < 10; exact c) ?_
    have := some_wt (P := fun d => (∃ b', b - 3 ≤ b' ∧ L4.Sub (mset M p (MO.op (isPool b'))) (mset M p (MO.op (isPool (b - 1))))) ∧ Q d) fun x hx => ⟨⟨b - 1, by omega, Sub.refl _⟩, q x hx⟩
    exact this
  · refine ⟨b - 1, mset_same, by omega, 41, rfl, by decide, smM, fun r2 r20 r21 => ⟨b - 1 - 1, mset_same, by omega, 6, rfl, by decide, smM, fun r3 r30 r31 => ?_⟩⟩
    have s2 : Sm 7 (1 + r3) := by unfold Sm; omega
    exact ⟨_, _, rfl, by omega, s2.mono (by decide), ⟨b - 1 - 1 - 1, by omega, by rw [mset_mset, mset_mset]; exact Sub.refl _⟩, q _ (wt_fr r20 r21 r30 r31)⟩

/-! ### common bottoms of drawn plans and made sets -/
private theorem Wh.self (q : Rat) {n : Nat} (h : Sm n q.num) : Wh q.den n q := ⟨q.num, (Rat.num_divInt_den q).symm, h⟩
private theorem com_list {n d : Nat} : ∀ (l : List Rat), (∀ q ∈ l, SmN n d q) → ∃ D : Nat, D ≠ 0 ∧ Sm (d * l.length + 1) (D : Int) ∧ ∀ q ∈ l, Wh D (n + d * l.length + 1) q
  | [], _ => ⟨1, by decide, by show (1 : Nat) < 2 ^ (d * 0 + 1); rw [Nat.mul_zero]; decide, fun q hq => by cases hq⟩
  | q :: l, h => by
    obtain ⟨D, d0, sD, w⟩ := com_list l fun x hx => h x (.tail _ hx)
    obtain ⟨s1, s2⟩ := h q (.head _)
    have e : d * (q :: l).length = d * l.length + d := by rw [List.length_cons, Nat.mul_add, Nat.mul_one]
    refine ⟨D * q.den, Nat.mul_ne_zero d0 q.den_nz, ?_, fun x hx => ?_⟩
    · rw [Int.natCast_mul, e]
      exact (sD.mul s2).mono (by omega)
    · rcases List.mem_cons.mp hx with rfl | hx
      · have := ((Wh.self x s1).up D d0 sD).mono (b := n + d * (x :: l).length + 1) (by rw [e]; omega)
        rwa [Nat.mul_comm] at this
      · exact ((w x hx).up q.den q.den_nz s2).mono (by rw [e]; omega)
noncomputable def DrB (x : Rat × Rat) : Prop := SmN 40 7 x.1 ∧ SmN 40 7 (x.2 - x.1) ∧ x.1 ≤ x.2
structure DrZ (s t : Nat) (z : ZR) : Prop where
  s : z.1.length = s
  t : z.2.1.length = t
  a : ∀ q ∈ z.1, Wh 60 12 q
  b : ∀ q ∈ z.2.1, Wh 60 12 q
  c : SmN 40 7 z.2.2
structure Dr (S T : List (Rat × Rat)) (Z : List ZR) : Prop where
  s0 : 1 ≤ S.length
  s6 : S.length ≤ 6
  t3 : T.length ≤ 3
  z : Z.length ≤ 8 ∧ (T.length = 2 → Z.length ≤ 6) ∧ (T.length = 3 → Z.length ≤ 3)
  bs : ∀ x ∈ S, DrB x
  bt : ∀ x ∈ T, DrB x
  bz : ∀ z ∈ Z, DrZ S.length T.length z
private theorem dr_com {S T : List (Rat × Rat)} {Z : List ZR} {X : List Rat} (h : Dr S T Z) (hx : ∀ q ∈ X, SmN 40 7 q) (lx : X.length ≤ 12) : ∃ D : Nat, D ≠ 0 ∧ Sm 200 (D : Int) ∧ (∀ z ∈ Z, Wh D 230 z.2.2) ∧ (∀ x ∈ T, Wh D 230 x.1 ∧ Wh D 231 x.2) ∧ ∀ q ∈ X, Wh D 230 q := by
  have z8 := h.z.1
  have t3 := h.t3
  obtain ⟨D, d0, sD, w⟩ := com_list (n := 40) (d := 7) (Z.map (fun z => z.2.2) ++ (T.map (fun x => x.1) ++ (T.map (fun x => x.2 - x.1) ++ X))) (fun q hq => by
    rcases List.mem_append.mp hq with hq | hq
    · obtain ⟨z, hz, rfl⟩ := List.mem_map.mp hq
      exact (h.bz z hz).c
    rcases List.mem_append.mp hq with hq | hq
    · obtain ⟨x, hx, rfl⟩ := List.mem_map.mp hq
      exact (h.bt x hx).1
    rcases List.mem_append.mp hq with hq | hq
    · obtain ⟨x, hx, rfl⟩ := List.mem_map.mp hq
      exact (h.bt x hx).2.1
    · exact hx q hq)
  have l : (Z.map (fun z => z.2.2) ++ (T.map (fun x => x.1) ++ (T.map (fun x => x.2 - x.1) ++ X))).length ≤ 26 := by
    simp only [List.length_append, List.length_map]; omega
  generalize (Z.map (fun z => z.2.2) ++ (T.map (fun x => x.1) ++ (T.map (fun x => x.2 - x.1) ++ X))).length = m at l sD w
  have w' : ∀ q ∈ Z.map (fun z => z.2.2) ++ (T.map (fun x => x.1) ++ (T.map (fun x => x.2 - x.1) ++ X)), Wh D 230 q := fun q hq => (w q hq).mono (by omega)
  refine ⟨D, d0, sD.mono (by omega), fun z hz => ?_, fun x hx => ?_, fun q hq => ?_⟩
  · exact w' _ (List.mem_append_left _ (List.mem_map.mpr ⟨z, hz, rfl⟩))
  · have h1 := w' x.1 (List.mem_append_right _ (List.mem_append_left _ (List.mem_map.mpr ⟨x, hx, rfl⟩)))
    have h2 := w' (x.2 - x.1) (List.mem_append_right _ (List.mem_append_right _ (List.mem_append_left _ (List.mem_map.mpr ⟨x, hx, rfl⟩))))
    have := h1.add h2
    have e : x.1 + (x.2 - x.1) = x.2 := by grind
    rw [e] at this
    exact ⟨h1, this⟩
  · exact w' _ (List.mem_append_right _ (List.mem_append_right _ (List.mem_append_right _ hq)))
private theorem sm_60 {D : Nat} (sD : Sm 200 (D : Int)) : Sm 400 ((60 * D : Nat) : Int) := by
  rw [Int.natCast_mul]
  exact ((show Sm 6 ((60 : Nat) : Int) by unfold Sm; decide).mul sD).mono (by decide)
private theorem wh_60D {D n : Nat} {q : Rat} (h : Wh D n q) : Wh (60 * D) (n + 6) q := by
  rw [Nat.mul_comm]
  exact h.up 60 (by decide) (by unfold Sm; decide)
private theorem wt_60D {D : Nat} {q : Rat} (d0 : D ≠ 0) (sD : Sm 200 (D : Int)) (h : Wh 60 12 q) : Wh (60 * D) 212 q := h.up D d0 sD
private theorem dr_ru {S T : List (Rat × Rat)} {Z : List ZR} (h : Dr S T Z) : RuOk S T Z := by
  obtain ⟨D, d0, sD, wz, wt, _⟩ := dr_com (X := []) h (fun q hq => by cases hq) (by decide)
  obtain ⟨z8, z2, z3⟩ := h.z
  have t3 := h.t3
  refine ⟨by have := h.s6; omega, t3, by omega, ?_, fun e => by have := z3 e; omega, 60 * D, Nat.mul_ne_zero (by decide) d0, sm_60 sD, fun z hz => ?_, fun x hx => ?_⟩
  · have : T.length = 0 ∨ T.length = 1 ∨ T.length = 2 ∨ T.length = 3 := by omega
    rcases this with e | e | e | e
    · omega
    · omega
    · have := z2 e; omega
    · have := z3 e; omega
  · have b := h.bz z hz
    exact ⟨b.s, b.t, fun q hq => (wt_60D d0 sD (b.a q hq)).mono (by decide), fun q hq => (wt_60D d0 sD (b.b q hq)).mono (by decide), (wh_60D (wz z hz)).mono (by decide)⟩
  · exact ⟨(wh_60D (wt x hx).1).mono (by decide), (wh_60D (wt x hx).2).mono (by decide)⟩

/-! ### what is told, by its meaning: for plans changed -/
noncomputable def Told (P : List Rat → Prop) (t : Nat) : Option (List Rat) → Prop
  | none => ∀ x, x.length = t → ¬ P x
  | some c => First P t c
private theorem Told.uniq {P P' : List Rat → Prop} {t : Nat} {o o' : Option (List Rat)} (e : ∀ x, x.length = t → (P x ↔ P' x)) (h : Told P t o) (g : Told P' t o') : o = o' := by
  cases o with
  | none =>
    cases o' with
    | none => rfl
    | some c => exact (h c g.1 ((e c g.1).mpr g.2.1)).elim
  | some c =>
    cases o' with
    | none => exact (g c h.1 ((e c h.1).mp h.2.1)).elim
    | some d =>
      have h' : First P' t c := ⟨h.1, (e c h.1).mp h.2.1, fun x lx px => h.2.2 x lx ((e x lx).mpr px)⟩
      rw [First.uniq h' g]
noncomputable def toldQ (S T : List (Rat × Rat)) (Z : List ZR) (M : List Rat) : Option (List Rat) := if noneQ S T Z M = true then none else some (chQ S T Z M T.length)
private theorem told_is {S T : List (Rat × Rat)} {Z : List ZR} {M : List Rat} (h : ∀ z ∈ Z, z.1.length = S.length ∧ z.2.1.length = T.length) : Told (PlanKeeps S T Z M) T.length (toldQ S T Z M) := by
  obtain ⟨h1, h2⟩ := ch_first (M := M) h
  unfold toldQ
  split
  · rename_i c; exact h1 c
  · rename_i c; exact h2 (by simpa using c)
private theorem dot_unit (n k : Nat) (q : Rat) (x : List Rat) (hk : k < n) (lx : x.length = n) : dot (unitQ n k q) x = q * x.getD k 0 := by
  have key : ∀ (n k : Nat) (x : List Rat), k < n → x.length = n → dot ((List.replicate n 0).set k q) x = q * x.getD k 0 := by
    intro n
    induction n with
    | zero => intro k x h; omega
    | succ n ih =>
      intro k x hk lx
      cases x with
      | nil => simp at lx
      | cons y x =>
        cases k with
        | zero =>
          rw [List.replicate_succ, List.set_cons_zero, dot, dot_zeros (List.replicate n 0) x fun j => by rw [List.getD_eq_getElem?_getD, List.getElem?_replicate]; split <;> rfl, List.getD_cons_zero]
          grind
        | succ k =>
          rw [List.replicate_succ, List.set_cons_succ, dot, ih k x (by omega) (by simpa using lx), List.getD_cons_succ]
          grind
  exact key n k x hk lx
private theorem keeps_iff {S T : List (Rat × Rat)} {Z : List ZR} {M x : List Rat} (lx : x.length = T.length) : PlanKeeps S T Z M x ↔ (∀ z ∈ Z, 0 ≤ worthQ z M x) ∧ ∀ k (b : Rat × Rat), T[k]? = some b → b.1 ≤ x.getD k 0 ∧ x.getD k 0 ≤ b.2 := by
  have z0 : dot (List.replicate S.length 0) M = 0 := dot_zeros _ _ fun j => by rw [List.getD_eq_getElem?_getD, List.getElem?_replicate]; split <;> rfl
  have w1 : ∀ k (b : Rat × Rat), k < T.length → worthQ (List.replicate S.length 0, unitQ T.length k 1, -b.1) M x = x.getD k 0 - b.1 := fun k b hk => by
    unfold worthQ
    show dot (List.replicate S.length 0) M + dot (unitQ T.length k 1) x + -b.1 = _
    rw [z0, dot_unit _ _ _ _ hk lx]; grind
  have w2 : ∀ k (b : Rat × Rat), k < T.length → worthQ (List.replicate S.length 0, unitQ T.length k (-1), b.2) M x = b.2 - x.getD k 0 := fun k b hk => by
    unfold worthQ
    show dot (List.replicate S.length 0) M + dot (unitQ T.length k (-1)) x + b.2 = _
    rw [z0, dot_unit _ _ _ _ hk lx]; grind
  constructor
  · intro h
    refine ⟨fun z hz => h z (List.mem_append_left _ hz), fun k b hb => ?_⟩
    obtain ⟨hk, eb⟩ := List.getElem?_eq_some_iff.mp hb
    have m : ∀ r, r ∈ bndAt T.length k b → (List.replicate S.length (0 : Rat), r) ∈ Z ++ shimR S T := fun r hr => by
      refine List.mem_append_right _ (List.mem_map.mpr ⟨r, ?_, rfl⟩)
      unfold bndRows
      refine List.mem_flatten.mpr ⟨bndAt T.length k b, List.mem_mapIdx.mpr ⟨k, hk, ?_⟩, hr⟩
      rw [eb]
    have h1 := h _ (m (unitQ T.length k 1, -b.1) (by unfold bndAt; exact .head _))
    have h2 := h _ (m (unitQ T.length k (-1), b.2) (by unfold bndAt; exact .tail _ (.head _)))
    rw [w1 k b hk] at h1
    rw [w2 k b hk] at h2
    constructor <;> grind
  · rintro ⟨h1, h2⟩ z hz
    rcases List.mem_append.mp hz with hz | hz
    · exact h1 z hz
    · obtain ⟨r, hr, rfl⟩ := List.mem_map.mp hz
      unfold bndRows at hr
      obtain ⟨l, hl, hr⟩ := List.mem_flatten.mp hr
      obtain ⟨j, hj, rfl⟩ := List.mem_mapIdx.mp hl
      obtain ⟨b1, b2⟩ := h2 j T[j] (List.getElem?_eq_getElem hj)
      simp only [bndAt, List.mem_cons, List.not_mem_nil, or_false] at hr
      rcases hr with rfl | rfl
      · have := w1 j T[j] hj
        rw [this]; grind
      · have := w2 j T[j] hj
        rw [this]; grind
/-! ### the drawn plan -/
private theorem scr_sub {M M' : Mm} {p : Addr} (h : Scr K M p) (s : L4.Sub M M') : Scr K M' p := by
  obtain ⟨ns, l, e | e⟩ := h
  · exact ⟨ns, l, .inl (s _ _ e)⟩
  · exact ⟨ns, l, .inr e⟩
private theorem two_ix {P : D → Prop} {x y : D} (b : Bool) (h0 : P x) (h1 : P y) : RIx (.lst [x, y]) (.int (if b = true then 1 else 0)) P := by
  cases b
  · exact h0
  · exact h1
private theorem sub_new {M M' : Mm} {q : Addr} {o : MO} (s : L4.Sub M M') (h : M' q = none) : L4.Sub M (mset M' q o) := s.mset (by
  cases e : M q with
  | none => rfl
  | some u => rw [s _ _ e] at h; cases h)
private theorem most_ix {P : D → Prop} {t : Nat} (ht : t ≤ 3) (h : ∀ m : Nat, m ≤ 8 → (t = 2 → m ≤ 6) → (t = 3 → m ≤ 3) → P (.int m)) : RIx (.lst [.int 8, .int 8, .int 6, .int 3]) (.int t) P := by
  have : t = 0 ∨ t = 1 ∨ t = 2 ∨ t = 3 := by omega
  rcases this with rfl | rfl | rfl | rfl
  · exact h 8 (by decide) (by decide) (by decide)
  · exact h 8 (by decide) (by decide) (by decide)
  · exact h 6 (by decide) (by decide) (by decide)
  · exact h 3 (by decide) (by decide) (by decide)
private theorem drb {a r : Rat} (sa : SmN 40 7 a) (sr : SmN 4 2 r) (r0 : 0 ≤ r) : DrB (a, a + r) := by
  refine ⟨sa, ?_, by show a ≤ a + r; grind⟩
  have e : (a + r) - a = r := by grind
  show SmN 40 7 ((a + r) - a)
  rw [e]
  exact ⟨sr.1.mono (by decide), sr.2.mono (by decide)⟩
noncomputable def gPlan : List D → (D → Prop) → Prop := fun ds P => ds = [] ∧ ∀ (S T : List (Rat × Rat)) (Z : List ZR), Dr S T Z → P (planQ S T Z)
noncomputable abbrev hState (P : Program) (w : World) (K : PySem.W.Frag) (mg : Str → Option Value) (base : Heap) : Prop := Has P w K mg base CX0 2 "_law_state" ["script", "k"] (spMk K (Scr K) gkPool (isPool 100000000))
noncomputable abbrev s_law_plan : Stmt := top 44
private theorem sc_law_plan : FnScope ["script", "first", "shims", "many", "most", "sizes", "bounds", "demands", "k", "state", "a", "b"] ["script"] (defScope s_law_plan) := ⟨rfl, rfl, rfl, by decide +kernel, rfl, by decide +kernel, by decide +kernel⟩
private theorem h__law_plan (B : Bl mg) (F : Def K mg "_law_plan" s_law_plan ["script"]) (F__law_cell : hCell P w K mg base) (F__law_bounds : Has P w K mg base CX0 3 "_law_bounds" ["state"] (spP K isPool 5 gBounds)) (F__law_state : hState P w K mg base) (F__law_weight : Has P w K mg base CX0 2 "_law_weight" ["state"] (spP K isPool 3 gWt)) (F__law_some : hSome P w K mg base) : Has P w K mg base CX0 4 "_law_plan" ["script"] (spD K (Scr K) gPlan) := by
  refine F.hasD sc_law_plan (fun ds P h => by obtain ⟨rfl, _⟩ := h; rfl) fun f cdv A outer s H E hr => ?_
  have nd := sc_law_plan.nd
  refine ⟨_, (jss_cons (js_set (i := 1) nd rfl (Or.inl rfl) (j_fdiv (j_hD 0 F__law_cell (hr.mono (by decide)) rfl (ja_cons j_int ja_nil)) j_int))
    (jss_cons (js_set (i := 2) nd rfl (Or.inl rfl) (j_at (j_fz (jn_lst (ja_cons j_int (ja_cons j_int (ja_cons j_int (ja_cons j_int (ja_cons j_int (ja_cons j_int (ja_cons j_int (ja_cons j_int ja_nil)))))))))) (j_mod (j_fdiv (jv 1) j_int) j_int)))
    (jss_cons (js_cut (js_set (i := 3) nd rfl (Or.inl rfl) (j_at (j_fz (jn_lst (ja_cons (j_add j_int (j_mod (jv 1) j_int)) (ja_cons j_int ja_nil)))) (j_intc rfl B.int (ja_cons (j_and (j_eq hr (j_mod (j_fdiv (jv 1) j_int) j_int) j_int) (j_one (j_lt (jv 2) j_int))) ja_nil)))))
    (jss_cons (js_set (i := 4) nd rfl (Or.inl rfl) (j_at (j_fz (jn_lst (ja_cons j_int (ja_cons j_int (ja_cons j_int (ja_cons j_int ja_nil)))))) (jv 2)))
    (jss_cons (js_setCZ (k := 5) nd rfl (Or.inl rfl) ["k", "script"] [none, some 0] ⟨rfl, by decide +kernel, by decide +kernel, rfl, rfl, free_of rfl⟩ rfl (ji_rng1 rfl B.range (ja_cons (jv 3) ja_nil)) (fun _ _ _ _ _ => (jg_name (i := 0) (show List.Nodup [("k" : Str), ("script" : Str)] by decide +kernel) rfl (Or.inl rfl))) (fun _ _ _ _ _ => jc_nil) (fun _ _ _ _ _ => (j_hPM 1 F__law_state F__law_bounds (hr.mono (by decide)) (hr.mono (by decide)) rfl rfl (ja_cons (j_add j_int (jv 0)) ja_nil) ja_nil)))
    (jss_cons (js_setCZ (k := 6) nd rfl (Or.inl rfl) ["k", "script"] [none, some 0] ⟨rfl, by decide +kernel, by decide +kernel, rfl, rfl, free_of rfl⟩ rfl (ji_rng1 rfl B.range (ja_cons (jv 2) ja_nil)) (fun _ _ _ _ _ => (jg_name (i := 0) (show List.Nodup [("k" : Str), ("script" : Str)] by decide +kernel) rfl (Or.inl rfl))) (fun _ _ _ _ _ => jc_nil) (fun _ _ _ _ _ => (j_hPM 1 F__law_state F__law_bounds (hr.mono (by decide)) (hr.mono (by decide)) rfl rfl (ja_cons (j_add j_int (jv 0)) ja_nil) ja_nil)))
    (jss_cons (js_setN (i := 7) nd rfl (Or.inl rfl) (jn_lst ja_nil))
    (jss_cons (js_for PassesOwn.never rfl (ji_rng1 rfl B.range (ja_cons (j_sub (jv 4) (j_mod (j_fdiv (jv 1) j_int) (j_add j_int (jv 4)))) ja_nil)) (jg_name (i := 8) nd rfl (Or.inl rfl))
    (jss_cons (js_mk (i := 9) 0 F__law_state (hr.mono (by decide)) rfl nd rfl (Or.inr rfl) (ja_cons (j_add j_int (jv 8)) ja_nil))
    (jss_cons (js_setCZ (k := 10) nd rfl (Or.inl rfl) ["size", "state"] [none, some 9] ⟨rfl, by decide +kernel, by decide +kernel, rfl, rfl, free_of rfl⟩ rfl (ji_list (jv 5)) (fun _ _ _ _ _ => (jg_name (i := 0) (show List.Nodup [("size" : Str), ("state" : Str)] by decide +kernel) rfl (Or.inl rfl))) (fun _ _ _ _ _ => jc_nil) (fun _ _ _ _ _ => (j_hP 1 F__law_weight (hr.mono (by decide)) rfl ja_nil)))
    (jss_cons (js_setCZ (k := 11) nd rfl (Or.inl rfl) ["shim", "state"] [none, some 9] ⟨rfl, by decide +kernel, by decide +kernel, rfl, rfl, free_of rfl⟩ rfl (ji_list (jv 6)) (fun _ _ _ _ _ => (jg_name (i := 0) (show List.Nodup [("shim" : Str), ("state" : Str)] by decide +kernel) rfl (Or.inl rfl))) (fun _ _ _ _ _ => jc_nil) (fun _ _ _ _ _ => (j_hP 1 F__law_weight (hr.mono (by decide)) rfl ja_nil)))
    (jss_one (js_appW 7 (j_tup (ja_cons (jv 10) (ja_cons (jv 11) (ja_cons (j_hP 9 F__law_some (hr.mono (by decide)) rfl ja_nil) ja_nil))))))))))
    (jss_one (js_ret (j_tup (ja_cons (jv 5) (ja_cons (jv 6) (ja_cons (jv 7) ja_nil)))))))))))))), ?_⟩
  rintro p ds M Q hN ⟨rfl, q⟩
  refine ⟨hN, 0, rfl, by decide, by decide, fun c0 => ⟨⟨by decide, smM⟩, ?_⟩⟩
  have fm : ∀ (x m : Int), 0 < m → 0 ≤ x.fmod m ∧ x.fmod m < m := fun x m h => by
    rw [Int.fmod_eq_emod_of_nonneg _ (by omega)]; exact ⟨Int.emod_nonneg _ (by omega), Int.emod_lt_of_pos _ h⟩
  refine ⟨by show 8 ≤ sizeLine; decide, ⟨by decide, smM⟩, (by decide : (8 : Int) ≠ 0), RIx.lst (fm _ 8 (by decide)).1 (fm _ 8 (by decide)).2 fun d hd => ?_⟩
  obtain ⟨t, rfl, t3⟩ : ∃ t : Nat, d = .int t ∧ t ≤ 3 := by
    simp only [List.mem_cons, List.not_mem_nil, or_false] at hd
    rcases hd with rfl | rfl | rfl | rfl | rfl | rfl | rfl | rfl
    · exact ⟨1, rfl, by decide⟩
    · exact ⟨0, rfl, by decide⟩
    · exact ⟨2, rfl, by decide⟩
    · exact ⟨2, rfl, by decide⟩
    · exact ⟨3, rfl, by decide⟩
    · exact ⟨3, rfl, by decide⟩
    · exact ⟨2, rfl, by decide⟩
    · exact ⟨1, rfl, by decide⟩
  refine ⟨fun ρ M' => M' = M ∧ ∃ n : Nat, 1 ≤ n ∧ n ≤ 6 ∧ ρ = [.rf p, .sh (.int (c0.fdiv 2)), .sh (.int t), .sh (.int n), .un, .un, .un, .un, .un, .un, .un, .un], ?_, ?_⟩
  · have x0 := fm (c0.fdiv 2) 3 (by decide)
    refine ⟨(by decide : (3 : Int) ≠ 0), by show 2 ≤ sizeLine; decide, ⟨by decide, smM⟩, (by decide : (8 : Int) ≠ 0), by show 0 ≤ 60; decide, ?_⟩
    show if peq _ _ = true then _ else _
    have e1 : ((1 + (c0.fdiv 2).fmod 3).toNat : Int) = 1 + (c0.fdiv 2).fmod 3 := Int.toNat_of_nonneg (by omega)
    refine iteB (fun c => ?_) (fun c => ?_)
    · refine two_ix (decide ((t : Int) < 3)) ?_ ?_
      · exact ⟨rfl, (1 + (c0.fdiv 2).fmod 3).toNat, by omega, by omega, by rw [e1]; rfl⟩
      · exact ⟨rfl, 6, by decide, by decide, rfl⟩
    · exact ⟨rfl, (1 + (c0.fdiv 2).fmod 3).toNat, by omega, by omega, by rw [e1]; rfl⟩
  rintro ρ M' ⟨rfl, n, n1, n6, rfl⟩
  refine ⟨by show 4 ≤ sizeLine; decide, most_ix t3 fun m m8 m2 m3 => ?_⟩
  refine ⟨⟨by omega, by omega⟩, fun i out ρ M2 => L4.Sub M' M2 ∧ ∃ (L : List (Rat × Rat)) (o : Ent), ρ = [o, .rf p] ∧ out = L.map bQ ∧ L.length = i ∧ ∀ x ∈ L, DrB x, ⟨Sub.refl _, [], _, rfl, rfl, rfl, by simp⟩, ?_, ?_⟩
  · rintro i d out ρ M2 hd ⟨sb, L, o, rfl, rfl, lL, bL⟩
    obtain ⟨rfl, hi⟩ := rng_get hd
    have hi : i < n := by omega
    refine ⟨scr_sub hN sb, ⟨_, rfl, by omega, by omega⟩, fun q1 hq1 => ⟨mset_same, by decide, rfl, fun a r sa sr r0 => ⟨by rw [List.length_map]; exact small1000 (by omega), ?_, L ++ [(a, a + r)], _, rfl, by rw [List.map_append]; rfl, by rw [List.length_append, lL]; rfl, all_snoc bL (drb sa sr r0)⟩⟩⟩
    rw [mset_mset]
    exact sub_new sb hq1
  rintro out ρ M2 ⟨sb, S, o, rfl, rfl, lS, bS⟩
  have lS : S.length = n := by rw [lS, rng_len]; omega
  -- the shims' bounds
  refine ⟨⟨by omega, by omega⟩, fun i out ρ M3 => L4.Sub M' M3 ∧ ∃ (L : List (Rat × Rat)) (o : Ent), ρ = [o, .rf p] ∧ out = L.map bQ ∧ L.length = i ∧ ∀ x ∈ L, DrB x, ⟨sb, [], _, rfl, rfl, rfl, by simp⟩, ?_, ?_⟩
  · rintro i d out ρ M3 hd ⟨sb, L, o, rfl, rfl, lL, bL⟩
    obtain ⟨rfl, hi⟩ := rng_get hd
    have hi : i < t := by omega
    refine ⟨scr_sub hN sb, ⟨_, rfl, by omega, by omega⟩, fun q1 hq1 => ⟨mset_same, by decide, rfl, fun a r sa sr r0 => ⟨by rw [List.length_map]; exact small1000 (by omega), ?_, L ++ [(a, a + r)], _, rfl, by rw [List.map_append]; rfl, by rw [List.length_append, lL]; rfl, all_snoc bL (drb sa sr r0)⟩⟩⟩
    rw [mset_mset]
    exact sub_new sb hq1
  rintro out ρ M3 ⟨sb3, T, o, rfl, rfl, lT, bT⟩
  have lT : T.length = t := by rw [lT, rng_len]; omega
  clear o sb
  have x1 := fm ((c0.fdiv 2).fdiv 192) (1 + m) (by omega)
  refine ⟨by show 0 ≤ sizeLine; decide, ⟨by decide, smM⟩, (by omega : (1 + (m : Int)) ≠ 0), ⟨by omega, by omega⟩, ?_⟩
  generalize eg : ((c0.fdiv 2).fdiv 192).fmod (1 + (m : Int)) = g at *
  refine ⟨fun i ρ M4 => L4.Sub M' M4 ∧ ∃ (Z : List ZR) (o8 o9 o10 o11 : Ent), ρ = [.rf p, .sh (.int (c0.fdiv 2)), .sh (.int t), .sh (.int n), .sh (.int m), .sh (.lst (S.map bQ)), .sh (.lst (T.map bQ)), .ow (Z.map zQ), o8, o9, o10, o11] ∧ Z.length = i ∧ ∀ z ∈ Z, DrZ S.length T.length z, ⟨sb3, [], _, _, _, _, rfl, rfl, by simp⟩, ?_, ?_⟩
  · rintro i d ρ M4 hd ⟨sb4, Z, o8, o9, o10, o11, rfl, lZ, bZ⟩
    obtain ⟨rfl, hi⟩ := rng_get hd
    have hi : i < m := by omega
    refine ⟨scr_sub hN sb4, ⟨_, rfl, by omega, by omega⟩, fun q1 hq1 => ?_⟩
    have nq : M' q1 = none := by
      cases e : M' q1 with
      | none => rfl
      | some u => rw [sb4 _ _ e] at hq1; cases hq1
    -- the weights of the sizes
    refine ⟨fun j out ρ M5 => (∃ b, 99999000 - 3 * (j : Int) ≤ b ∧ M5 = mset M4 q1 (.op (isPool b))) ∧ ∃ (A : List Rat) (o : Ent), ρ = [o, .rf q1] ∧ out = A.map frD ∧ A.length = j ∧ ∀ x ∈ A, Wh 60 12 x, ⟨⟨_, by omega, rfl⟩, [], _, rfl, rfl, rfl, by simp⟩, ?_, ?_⟩
    · rintro j d out ρ M5 hd ⟨⟨b, hb, rfl⟩, A, o, rfl, rfl, lA, wA⟩
      have hj := (List.getElem?_eq_some_iff.mp hd).1
      rw [List.length_map] at hj
      exact ⟨b, mset_same, by omega, rfl, fun x wx => ⟨by rw [List.length_map]; exact small1000 (by omega), ⟨b - 3, by omega, by rw [mset_mset]⟩, A ++ [x], _, rfl, by rw [List.map_append]; rfl, by rw [List.length_append, lA]; rfl, all_snoc wA wx⟩⟩
    rintro out ρ M5 ⟨⟨b, hb, rfl⟩, A, o, rfl, rfl, lA, wA⟩
    rw [List.length_map] at lA hb
    -- the weights of the shims
    refine ⟨fun j out ρ M5 => (∃ b, 99998000 - 3 * (j : Int) ≤ b ∧ M5 = mset M4 q1 (.op (isPool b))) ∧ ∃ (A : List Rat) (o : Ent), ρ = [o, .rf q1] ∧ out = A.map frD ∧ A.length = j ∧ ∀ x ∈ A, Wh 60 12 x, ⟨⟨_, by omega, rfl⟩, [], _, rfl, rfl, rfl, by simp⟩, ?_, ?_⟩
    · rintro j d out ρ M5 hd ⟨⟨b, hb, rfl⟩, A, o, rfl, rfl, lA, wA⟩
      have hj := (List.getElem?_eq_some_iff.mp hd).1
      rw [List.length_map] at hj
      exact ⟨b, mset_same, by omega, rfl, fun x wx => ⟨by rw [List.length_map]; exact small1000 (by omega), ⟨b - 3, by omega, by rw [mset_mset]⟩, A ++ [x], _, rfl, by rw [List.map_append]; rfl, by rw [List.length_append, lA]; rfl, all_snoc wA wx⟩⟩
    rintro out ρ M5 ⟨⟨b2, hb2, rfl⟩, C, o2, rfl, rfl, lC, wC⟩
    rw [List.length_map] at lC hb2
    refine ⟨trivial, b2, mset_same, by omega, rfl, fun c sc => ⟨by show 3 ≤ sizeLine; decide, by rw [List.length_map]; exact small1000 (by omega), ?_, Z ++ [(A, C, c)], _, _, _, _, by rw [List.map_append]; rfl, by rw [List.length_append, lZ]; rfl, all_snoc bZ ⟨lA, lC, wA, wC, sc⟩⟩⟩
    rw [mset_mset]
    exact sub_new sb4 hq1
  · rintro ρ M4 ⟨sb4, Z, o8, o9, o10, o11, rfl, lZ, bZ⟩
    rw [rng_len] at lZ
    refine ⟨by show 3 ≤ sizeLine; decide, sb4, q S T Z ⟨by omega, by omega, by omega, ⟨by omega, fun e => ?_, fun e => ?_⟩, bS, bT, bZ⟩⟩
    · have := m2 (by omega); omega
    · have := m3 (by omega); omega

/-! ### a made set drawn; what a rule tells of it -/
structure MdOk (S : List (Rat × Rat)) (M X : List Rat) : Prop where
  m : M.length = S.length
  x : X.length ≤ S.length
  s : ∀ q ∈ X, SmN 40 7 q
  w : ∀ (E n : Nat), (∀ x ∈ S, Wh E n x.1 ∧ Wh E n (x.2 - x.1)) → (∀ q ∈ X, Wh E n q) → ∀ q ∈ M, Wh (8 * E) (n + 6) q
noncomputable def gMade : List D → (D → Prop) → Prop := fun ds P => ∃ (S T : List (Rat × Rat)) (Z : List ZR), ds = [planQ S T Z] ∧ S.length ≤ 6 ∧ (∀ x ∈ S, DrB x) ∧ ∀ M X, MdOk S M X → P (frL M)
private theorem drb_hi {x : Rat × Rat} (h : DrB x) : SmR 81 x.2 := by
  have := smr_add (h.1.smr (by decide)) (h.2.1.smr (by decide))
  have e : x.1 + (x.2 - x.1) = x.2 := by grind
  rwa [e] at this
private theorem take_snoc {α : Type} {S : List α} {i : Nat} {x : α} (h : S[i]? = some x) : S.take (i + 1) = S.take i ++ [x] := by rw [List.take_add_one, h]; rfl
private theorem wh_part {E n : Nat} {lo di : Rat} {k : Int} (h0 : 0 ≤ k) (h9 : k < 9) (h1 : Wh E n lo) (h2 : Wh E n di) : Wh (8 * E) (n + 5) (lo + Rat.divInt k 8 * di) := by
  have a := (h1.up 8 (by decide) (show Sm 4 ((8 : Nat) : Int) by unfold Sm; decide)).mono (b := n + 4) (by omega)
  rw [Nat.mul_comm] at a
  have b := (Wh.mul (D := 8) (n := 4) (q := Rat.divInt k 8) ⟨k, rfl, by unfold Sm; omega⟩ h2).mono (b := n + 4) (by omega)
  exact a.add b
private theorem md_snoc {S : List (Rat × Rat)} {V X : List Rat} {i : Nat} {x : Rat × Rat} {k : Int} (ok : MdOk (S.take i) V X) (hx : S[i]? = some x) (h0 : 0 ≤ k) (h9 : k < 9) : MdOk (S.take (i + 1)) (V ++ [x.1 + Rat.divInt k 8 * (x.2 + -x.1)]) X := by
  rw [take_snoc hx]
  refine ⟨by rw [List.length_append, List.length_append, ok.m]; rfl, by rw [List.length_append]; have := ok.x; omega, ok.s, fun E n hS hX q hq => ?_⟩
  rcases List.mem_append.mp hq with hq | hq
  · exact ok.w E n (fun y hy => hS y (List.mem_append_left _ hy)) hX q hq
  · rw [List.mem_singleton.mp hq, ← Rat.sub_eq_add_neg]
    obtain ⟨a, b⟩ := hS x (List.mem_append_right _ (.head _))
    exact (wh_part h0 h9 a b).mono (by omega)
private theorem md_snoc2 {S : List (Rat × Rat)} {V X : List Rat} {i : Nat} {x : Rat × Rat} {k : Int} {u : Rat} (ok : MdOk (S.take i) V X) (hx : S[i]? = some x) (h0 : 0 ≤ k) (h9 : k < 9) (su : SmN 40 7 u) : MdOk (S.take (i + 1)) (V ++ [x.1 + Rat.divInt k 8 * (x.2 + -x.1) + u]) (X ++ [u]) := by
  rw [take_snoc hx]
  refine ⟨by rw [List.length_append, List.length_append, ok.m]; rfl, by rw [List.length_append, List.length_append]; have := ok.x; exact Nat.add_le_add this (Nat.le_refl _), all_snoc ok.s su, fun E n hS hX q hq => ?_⟩
  rcases List.mem_append.mp hq with hq | hq
  · exact ok.w E n (fun y hy => hS y (List.mem_append_left _ hy)) (fun y hy => hX y (List.mem_append_left _ hy)) q hq
  · rw [List.mem_singleton.mp hq, ← Rat.sub_eq_add_neg]
    obtain ⟨a, b⟩ := hS x (List.mem_append_right _ (.head _))
    have c := ((hX u (List.mem_append_right _ (.head _))).up 8 (by decide) (show Sm 4 ((8 : Nat) : Int) by unfold Sm; decide)).mono (b := n + 5) (by omega)
    rw [Nat.mul_comm] at c
    exact (wh_part h0 h9 a b).add c
noncomputable abbrev s_law_made : Stmt := top 45
private theorem sc_law_made : FnScope ["state", "plan", "found", "low", "high", "part", "size"] ["state", "plan"] (defScope s_law_made) := ⟨rfl, rfl, rfl, by decide +kernel, rfl, by decide +kernel, by decide +kernel⟩
private theorem h__law_made (B : Bl mg) (F : Def K mg "_law_made" s_law_made ["state", "plan"]) (F__law_take : hTake P w K mg base) (F__law_frac : hLF P w K mg base) (F__law_plus : hLP P w K mg base) (F__law_times : hLT P w K mg base) (F__law_some : hSome P w K mg base) : Has P w K mg base CX0 3 "_law_made" ["state", "plan"] (spP K isPool 40 gMade) := by
  refine F.hasB less_pool sc_law_made (fun ds P h => by obtain ⟨_, _, _, rfl, _⟩ := h; rfl) fun f cdv A outer s H E hr => ?_
  have nd := sc_law_made.nd
  refine ⟨_, (jss_cons (js_setN (i := 2) nd rfl (Or.inl rfl) (jn_lst ja_nil))
    (jss_cons (js_for PassesOwn.never rfl (ji_list (j_atV 1 j_int)) (jg_tup (n := 2) rfl (jgs_cons (jg_name (i := 3) nd rfl (Or.inl rfl)) (jgs_cons (jg_name (i := 4) nd rfl (Or.inl rfl)) jgs_nil)))
    (jss_cons (js_set (i := 5) nd rfl (Or.inl rfl) (j_h F__law_frac (hr.mono (by decide)) rfl (ja_cons (j_hP 0 F__law_take (hr.mono (by decide)) rfl (ja_cons j_int ja_nil)) (ja_cons j_int ja_nil))))
    (jss_cons (js_set (i := 6) nd rfl (Or.inl rfl) (j_h F__law_plus (hr.mono (by decide)) rfl (ja_cons (jv 3) (ja_cons (j_h F__law_times (hr.mono (by decide)) rfl (ja_cons (jv 5) (ja_cons (j_h F__law_plus (hr.mono (by decide)) rfl (ja_cons (jv 4) (ja_cons (j_tup (ja_cons (j_neg (j_atV 3 j_int)) (ja_cons (j_atV 3 j_int) ja_nil))) ja_nil))) ja_nil))) ja_nil))))
    (jss_cons (js_if (jt_eq hr (j_hP 0 F__law_take (hr.mono (by decide)) rfl (ja_cons j_int ja_nil)) j_int) (jss_one (js_set (i := 6) nd rfl (Or.inl rfl) (j_h F__law_plus (hr.mono (by decide)) rfl (ja_cons (jv 6) (ja_cons (j_hP 0 F__law_some (hr.mono (by decide)) rfl ja_nil) ja_nil))))) jss_nil)
    (jss_one (js_appW 2 (jv 6)))))))
    (jss_one (js_ret (jv 2))))), ?_⟩
  rintro p ds M b Q hp hb ⟨S, T, Z, rfl, lS, bS, q⟩
  refine ⟨by show 0 ≤ sizeLine; decide, fun i ρ M' => (∃ b', b - 5 * i ≤ b' ∧ M' = mset M p (.op (isPool b'))) ∧ ∃ (V X : List Rat) (o3 o4 o5 o6 : Ent), ρ = [.rf p, .sh (planQ S T Z), .ow (V.map frD), o3, o4, o5, o6] ∧ MdOk (S.take i) V X, ⟨⟨b, by omega, by rw [mset_id hp]⟩, [], [], _, _, _, _, rfl, ⟨rfl, Nat.zero_le _, by simp, fun _ _ _ _ => by simp⟩⟩, ?_, ?_⟩
  · rintro i d ρ M' hd ⟨⟨b', hb', rfl⟩, V, X, o3, o4, o5, o6, rfl, ok⟩
    obtain ⟨x, hx, rfl⟩ := map_get hd
    have hi := (List.getElem?_eq_some_iff.mp hx).1
    have bx := bS x (List.mem_of_getElem? hx)
    have slo := bx.1.smr (by decide)
    have shi := drb_hi bx
    have lV : V.length = i := by rw [ok.m, List.length_take]; omega
    refine ⟨rfl, b', mset_same, by omega, 9, rfl, by decide, smM, fun k k0 k9 => ⟨_, _, rfl, by decide, smM, by show 2 ≤ sizeLine; decide, x.2, -x.1, rfl, Mx.of shi (smr_neg slo), ?_⟩⟩
    have k9 : k < 9 := k9
    have sp : SmR 4 (Rat.divInt k 8) := fr_sm (by decide) (by unfold Sm; omega) (by unfold Sm; decide)
    have sd := smr_add shi (smr_neg slo)
    have st := smr_mul sp sd
    have sv := smr_add slo st
    refine ⟨_, _, rfl, Mx.of sp sd, x.1, _, rfl, Mx.of slo st, ?_⟩
    refine ⟨b' - 1, mset_same, by omega, 12, rfl, by decide, smM, fun r r0 r12 => ⟨by show 0 ≤ 60; decide, ?_⟩⟩
    show if peq _ _ = true then _ else _
    refine iteB (fun c => ?_) (fun c => ?_)
    · exact ⟨b' - 1 - 1, mset_same, by omega, rfl, fun u su => ⟨_, _, rfl, Mx.of sv (su.smr (by decide)), trivial, by rw [List.length_map, lV]; exact small1000 (by omega), ⟨b' - 1 - 1 - 3, by omega, by simp only [mset_mset]⟩, V ++ [_], X ++ [u], _, _, _, _, by rw [List.map_append]; rfl, md_snoc2 ok hx k0 k9 su⟩⟩
    · exact ⟨trivial, by rw [List.length_map, lV]; exact small1000 (by omega), ⟨b' - 1 - 1, by omega, by simp only [mset_mset]⟩, V ++ [_], X, _, _, _, _, by rw [List.map_append]; rfl, md_snoc ok hx k0 k9⟩
  · rintro ρ M' ⟨⟨b', hb', rfl⟩, V, X, o3, o4, o5, o6, rfl, ok⟩
    rw [List.length_map] at hb' ok
    rw [List.take_length] at ok
    exact ⟨⟨b', by omega, Sub.refl _⟩, q V X ok⟩
private theorem md_com {S : List (Rat × Rat)} {M X Y : List Rat} (hS : ∀ x ∈ S, DrB x) (lS : S.length ≤ 6) (ok : MdOk S M X) (hY : ∀ q ∈ Y, SmN 40 7 q) (lY : Y.length ≤ 6) : ∃ E : Nat, E ≠ 0 ∧ Sm 300 (E : Int) ∧ (∀ x ∈ M, Wh E 220 x) ∧ ∀ q ∈ Y, Wh E 220 q := by
  obtain ⟨D, d0, sD, w⟩ := com_list (n := 40) (d := 7) (S.map (fun x => x.1) ++ (S.map (fun x => x.2 - x.1) ++ (X ++ Y))) (fun q hq => by
    rcases List.mem_append.mp hq with hq | hq
    · obtain ⟨x, hx, rfl⟩ := List.mem_map.mp hq
      exact (hS x hx).1
    rcases List.mem_append.mp hq with hq | hq
    · obtain ⟨x, hx, rfl⟩ := List.mem_map.mp hq
      exact (hS x hx).2.1
    rcases List.mem_append.mp hq with hq | hq
    · exact ok.s q hq
    · exact hY q hq)
  have l : (S.map (fun x => x.1) ++ (S.map (fun x => x.2 - x.1) ++ (X ++ Y))).length ≤ 24 := by
    have := ok.x
    simp only [List.length_append, List.length_map]; omega
  generalize (S.map (fun x => x.1) ++ (S.map (fun x => x.2 - x.1) ++ (X ++ Y))).length = m at l sD w
  have w' : ∀ q ∈ S.map (fun x => x.1) ++ (S.map (fun x => x.2 - x.1) ++ (X ++ Y)), Wh D 210 q := fun q hq => (w q hq).mono (by omega)
  have s8 : Sm 4 ((8 : Nat) : Int) := by unfold Sm; decide
  refine ⟨8 * D, Nat.mul_ne_zero (by decide) d0, ?_, fun x hx => ?_, fun q hq => ?_⟩
  · rw [Int.natCast_mul]
    exact (s8.mul sD).mono (by omega)
  · exact (ok.w D 210 (fun x hx => ⟨w' _ (List.mem_append_left _ (List.mem_map.mpr ⟨x, hx, rfl⟩)), w' _ (List.mem_append_right _ (List.mem_append_left _ (List.mem_map.mpr ⟨x, hx, rfl⟩)))⟩) (fun q hq => w' _ (List.mem_append_right _ (List.mem_append_right _ (List.mem_append_left _ hq)))) x hx).mono (by decide)
  · rw [Nat.mul_comm]
    exact ((w' _ (List.mem_append_right _ (List.mem_append_right _ (List.mem_append_right _ hq)))).up 8 (by decide) s8).mono (by decide)
private theorem md_ch {S T : List (Rat × Rat)} {Z : List ZR} {M X : List Rat} (d : Dr S T Z) (ok : MdOk S M X) : ChOk S T Z M := by
  obtain ⟨E, e0, sE, w, _⟩ := md_com (Y := []) d.bs d.s6 ok (fun q hq => by cases hq) (by decide)
  exact ⟨dr_ru d, E, e0, sE, fun x hx => (w x hx).mono (by decide)⟩

noncomputable def oD : Option (List Rat) → D
  | none => .non
  | some c => frL c
noncomputable def gTold : List D → (D → Prop) → Prop := fun ds P => ∃ (S T : List (Rat × Rat)) (Z : List ZR) (M : List Rat), ds = [ruleD S T Z, frL M] ∧ ChOk S T Z M ∧ P (oD (toldQ S T Z M))
noncomputable abbrev hCh (P : Program) (w : World) (K : PySem.W.Frag) (mg : Str → Option Value) (base : Heap) : Prop := Has P w K mg base (CX1 P w) 7 "chosen_by" ["rule", "made"] (spE K (cOf mg "NoChoice") gCh)
noncomputable abbrev s_law_told : Stmt := top 46
private theorem sc_law_told : FnScope ["rule", "made", "found"] ["rule", "made"] (defScope s_law_told) := ⟨rfl, rfl, rfl, by decide +kernel, rfl, by decide +kernel, by decide +kernel⟩
private theorem h__law_told (B : Bl mg) (XC_NoChoice : ExC K mg "NoChoice") (HX : PySem.W.exmOne K (.ref (cOf mg "NoChoice")) (.ref (cOf mg "NoChoice")) = some true) (F : Def K mg "_law_told" s_law_told ["rule", "made"]) (F_chosen_by : hCh P w K mg base) : Has P w K mg base CX0 8 "_law_told" ["rule", "made"] (spW K (pur gTold)) := by
  refine F.hasP sc_law_told (fun ds P h => by obtain ⟨_, _, _, _, rfl, _⟩ := h; rfl) fun f cdv A outer s H E hr => ?_
  have nd := sc_law_told.nd
  refine ⟨_, (jss_cons (js_set (i := 2) nd rfl (Or.inl rfl) j_non)
    (jss_cons (js_tryE0 (i := 2) F_chosen_by (hr.mono (by decide)) rfl nd rfl (Or.inl rfl) rfl XC_NoChoice.m HX (fun _ _ => (ja_cons (jv 0) (ja_cons (jv 1) ja_nil))) (fun _ => (jss_one (js_set (i := 2) nd rfl (Or.inl rfl) j_non))))
    (jss_one (js_ret (jv 2))))), ?_⟩
  rintro ds M0 Q ⟨S, T, Z, M, rfl, ok, q⟩
  refine ⟨S, T, Z, M, rfl, ok, ?_⟩
  unfold toldQ at q
  refine iteB (fun c => ?_) (fun c => ?_)
  · rw [if_pos c] at q
    exact fun p hp => ⟨M0, sub_new (Sub.refl _) hp, q⟩
  · rw [if_neg (by rw [c]; exact Bool.false_ne_true)] at q
    exact ⟨M0, Sub.refl _, q⟩

/-! ### demands in any order -/
noncomputable def Alike (Z Y : List ZR) : Prop := ∀ M x, (∀ z ∈ Z, 0 ≤ worthQ z M x) ↔ ∀ z ∈ Y, 0 ≤ worthQ z M x
private theorem Alike.mem {Z Y : List ZR} (h : ∀ z, z ∈ Z ↔ z ∈ Y) : Alike Z Y := fun M x => ⟨fun k z hz => k z ((h z).mpr hz), fun k z hz => k z ((h z).mp hz)⟩
noncomputable def mulZ (q : Rat) (z : ZR) : ZR := (z.1.map (fun x => x * q), z.2.1.map (fun x => x * q), z.2.2 * q)
private theorem dot_scale (q : Rat) : ∀ (a x : List Rat), dot (a.map fun y => y * q) x = dot a x * q
  | [], x => by simp [dot]
  | a :: as, [] => by simp [dot]
  | a :: as, y :: x => by rw [List.map_cons, dot, dot, dot_scale q as x]; grind
private theorem Alike.mul {Z : List ZR} {q : Rat} (hq : 0 < q) : Alike Z (Z.map (mulZ q)) := by
  have w : ∀ z M x, worthQ (mulZ q z) M x = q * worthQ z M x := fun z M x => by
    unfold worthQ mulZ
    show dot (z.1.map fun y => y * q) M + dot (z.2.1.map fun y => y * q) x + z.2.2 * q = _
    rw [dot_scale, dot_scale]; grind
  intro M x
  constructor
  · intro h y hy
    obtain ⟨z, hz, rfl⟩ := List.mem_map.mp hy
    rw [w]
    exact Rat.mul_nonneg (by grind) (h z hz)
  · intro h z hz
    have := h _ (List.mem_map.mpr ⟨z, hz, rfl⟩)
    rw [w] at this
    exact nn_of hq this
private theorem Alike.trans {A B C : List ZR} (h : Alike A B) (k : Alike B C) : Alike A C := fun M x => (h M x).trans (k M x)
private theorem told_alike {S T : List (Rat × Rat)} {Z Y : List ZR} {M : List Rat} (h : ∀ z ∈ Z, z.1.length = S.length ∧ z.2.1.length = T.length) (h' : ∀ z ∈ Y, z.1.length = S.length ∧ z.2.1.length = T.length) (a : Alike Z Y) : toldQ S T Z M = toldQ S T Y M := by
  refine Told.uniq (fun x lx => ?_) (told_is h) (told_is h')
  rw [keeps_iff lx, keeps_iff lx, a M x]
private theorem on_idle {A B : List ZR} {z : ZR} (h : idle z = true) : onQ (A ++ z :: B) = onQ (A ++ B) := by
  unfold onQ
  rw [List.foldl_append, List.foldl_append, List.foldl_cons]
  congr 1
  unfold onR
  rw [if_pos h]
private theorem rule_idle {S T : List (Rat × Rat)} {A B : List ZR} {z : ZR} (h : idle z = true) : ruleD S T (A ++ [z] ++ B) = ruleD S T (A ++ B) := by
  have e : firstQ S T (A ++ [z] ++ B) = firstQ S T (A ++ B) := by
    unfold firstQ
    rw [List.append_assoc, List.append_assoc, List.append_assoc, List.singleton_append]
    exact on_idle h
  have r : ∀ i, rowsR S T (A ++ [z] ++ B) i = rowsR S T (A ++ B) i := fun i => by
    induction i with
    | zero => exact e
    | succ i ih => rw [rowsR, rowsR, ih]
  have e2 : stepsD S T (A ++ [z] ++ B) T.length = stepsD S T (A ++ B) T.length := by
    unfold stepsD
    exact List.map_congr_left fun j _ => by rw [r]
  unfold ruleD
  rw [r, e2]

/-! ### name.reverse() -/
noncomputable def wRevS (i : Nat) : WS := fun E ρ M => match ρ[i]? with
  | some (.ow ds) => E.nx (ρ.set i (.ow ds.reverse)) M
  | _ => False
private theorem js_revS {X : Cx} {x : Str} {np apos cpos pos : Pos} (i : Nat) (hN : X.N[i]? = some x := by rfl) (hv : Vis X.env.scope x := by first | exact Or.inl rfl | exact Or.inr (Or.inl rfl) | exact Or.inr (Or.inr rfl)) (hd : (x == ("__debug__" : Str)) = false := by decide) (hcd : (x == ("__classdict__" : Str)) = false := by decide)
    (hbase : attributeBase (.Name x np) "reverse" X.env (eval (.Name x np) X.env) = eval (.Name x np) X.env := by rfl) (hline : (apos.endLine == cpos.line) = true := by rfl)
    (hsw : swapsWith (.Call (.Attribute (.Name x np) "reverse" apos) [] [] cpos) none pos.line X.env = pure false := by rfl) : JS X (.Expr (.Call (.Attribute (.Name x np) "reverse" apos) [] [] cpos) pos) (wRevS i) :=
  ⟨imS (ps_expr (pe_bm0 PySem.F.plainAttrs_list PySem.F.slot_list_reverse PySem.F.type_list_reverse mt_reverse (L2.pv i hN hv hd hcd) hbase hline) hsw) fun D' σ H hh => ex5 hh fun Z F ρ M E ag hf k => by
    unfold wRevS at hf
    split at hf
    · rename_i ds hd
      obtain ⟨p, vs, h1, h2, h3, h4, h5, h6⟩ := ow_get ag hd
      exact ⟨.ref p, h1, .inl ⟨rfl, vs, SqL.of h2⟩, p, vs, rfl, rfl, h2, k.nx σ _ F _ M (Same.refl _) (ag.chg hd h1 h2 h3 h4 h5 h6.rev) hf⟩
    · exact hf.elim⟩

structure OtOk (S T : List (Rat × Rat)) (Z Y : List ZR) : Prop where
  a : Alike Z Y
  l : ∀ z ∈ Y, z.1.length = S.length ∧ z.2.1.length = T.length
  r : RuOk S T Y
structure SmOk (t : Nat) (Z Y : List ZR) : Prop where
  m : ∀ z, z ∈ Y ↔ z ∈ Z
  l : Y.length ≤ 8
  l3 : t = 3 → Y.length ≤ 5
private theorem sm_ru {S T : List (Rat × Rat)} {Z Y : List ZR} (h : Dr S T Z) (k : SmOk T.length Z Y) : OtOk S T Z Y := by
  have ru := dr_ru h
  obtain ⟨D, d0, sD, wz, wt⟩ := ru.w
  have t3 := h.t3
  have l8 := k.l
  refine ⟨Alike.mem fun z => (k.m z).symm, fun z hz => ⟨(h.bz z ((k.m z).mp hz)).s, (h.bz z ((k.m z).mp hz)).t⟩, ru.s, t3, by omega, ?_, fun e => by have := k.l3 e; omega, D, d0, sD, fun z hz => wz z ((k.m z).mp hz), wt⟩
  by_cases c : T.length = 3
  · have := k.l3 c; omega
  · omega
private theorem sm_mul {S T : List (Rat × Rat)} {Z Y : List ZR} {q : Rat} (h : Dr S T Z) (k : SmOk T.length Z Y) (hq : 0 < q) (wq : Wh 12 8 q) : OtOk S T Z (Y.map (mulZ q)) := by
  have o := sm_ru h k
  obtain ⟨D, d0, sD, wz, wt, _⟩ := dr_com (X := []) h (fun q hq => by cases hq) (by decide)
  have s12 : Sm 4 ((12 : Nat) : Int) := by unfold Sm; decide
  have up : ∀ (x : Rat) n, Wh (60 * D) n x → Wh (60 * D * 12) (n + 4) x := fun x n hx => hx.up 12 (by decide) s12
  have mu : ∀ (x : Rat) n, Wh (60 * D) n x → Wh (60 * D * 12) (n + 8) (x * q) := fun x n hx => hx.mul wq
  refine ⟨(Alike.mem fun z => (k.m z).symm).trans (Alike.mul hq), fun z hz => ?_, o.r.s, o.r.t3, by rw [List.length_map]; exact o.r.z10, by rw [List.length_map]; exact o.r.zt, fun e => by rw [List.length_map]; exact o.r.z3 e, 60 * D * 12, Nat.mul_ne_zero (Nat.mul_ne_zero (by decide) d0) (by decide), ?_, fun z hz => ?_, fun x hx => ?_⟩
  · obtain ⟨y, hy, rfl⟩ := List.mem_map.mp hz
    obtain ⟨l1, l2⟩ := o.l y hy
    exact ⟨by show (y.1.map _).length = _; rw [List.length_map, l1], by show (y.2.1.map _).length = _; rw [List.length_map, l2]⟩
  · rw [Int.natCast_mul, Int.natCast_mul]
    exact (((show Sm 6 ((60 : Nat) : Int) by unfold Sm; decide).mul sD).mul s12).mono (by decide)
  · obtain ⟨y, hy, rfl⟩ := List.mem_map.mp hz
    have yz := (k.m y).mp hy
    have b := h.bz y yz
    refine ⟨by show (y.1.map _).length = _; rw [List.length_map, b.s], by show (y.2.1.map _).length = _; rw [List.length_map, b.t], fun x hx => ?_, fun x hx => ?_, (mu _ _ (wh_60D (wz y yz))).mono (by decide)⟩
    · obtain ⟨v, hv, rfl⟩ := List.mem_map.mp hx
      exact (mu _ _ (wt_60D d0 sD (b.a v hv))).mono (by decide)
    · obtain ⟨v, hv, rfl⟩ := List.mem_map.mp hx
      exact (mu _ _ (wt_60D d0 sD (b.b v hv))).mono (by decide)
  · exact ⟨(up _ _ (wh_60D (wt x hx).1)).mono (by decide), (up _ _ (wh_60D (wt x hx).2)).mono (by decide)⟩
noncomputable def gOther : List D → (D → Prop) → Prop := fun ds P => ∃ (S T : List (Rat × Rat)) (Z : List ZR) (c : Int), ds = [planQ S T Z, .int c] ∧ Dr S T Z ∧ ∀ Y, OtOk S T Z Y → P (planQ S T Y)
private theorem wh_many {x y : Int} (x0 : 0 ≤ x) (x9 : x < 9) (y0 : 0 ≤ y) (y4 : y < 4) : 0 < Rat.divInt (1 + x) (1 + y) ∧ Wh 12 8 (Rat.divInt (1 + x) (1 + y)) := by
  refine ⟨?_, ?_⟩
  · rw [Rat.divInt_eq_div]
    have h1 : (0 : Rat) < ((1 + x : Int) : Rat) := by exact_mod_cast (show (0 : Int) < 1 + x by omega)
    have h2 : (0 : Rat) < ((1 + y : Int) : Rat) := by exact_mod_cast (show (0 : Int) < 1 + y by omega)
    rw [Rat.div_def]
    exact Rat.mul_pos h1 (Rat.inv_pos.mpr h2)
  · have : y = 0 ∨ y = 1 ∨ y = 2 ∨ y = 3 := by omega
    rcases this with rfl | rfl | rfl | rfl
    · exact Wh.of (d := 1) (c := 12) (by decide) (by unfold Sm; omega)
    · exact Wh.of (d := 2) (c := 6) (by decide) (by unfold Sm; omega)
    · exact Wh.of (d := 3) (c := 4) (by decide) (by unfold Sm; omega)
    · exact Wh.of (d := 4) (c := 3) (by decide) (by unfold Sm; omega)
noncomputable abbrev s_law_other : Stmt := top 47
private theorem sc_law_other : FnScope ["plan", "cell", "demands", "turn", "many", "taken", "a", "b", "c"] ["plan", "cell"] (defScope s_law_other) := ⟨rfl, rfl, rfl, by decide +kernel, rfl, by decide +kernel, by decide +kernel⟩
private theorem h__law_other (B : Bl2 mg) (F : Def K mg "_law_other" s_law_other ["plan", "cell"]) (F__law_frac : hLF P w K mg base) (F__law_times : hLT P w K mg base) : Has P w K mg base CX0 3 "_law_other" ["plan", "cell"] (spW K (pur gOther)) := by
  refine F.hasP sc_law_other (fun ds P h => by obtain ⟨_, _, _, _, rfl, _⟩ := h; rfl) fun f cdv A outer s H E hr => ?_
  have nd := sc_law_other.nd
  refine ⟨_, (jss_cons (js_setN (i := 2) nd rfl (Or.inl rfl) (jn_list rfl B.list (ja_cons (j_atV 0 j_int) ja_nil)))
    (jss_cons (js_set (i := 3) nd rfl (Or.inl rfl) (j_mod (jv 1) (j_max2 rfl B.max rfl (ja_cons j_int (ja_cons (j_lenV 2 rfl B.len) ja_nil)))))
    (jss_cons (js_setN (i := 2) nd rfl (Or.inl rfl) (jn_cat (j_fz (jn_sl (jv 2) (jo_some (jv 3)) jo_none)) (j_fz (jn_sl (jv 2) jo_none (jo_some (jv 3))))))
    (jss_cons (js_cut (js_if (jt_eq hr (j_mod (j_fdiv (jv 1) j_int) j_int) j_int) (jss_one (js_revS 2)) jss_nil))
    (jss_cons (js_cut (js_if (jt_eq hr (j_mod (j_fdiv (jv 1) j_int) j_int) j_int) (jss_one (js_setN (i := 2) nd rfl (Or.inl rfl) (jn_sl (j_fz (jn_cat (jv 2) (j_fz (jn_sl (jv 2) jo_none (jo_some j_int))))) jo_none (jo_some j_int)))) jss_nil))
    (jss_cons (js_cut (js_if (JW.jt (jw_and (jt_eq hr (j_mod (j_fdiv (jv 1) j_int) j_int) j_int) (jw_and1 (jt_lt (j_len rfl B.len (ja_cons (j_atV 0 j_int) ja_nil)) j_int)))) (jss_cons (js_set (i := 4) nd rfl (Or.inr rfl) (j_h F__law_frac (hr.mono (by decide)) rfl (ja_cons (j_add j_int (j_mod (j_fdiv (jv 1) j_int) j_int)) (ja_cons (j_add j_int (j_mod (j_fdiv (jv 1) j_int) j_int)) ja_nil))))
    (jss_cons (js_setN (i := 5) nd rfl (Or.inl rfl) (jn_lst ja_nil))
    (jss_cons (js_for PassesOwn.never rfl (ji_list (jv 2)) (jg_tup (n := 3) rfl (jgs_cons (jg_name (i := 6) nd rfl (Or.inl rfl)) (jgs_cons (jg_name (i := 7) nd rfl (Or.inl rfl)) (jgs_cons (jg_name (i := 8) nd rfl (Or.inl rfl)) jgs_nil))))
    (jss_cons (js_setCZ (k := 6) nd rfl (Or.inl rfl) ["number", "many"] [none, some 4] ⟨rfl, by decide +kernel, by decide +kernel, rfl, rfl, free_of rfl⟩ rfl (ji_list (jv 6)) (fun _ _ _ _ _ => (jg_name (i := 0) (show List.Nodup [("number" : Str), ("many" : Str)] by decide +kernel) rfl (Or.inl rfl))) (fun _ _ _ _ _ => jc_nil) (fun _ _ _ _ _ => (j_h F__law_times (hr.mono (by decide)) rfl (ja_cons (jv 0) (ja_cons (jv 1) ja_nil)))))
    (jss_one (js_appW 5 (j_tup (ja_cons (jv 6) (ja_cons (j_fz (jn_lc ["number", "many"] [none, some 4] ⟨rfl, by decide +kernel, by decide +kernel, rfl, rfl, free_of rfl⟩ rfl (ji_list (jv 7)) (fun _ _ _ _ _ => (jg_name (i := 0) (show List.Nodup [("number" : Str), ("many" : Str)] by decide +kernel) rfl (Or.inl rfl))) (fun _ _ _ _ _ => jc_nil) (fun _ _ _ _ _ => (j_h F__law_times (hr.mono (by decide)) rfl (ja_cons (jv 0) (ja_cons (jv 1) ja_nil)))))) (ja_cons (j_h F__law_times (hr.mono (by decide)) rfl (ja_cons (jv 8) (ja_cons (jv 4) ja_nil))) ja_nil))))))))
    (jss_one (js_set (i := 2) nd rfl (Or.inl rfl) (jv 5)))))) jss_nil))
    (jss_one (js_ret (j_tup (ja_cons (j_atV 0 j_int) (ja_cons (j_atV 0 j_int) (ja_cons (jv 2) ja_nil)))))))))))), ?_⟩
  rintro ds M Q ⟨S, T, Z, c, rfl, dr, q⟩
  obtain ⟨z8, z2, z3⟩ := dr.z
  have t3 := dr.t3
  have s6 := dr.s6
  have fm : ∀ (x m : Int), 0 < m → 0 ≤ x.fmod m ∧ x.fmod m < m := fun x m h => by
    rw [Int.fmod_eq_emod_of_nonneg _ (by omega)]; exact ⟨Int.emod_nonneg _ (by omega), Int.emod_lt_of_pos _ h⟩
  have mx : 0 < (if ((Z.map zQ).length : Int) > 1 then ((Z.map zQ).length : Int) else 1) := by split <;> omega
  have u0 := (fm c _ mx).1
  refine ⟨Int.ne_of_gt mx, ?_⟩
  generalize hu : c.fmod (if ((Z.map zQ).length : Int) > 1 then ((Z.map zQ).length : Int) else 1) = u at u0
  have e1 : L3.cutD (Z.map zQ) (some u) none = (Z.drop u.toNat).map zQ := by rw [L3.cut_from u0, List.map_drop]
  have e2 : L3.cutD (Z.map zQ) none (some u) = (Z.take u.toNat).map zQ := by rw [L3.cut_to u0, List.map_take]
  have m1 : ∀ z, z ∈ Z.drop u.toNat ++ Z.take u.toNat ↔ z ∈ Z := fun z => by
    rw [List.mem_append]
    constructor
    · rintro (h | h)
      · exact List.mem_of_mem_drop h
      · exact List.mem_of_mem_take h
    · intro h
      rw [← List.take_append_drop u.toNat Z, List.mem_append] at h
      exact h.symm
  have l1 : (Z.drop u.toNat ++ Z.take u.toNat).length = Z.length := by rw [List.length_append, List.length_drop, List.length_take]; omega
  have r1 : (L3.cutD (Z.map zQ) (some u) none).length + (L3.cutD (Z.map zQ) none (some u)).length ≤ sizeLine := by
    rw [e1, e2, List.length_map, List.length_map, ← List.length_append, l1]; exact Nat.le_of_lt (small1000 (by omega))
  subst hu
  refine ⟨r1, fun ρ M1 => M1 = M ∧ ∃ (Y : List ZR) (o3 : Ent), ρ = [.sh (planQ S T Z), .sh (.int c), .ow (Y.map zQ), o3, .un, .un, .un, .un, .un] ∧ (∀ z, z ∈ Y ↔ z ∈ Z) ∧ Y.length = Z.length, ?_, ?_⟩
  · refine ⟨⟨by decide, smM⟩, (by decide : (2 : Int) ≠ 0), by show 0 ≤ 60; decide, ?_⟩
    show if peq _ _ = true then _ else _
    refine iteB (fun _ => ?_) (fun _ => ?_)
    · exact ⟨rfl, (Z.drop _ ++ Z.take _).reverse, _, by rw [List.map_reverse, List.map_append, ← e1, ← e2]; rfl, fun z => by rw [List.mem_reverse]; exact m1 z, by rw [List.length_reverse]; exact l1⟩
    · exact ⟨rfl, Z.drop _ ++ Z.take _, _, by rw [List.map_append, ← e1, ← e2]; rfl, m1, l1⟩
  clear u0 e1 e2 m1 l1 r1 mx
  rintro ρ M1 ⟨rfl, Y, o3, rfl, mY, lY⟩
  refine ⟨fun ρ M2 => M2 = M1 ∧ ∃ (Y : List ZR), ρ = [.sh (planQ S T Z), .sh (.int c), .ow (Y.map zQ), o3, .un, .un, .un, .un, .un] ∧ SmOk T.length Z Y, ?_, ?_⟩
  · refine ⟨⟨by decide, smM⟩, (by decide : (3 : Int) ≠ 0), by show 0 ≤ 60; decide, ?_⟩
    show if peq _ _ = true then _ else _
    refine iteB (fun _ => ?_) (fun _ => ?_)
    · have e2 : L3.cutD (Y.map zQ) none (some 2) = (Y.take 2).map zQ := by rw [L3.cut_to (by decide), List.map_take]; rfl
      have e8 : L3.cutD (Y.map zQ ++ L3.cutD (Y.map zQ) none (some 2)) none (some 8) = ((Y ++ Y.take 2).take 8).map zQ := by rw [e2, ← List.map_append, L3.cut_to (by decide), List.map_take]; rfl
      have t8 : (Y ++ Y.take 2).take 8 = Y ++ (Y.take 2).take (8 - Y.length) := by rw [List.take_append, List.take_of_length_le (by omega)]
      refine ⟨by rw [e2, List.length_map, List.length_map, List.length_take]; exact Nat.le_of_lt (small1000 (by omega)), rfl, (Y ++ Y.take 2).take 8, ?_, fun z => ?_, by rw [List.length_take]; omega, fun e => ?_⟩
      · rw [← e8]; rfl
      · rw [t8, List.mem_append, ← mY z]
        exact ⟨fun h => h.elim id fun h => List.mem_of_mem_take (List.mem_of_mem_take h), .inl⟩
      · have := z3 e
        rw [List.length_take, List.length_append, List.length_take]; omega
    · exact ⟨rfl, Y, rfl, mY, by omega, fun e => by have := z3 e; omega⟩
  clear mY lY
  rintro ρ M2 ⟨rfl, Y, rfl, ok⟩
  have l8 := ok.l
  refine ⟨fun ρ M3 => M3 = M2 ∧ ∃ (Y : List ZR) (o2 o4 o5 o6 o7 o8 : Ent), ρ = [.sh (planQ S T Z), .sh (.int c), o2, o3, o4, o5, o6, o7, o8] ∧ (o2 = .ow (Y.map zQ) ∨ o2 = .sh (.lst (Y.map zQ))) ∧ OtOk S T Z Y, ?_, ?_⟩
  · refine ⟨⟨by decide, smM⟩, (by decide : (2 : Int) ≠ 0), by show 0 ≤ 60; decide, ?_⟩
    show if peq _ _ = true then _ else _
    refine iteB (fun _ => ?_) (fun _ => ⟨rfl, Y, _, _, _, _, _, _, rfl, .inl rfl, sm_ru dr ok⟩)
    show if decide _ = true then _ else _
    refine iteB (fun _ => ?_) (fun _ => ⟨rfl, Y, _, _, _, _, _, _, rfl, .inl rfl, sm_ru dr ok⟩)
    have x1 := fm (c.fdiv 96) 9 (by decide)
    have x2 := fm (c.fdiv 864) 4 (by decide)
    obtain ⟨q0, wq⟩ := wh_many x1.1 x1.2 x2.1 x2.2
    have sq : SmR 8 (Rat.divInt (1 + (c.fdiv 96).fmod 9) (1 + (c.fdiv 864).fmod 4)) := wq.smr (by decide) (by unfold Sm; decide)
    refine ⟨⟨by decide, smM⟩, (by decide : (9 : Int) ≠ 0), ⟨by decide, smM⟩, (by decide : (4 : Int) ≠ 0), _, _, rfl, by omega, Sm.mono (a := 4) (by unfold Sm; omega) (by decide), by show 0 ≤ sizeLine; decide, ?_⟩
    generalize Rat.divInt (1 + (c.fdiv 96).fmod 9) (1 + (c.fdiv 864).fmod 4) = qq at *
    refine ⟨fun i ρ M3 => M3 = M2 ∧ ∃ (o6 o7 o8 : Ent), ρ = [.sh (planQ S T Z), .sh (.int c), .sh (.lst (Y.map zQ)), o3, .sh (frD qq), .ow ((Y.take i).map fun z => zQ (mulZ qq z)), o6, o7, o8], ⟨rfl, _, _, _, rfl⟩, ?_, ?_⟩
    · rintro i d ρ M3 hd ⟨rfl, o6, o7, o8, rfl⟩
      obtain ⟨z, hz, rfl⟩ := map_get hd
      have hi := (List.getElem?_eq_some_iff.mp hz).1
      have bz := dr.bz z ((ok.m z).mp (List.mem_of_getElem? hz))
      have l1 := bz.s
      have l2 := bz.t
      refine ⟨rfl, fun j out ρ M4 => M4 = M3 ∧ out = (z.1.take j).map (fun x => frD (x * qq)) ∧ ∃ o, ρ = [o, .sh (frD qq)], ⟨rfl, rfl, _, rfl⟩, ?_, ?_⟩
      · rintro j d out ρ M4 hd ⟨rfl, rfl, o, rfl⟩
        obtain ⟨x, hx, rfl⟩ := map_get hd
        have hj := (List.getElem?_eq_some_iff.mp hx).1
        exact ⟨x, qq, rfl, Mx.of ((bz.a x (List.mem_of_getElem? hx)).smr (by decide) (by unfold Sm; decide)) sq, by rw [List.length_map, List.length_take]; exact small1000 (by omega), rfl, take_map' (f := fun x => frD (x * qq)) hx, _, rfl⟩
      rintro out ρ M4 ⟨rfl, h1, o, rfl⟩
      have h1 : out = (z.1.take (z.1.map frD).length).map (fun x => frD (x * qq)) := h1
      rw [List.length_map, List.take_length] at h1
      subst h1
      refine ⟨trivial, fun j out ρ M5 => M5 = M4 ∧ out = (z.2.1.take j).map (fun x => frD (x * qq)) ∧ ∃ o, ρ = [o, .sh (frD qq)], ⟨rfl, rfl, _, rfl⟩, ?_, ?_⟩
      · rintro j d out ρ M5 hd ⟨rfl, rfl, o, rfl⟩
        obtain ⟨x, hx, rfl⟩ := map_get hd
        have hj := (List.getElem?_eq_some_iff.mp hx).1
        exact ⟨x, qq, rfl, Mx.of ((bz.b x (List.mem_of_getElem? hx)).smr (by decide) (by unfold Sm; decide)) sq, by rw [List.length_map, List.length_take]; exact small1000 (by omega), rfl, take_map' (f := fun x => frD (x * qq)) hx, _, rfl⟩
      rintro out ρ M5 ⟨rfl, h1, o', rfl⟩
      have h1 : out = (z.2.1.take (z.2.1.map frD).length).map (fun x => frD (x * qq)) := h1
      rw [List.length_map, List.take_length] at h1
      subst h1
      have ez : zQ (mulZ qq z) = .tup [.lst (z.1.map fun x => frD (x * qq)), .lst (z.2.1.map fun x => frD (x * qq)), frD (z.2.2 * qq)] := by
        show L3.D.tup [.lst ((z.1.map fun x => x * qq).map frD), .lst ((z.2.1.map fun x => x * qq).map frD), frD (z.2.2 * qq)] = _
        rw [List.map_map, List.map_map]; rfl
      exact ⟨z.2.2, qq, rfl, Mx.of (bz.c.smr (by decide)) sq, by show 3 ≤ sizeLine; decide, by rw [List.length_map, List.length_take]; exact small1000 (by omega), rfl, _, _, _, by rw [← take_map' (f := fun z => zQ (mulZ qq z)) hz, ez]; rfl⟩
    · rintro ρ M3 ⟨rfl, o6, o7, o8, rfl⟩
      rw [List.length_map, List.take_length]
      have e : (Y.map fun z => zQ (mulZ qq z)) = (Y.map (mulZ qq)).map zQ := by rw [List.map_map]; rfl
      rw [e]
      exact ⟨rfl, Y.map (mulZ qq), _, _, _, _, _, _, rfl, .inr rfl, sm_mul dr ok q0 wq⟩
  rintro ρ M3 ⟨rfl, Y', o2, o4, o5, o6, o7, o8, rfl, ho, ot⟩
  rcases ho with rfl | rfl
  · exact ⟨by show 3 ≤ sizeLine; decide, M3, Sub.refl _, q Y' ot⟩
  · exact ⟨by show 3 ≤ sizeLine; decide, M3, Sub.refl _, q Y' ot⟩

noncomputable def spLaw (K : PySem.W.Frag) : Sp := fun vs H Q _ => ∃ (a : Addr) (ns : List Int), vs = [.ref a] ∧ SqL K H a (ns.map V.int) ∧ ns.length ≤ 63 ∧ ∀ H', Q (.bl true) H'

private theorem dep_step (k : Nat) (R : List ZR) : dep (stepD k R) ≤ 5 := by
  have h1 : dep (.lst ((lowsQ k R).map zQ)) ≤ 4 := by rw [dep]; exact Nat.succ_le_succ (deps_map' dep_zQ _)
  have h2 : dep (.lst ((highsQ k R).map zQ)) ≤ 4 := by rw [dep]; exact Nat.succ_le_succ (deps_map' dep_zQ _)
  unfold stepD
  simp only [dep, deps] at *
  omega
private theorem dep_rule (S T : List (Rat × Rat)) (Z : List ZR) : dep (ruleD S T Z) ≤ 60 := by
  have h1 : dep (.lst ((rowsR S T Z T.length).map zQ)) ≤ 4 := by rw [dep]; exact Nat.succ_le_succ (deps_map' dep_zQ _)
  have h2 : dep (.lst (stepsD S T Z T.length).reverse) ≤ 6 := by
    rw [dep]
    refine Nat.succ_le_succ ?_
    unfold stepsD
    rw [← List.map_reverse]
    exact deps_map' (fun j => dep_step _ _) _
  unfold ruleD
  simp only [dep, deps] at *
  omega
private theorem ot_ch {S T : List (Rat × Rat)} {Z Y : List ZR} {M X : List Rat} (d : Dr S T Z) (ot : OtOk S T Z Y) (ok : MdOk S M X) : ChOk S T Y M := ⟨ot.r, (md_ch d ok).m⟩
noncomputable def idleZ (s t : Nat) (c : Rat) : ZR := (List.replicate s 0, List.replicate t 0, c)
private theorem idle_is {s t : Nat} {c : Rat} (h : 0 ≤ c) : idle (idleZ s t c) = true := by
  unfold idle idleZ
  have h1 : (List.replicate s (0 : Rat) ++ List.replicate t (0 : Rat)).all (fun q => decide (q = 0)) = true := by
    rw [List.all_eq_true]
    intro q hq
    rcases List.mem_append.mp hq with hq | hq
    · rw [List.eq_of_mem_replicate hq]; decide
    · rw [List.eq_of_mem_replicate hq]; decide
  have h2 : ¬ c < 0 := by grind
  show ((List.replicate s (0 : Rat) ++ List.replicate t (0 : Rat)).all (fun q => decide (q = 0)) && !decide (c < 0)) = true
  rw [h1]
  simpa using h2
private theorem idle_ru {S T : List (Rat × Rat)} {Z : List ZR} {n : Nat} {c : Rat} (h : Dr S T Z) (z7 : Z.length ≤ 7) (sc : SmN 40 7 c) : RuOk S T (Z.take n ++ [idleZ S.length T.length c] ++ Z.drop n) := by
  have ru := dr_ru h
  obtain ⟨z8, z2, z3⟩ := h.z
  have t3 := h.t3
  obtain ⟨D, d0, sD, wz, wt, wx⟩ := dr_com (X := [c]) h (fun q hq => by rw [List.mem_singleton.mp hq]; exact sc) (by show 1 ≤ 12; decide)
  have l : (Z.take n ++ [idleZ S.length T.length c] ++ Z.drop n).length = Z.length + 1 := by
    rw [List.length_append, List.length_append, List.length_take, List.length_drop, List.length_singleton]; omega
  refine ⟨ru.s, t3, by rw [l]; omega, ?_, fun e => by have := z3 e; rw [l]; omega, 60 * D, Nat.mul_ne_zero (by decide) d0, sm_60 sD, fun z hz => ?_, fun x hx => ⟨(wh_60D (wt x hx).1).mono (by decide), (wh_60D (wt x hx).2).mono (by decide)⟩⟩
  · rw [l]
    have : T.length = 0 ∨ T.length = 1 ∨ T.length = 2 ∨ T.length = 3 := by omega
    rcases this with e | e | e | e
    · omega
    · omega
    · have := z2 e; omega
    · have := z3 e; omega
  · have : z = idleZ S.length T.length c ∨ z ∈ Z := by
      rcases List.mem_append.mp hz with hz | hz
      · rcases List.mem_append.mp hz with hz | hz
        · exact .inr (List.mem_of_mem_take hz)
        · exact .inl (List.mem_singleton.mp hz)
      · exact .inr (List.mem_of_mem_drop hz)
    rcases this with rfl | hz
    · refine ⟨List.length_replicate, List.length_replicate, fun q hq => ?_, fun q hq => ?_, (wh_60D (wx c (.head _))).mono (by decide)⟩
      · rw [List.eq_of_mem_replicate hq]; exact wh_00 _ _
      · rw [List.eq_of_mem_replicate hq]; exact wh_00 _ _
    · have b := h.bz z hz
      exact ⟨b.s, b.t, fun q hq => (wt_60D d0 sD (b.a q hq)).mono (by decide), fun q hq => (wt_60D d0 sD (b.b q hq)).mono (by decide), (wh_60D (wz z hz)).mono (by decide)⟩
noncomputable abbrev s_law : Stmt := top 48
private theorem sc_law : FnScope ["script", "plan", "rule", "cell", "other", "k", "made", "at", "idle"] ["script"] (defScope s_law) := ⟨rfl, rfl, rfl, by decide +kernel, rfl, by decide +kernel, by decide +kernel⟩
private theorem fn_law {e : Addr} {ed : FuncData} (B : Bl2 mg) (F : Fun K "law" "law" s_law e ed) (F__law_plan : Has P w K mg base CX0 4 "_law_plan" ["script"] (spD K (Scr K) gPlan)) (F_rule_of : Has P w K mg base CX0 7 "rule_of" ["plan"] (spW K (pur gRule))) (F__law_cell : hCell P w K mg base) (F__law_other : Has P w K mg base CX0 3 "_law_other" ["plan", "cell"] (spW K (pur gOther))) (F__law_state : hState P w K mg base) (F__law_made : Has P w K mg base CX0 3 "_law_made" ["state", "plan"] (spP K isPool 40 gMade)) (F__law_told : Has P w K mg base CX0 8 "_law_told" ["rule", "made"] (spW K (pur gTold))) (F__law_frac : hLF P w K mg base) : FnOk P w K mg base CX0 9 e ed ["script"] (spLaw K) := by
  refine F.ok sc_law (fun vs H Q E h => by obtain ⟨a, ns, rfl, _⟩ := h; rfl) (fun cdv A outer s H vs Q E hr h => ?_)
  obtain ⟨a, ns, rfl, hS, h63, q⟩ := h
  have nd := sc_law.nd
  refine ⟨_, JSs.h (jss_cons (js_set (i := 1) nd rfl (Or.inl rfl) (j_hD 0 F__law_plan (hr.mono (by decide)) rfl ja_nil))
    (jss_cons (js_set (i := 2) nd rfl (Or.inl rfl) (j_h F_rule_of (hr.mono (by decide)) rfl (ja_cons (jv 1) ja_nil)))
    (jss_cons (js_set (i := 3) nd rfl (Or.inl rfl) (j_mod (j_hD 0 F__law_cell (hr.mono (by decide)) rfl (ja_cons j_int ja_nil)) (j_pow j_int j_int)))
    (jss_cons (js_set (i := 4) nd rfl (Or.inl rfl) (j_h F_rule_of (hr.mono (by decide)) rfl (ja_cons (j_h F__law_other (hr.mono (by decide)) rfl (ja_cons (jv 1) (ja_cons (jv 3) ja_nil))) ja_nil)))
    (jss_cons (js_for PassesOwn.never rfl (ji_rng2 rfl B.range (ja_cons j_int (ja_cons (j_max2 rfl B.max rfl (ja_cons j_int (ja_cons (j_min2 rfl B.min rfl (ja_cons j_int (ja_cons (j_lenS 0 rfl B.len) ja_nil))) ja_nil))) ja_nil))) (jg_name (i := 5) nd rfl (Or.inl rfl))
    (jss_cons (js_set (i := 6) nd rfl (Or.inl rfl) (j_hPM 0 F__law_state F__law_made (hr.mono (by decide)) (hr.mono (by decide)) rfl rfl (ja_cons (jv 5) ja_nil) (ja_cons (jv 1) ja_nil)))
    (jss_one (js_if (jt_ne hr (j_h F__law_told (hr.mono (by decide)) rfl (ja_cons (jv 2) (ja_cons (jv 6) ja_nil))) (j_h F__law_told (hr.mono (by decide)) rfl (ja_cons (jv 4) (ja_cons (jv 6) ja_nil)))) (jss_one (js_ret j_bl)) jss_nil))))
    (jss_cons (js_if (jt_gt (j_len rfl B.len (ja_cons (j_atV 1 j_int) ja_nil)) j_int) (jss_one (js_ret j_bl)) jss_nil)
    (jss_cons (js_set (i := 7) nd rfl (Or.inl rfl) (j_mod (jv 3) (j_add (j_len rfl B.len (ja_cons (j_atV 1 j_int) ja_nil)) j_int)))
    (jss_cons (js_set (i := 8) nd rfl (Or.inl rfl) (j_tup (ja_cons (j_fz (jn_rep (jn_lst (ja_cons (j_tup (ja_cons j_int (ja_cons j_int ja_nil))) ja_nil)) (j_len rfl B.len (ja_cons (j_atV 1 j_int) ja_nil)))) (ja_cons (j_fz (jn_rep (jn_lst (ja_cons (j_tup (ja_cons j_int (ja_cons j_int ja_nil))) ja_nil)) (j_len rfl B.len (ja_cons (j_atV 1 j_int) ja_nil)))) (ja_cons (j_h F__law_frac (hr.mono (by decide)) rfl (ja_cons (j_mod (jv 3) j_int) (ja_cons j_int ja_nil))) ja_nil)))))
    (jss_one (js_ret (j_eq hr (j_h F_rule_of (hr.mono (by decide)) rfl (ja_cons (j_tup (ja_cons (j_atV 1 j_int) (ja_cons (j_atV 1 j_int) (ja_cons (j_fz (jn_cat (j_fz (jn_cat (j_fz (jn_sl (j_atV 1 j_int) jo_none (jo_some (jv 7)))) (j_fz (jn_lst (ja_cons (jv 8) ja_nil))))) (j_fz (jn_sl (j_atV 1 j_int) (jo_some (jv 7)) jo_none)))) ja_nil)))) ja_nil)) (jv 2)))))))))))), ?_⟩
  obtain ⟨M0, ag, hM⟩ := Scr.start (K := K) (N := ["script", "plan", "rule", "cell", "other", "k", "made", "at", "idle"]) h63 hS
  refine ⟨fun _ => none, fun _ => none, startD ["script", "plan", "rule", "cell", "other", "k", "made", "at", "idle"] a [], M0, ⟨fun _ _ => False, rtD fun x _ => x = .bl true, fun _ _ => False, fun _ _ => False⟩, ag, ?_, ⟨fun _ _ _ _ _ _ _ z => z.elim, fun _ _ _ _ _ _ _ z => z.elim, fun _ _ _ _ _ _ _ z => z.elim, fun v H' F' u M' _ _ r e => by
    obtain ⟨d, r, e⟩ := rtD_of (M := M') (q := fun x _ => x = .bl true) e r
    subst e; rw [Rp] at r; subst r; exact q H'⟩⟩
  clear ag
  have l63 := hM.1
  refine ⟨⟨ns, hM⟩, rfl, fun S T Z dr => ?_⟩
  have s6 := dr.s6
  have z8 := dr.z.1
  refine ⟨S, T, Z, rfl, dr_ru dr, ?_⟩
  have zl : ∀ z ∈ Z, z.1.length = S.length ∧ z.2.1.length = T.length := fun z hz => ⟨(dr.bz z hz).s, (dr.bz z hz).t⟩
  refine ⟨⟨ns, hM⟩, _, rfl, by decide, by decide, fun c0 => ⟨⟨by decide, by decide⟩, (by decide : (10 : Int) ^ 40 ≠ 0), ?_⟩⟩
  obtain ⟨c, hc⟩ : ∃ c, c = c0.fmod (10 ^ (40 : Int).toNat) := ⟨_, rfl⟩
  refine ⟨S, T, Z, _, rfl, dr, fun Y ot => ?_⟩
  refine ⟨S, T, Y, rfl, ot.r, ns, hM, ⟨?_, ?_⟩, fun i ρ M2 => Sub M0 M2 ∧ ∃ o5 o6 o7 o8 : Ent, ρ = [.rf a, .sh (planQ S T Z), .sh (ruleD S T Z), .sh (.int c), .sh (ruleD S T Y), o5, o6, o7, o8], ⟨Sub.refl _, _, _, _, _, by rw [hc]; rfl⟩, ?_, ?_⟩
  · try dsimp only
    try split <;> split <;> omega
    try omega
  · try dsimp only
    try split <;> split <;> omega
    try omega
  · rintro i d ρ M2 hd ⟨sM, o5, o6, o7, o8, rfl⟩
    obtain ⟨rfl, hi⟩ := rng_get hd
    have hi20 : i < 64 := by
      refine Nat.lt_of_lt_of_le hi ?_
      dsimp only
      split <;> split <;> omega
    refine ⟨⟨ns, hM.mono sM⟩, ⟨_, rfl, by omega, by omega⟩, fun p hp => ?_⟩
    refine ⟨mset_same, by decide, S, T, Z, rfl, s6, dr.bs, fun V X md => ?_⟩
    rw [mset_mset]
    have sM' : L4.Sub M0 (mset M2 p (.op (isPool (100000000 - 40)))) := sub_new sM hp
    refine ⟨S, T, Z, V, rfl, md_ch dr md, S, T, Y, V, rfl, ot_ch dr ot md, ?_⟩
    rw [← told_alike zl ot.l ot.a]
    refine ⟨?_, ?_⟩
    · cases toldQ S T Z V with
      | none => show dep .non ≤ 60; decide
      | some x => exact Nat.le_trans (dep_frL _) (by decide)
    show if (!peq (oD (toldQ S T Z V)) (oD (toldQ S T Z V))) = true then _ else _
    rw [peq_refl]
    exact ⟨sM', _, _, _, _, rfl⟩
  rintro ρ M2 ⟨sM, o5, o6, o7, o8, rfl⟩
  clear hc
  show if decide _ = true then _ else _
  refine iteB (fun _ => rfl) (fun h7 => ?_)
  have z7 : Z.length ≤ 7 := by
    have : ¬ (7 : Int) < ((Z.map zQ).length : Int) := by simpa using h7
    rw [List.length_map] at this
    omega
  have n0 : 0 ≤ c.fmod (((Z.map zQ).length : Int) + 1) := Int.fmod_nonneg_of_pos _ (by omega)
  have x7 : 0 ≤ c.fmod 7 ∧ c.fmod 7 < 7 := by rw [Int.fmod_eq_emod_of_nonneg _ (by decide)]; omega
  refine ⟨(by omega : ((Z.map zQ).length : Int) + 1 ≠ 0), ?_⟩
  have z1 : L3.D.tup [.int 0, .int 1] = frD 0 := rfl
  have ef : ∀ n : Nat, (List.replicate n [L3.D.tup [.int 0, .int 1]]).flatten = (List.replicate n (0 : Rat)).map frD := fun n => by
    induction n with
    | zero => rfl
    | succ n ih => rw [List.replicate_succ, List.flatten_cons, ih, List.replicate_succ, List.map_cons, z1]; rfl
  have es : ((S.map bQ).length : Int).toNat = S.length := by rw [List.length_map]; rfl
  have et : ((T.map bQ).length : Int).toNat = T.length := by rw [List.length_map]; rfl
  have ei : L3.D.tup [.lst (List.replicate ((S.map bQ).length : Int).toNat [L3.D.tup [.int 0, .int 1]]).flatten, .lst (List.replicate ((T.map bQ).length : Int).toNat [L3.D.tup [.int 0, .int 1]]).flatten, frD (Rat.divInt (c.fmod 7) 3)] = zQ (idleZ S.length T.length (Rat.divInt (c.fmod 7) 3)) := by
    rw [ef, ef, es, et]; rfl
  have e1 : L3.cutD (Z.map zQ) (some (c.fmod (((Z.map zQ).length : Int) + 1))) none = (Z.drop (c.fmod (((Z.map zQ).length : Int) + 1)).toNat).map zQ := by rw [L3.cut_from n0, List.map_drop]
  have e2 : L3.cutD (Z.map zQ) none (some (c.fmod (((Z.map zQ).length : Int) + 1))) = (Z.take (c.fmod (((Z.map zQ).length : Int) + 1)).toNat).map zQ := by rw [L3.cut_to n0, List.map_take]
  have sc : SmN 40 7 (Rat.divInt (c.fmod 7) 3) := smn_fr (by decide) (by unfold Sm; omega) (by unfold Sm; decide) (by decide)
  have c0' : 0 ≤ Rat.divInt (c.fmod 7) 3 := Rat.divInt_nonneg x7.1 (by decide)
  have t3 := dr.t3
  have b1 : ∀ n : Nat, n ≤ 100 → -(2 ^ 63) ≤ (n : Int) ∧ (n : Int) < 2 ^ 63 ∧ [L3.D.tup [.int 0, .int 1]].length * (n : Int).toNat ≤ sizeLine := fun n hn => ⟨by omega, by omega, Nat.le_of_lt (small1000 (by show 1 * n ≤ 1000; omega))⟩
  refine ⟨by show 2 ≤ sizeLine; decide, by show 1 ≤ sizeLine; decide, b1 _ (by rw [List.length_map]; omega), by show 2 ≤ sizeLine; decide, by show 1 ≤ sizeLine; decide, b1 _ (by rw [List.length_map]; omega), (by decide : (7 : Int) ≠ 0), _, _, rfl, by decide, smM, by show 3 ≤ sizeLine; decide, by show 1 ≤ sizeLine; decide, ?_, ?_, by show 3 ≤ sizeLine; decide, S, T, Z.take (c.fmod (((Z.map zQ).length : Int) + 1)).toNat ++ [idleZ S.length T.length (Rat.divInt (c.fmod 7) 3)] ++ Z.drop (c.fmod (((Z.map zQ).length : Int) + 1)).toNat, ?_, idle_ru dr z7 sc, dep_rule _ _ _, ?_⟩
  · show (L3.cutD (Z.map zQ) none (some (c.fmod (((Z.map zQ).length : Int) + 1)))).length + 1 ≤ sizeLine
    rw [e2, List.length_map, List.length_take]; exact Nat.le_of_lt (small1000 (by omega))
  · show (L3.cutD (Z.map zQ) none (some (c.fmod (((Z.map zQ).length : Int) + 1))) ++ [_]).length + (L3.cutD (Z.map zQ) (some (c.fmod (((Z.map zQ).length : Int) + 1))) none).length ≤ sizeLine
    rw [e2, e1]; simp only [List.length_append, List.length_map, List.length_take, List.length_drop, List.length_singleton]; exact Nat.le_of_lt (small1000 (by omega))
  · show [L3.D.tup [.lst (S.map bQ), .lst (T.map bQ), .lst (L3.cutD (Z.map zQ) none (some (c.fmod (((Z.map zQ).length : Int) + 1))) ++ [L3.D.tup [.lst (List.replicate ((S.map bQ).length : Int).toNat [L3.D.tup [.int 0, .int 1]]).flatten, .lst (List.replicate ((T.map bQ).length : Int).toNat [L3.D.tup [.int 0, .int 1]]).flatten, frD (Rat.divInt (c.fmod 7) 3)]] ++ L3.cutD (Z.map zQ) (some (c.fmod (((Z.map zQ).length : Int) + 1))) none)]] = _
    rw [ei, e1, e2]
    show _ = [L3.D.tup [.lst (S.map bQ), .lst (T.map bQ), .lst ((_ ++ [_] ++ _).map zQ)]]
    rw [List.map_append, List.map_append]; rfl
  · rw [rule_idle (idle_is c0'), List.take_append_drop]
    show L3.D.bl (peq (ruleD S T Z) (ruleD S T Z)) = .bl true
    rw [peq_refl]

structure Exs (K : PySem.W.Frag) (mg : Str → Option Value) : Prop where
  NoChoice : ExC K mg "NoChoice"
  s_NoChoice_NoChoice : PySem.W.subIn K (.ref (cOf mg "NoChoice")) (.ref (cOf mg "NoChoice")) = some true
  s_NoChoice_ValueError : PySem.W.subIn K (.ref (cOf mg "NoChoice")) (.type "ValueError") = some true
end
private theorem all_mk {l : PySem.W.OpenLaw} {w : World} {K : PySem.W.Frag} {h : Heap} {mg : Str → Option Value} {fa : Addr} (X : K.In h) (G : h.Ns mainGlobals mg) (hfa : mg "law" = some (.ref fa))
    {f0 : Addr} {od0 an0 : Option Addr} {sl0 : Array (Option Value)} {oc0 kV0 dc0 pm0 cd0 ct0 : Value} (a0 : PySem.W.nsIn K mainGlobals "common_divisor" = some (some (.ref f0))) (l0 : K.lookup f0 = some ⟨oc0, od0, .func (PySem.W.fnOf "common_divisor" "common_divisor" (defArgs s_common_divisor) (defBody s_common_divisor) (defScope s_common_divisor) .none kV0 dc0 pm0 an0 cd0 ct0), sl0⟩) (c0 : PySem.W.codeIn K cd0 "common_divisor" = true) (k0 : PySem.W.keepIn K (.ref f0) = true)
    {f1 : Addr} {od1 an1 : Option Addr} {sl1 : Array (Option Value)} {oc1 kV1 dc1 pm1 cd1 ct1 : Value} (a1 : PySem.W.nsIn K mainGlobals "fraction" = some (some (.ref f1))) (l1 : K.lookup f1 = some ⟨oc1, od1, .func (PySem.W.fnOf "fraction" "fraction" (defArgs s_fraction) (defBody s_fraction) (defScope s_fraction) .none kV1 dc1 pm1 an1 cd1 ct1), sl1⟩) (c1 : PySem.W.codeIn K cd1 "fraction" = true) (k1 : PySem.W.keepIn K (.ref f1) = true)
    {f2 : Addr} {od2 an2 : Option Addr} {sl2 : Array (Option Value)} {oc2 kV2 dc2 pm2 cd2 ct2 : Value} (a2 : PySem.W.nsIn K mainGlobals "plus" = some (some (.ref f2))) (l2 : K.lookup f2 = some ⟨oc2, od2, .func (PySem.W.fnOf "plus" "plus" (defArgs s_plus) (defBody s_plus) (defScope s_plus) .none kV2 dc2 pm2 an2 cd2 ct2), sl2⟩) (c2 : PySem.W.codeIn K cd2 "plus" = true) (k2 : PySem.W.keepIn K (.ref f2) = true)
    {f3 : Addr} {od3 an3 : Option Addr} {sl3 : Array (Option Value)} {oc3 kV3 dc3 pm3 cd3 ct3 : Value} (a3 : PySem.W.nsIn K mainGlobals "opposite" = some (some (.ref f3))) (l3 : K.lookup f3 = some ⟨oc3, od3, .func (PySem.W.fnOf "opposite" "opposite" (defArgs s_opposite) (defBody s_opposite) (defScope s_opposite) .none kV3 dc3 pm3 an3 cd3 ct3), sl3⟩) (c3 : PySem.W.codeIn K cd3 "opposite" = true) (k3 : PySem.W.keepIn K (.ref f3) = true)
    {f4 : Addr} {od4 an4 : Option Addr} {sl4 : Array (Option Value)} {oc4 kV4 dc4 pm4 cd4 ct4 : Value} (a4 : PySem.W.nsIn K mainGlobals "times" = some (some (.ref f4))) (l4 : K.lookup f4 = some ⟨oc4, od4, .func (PySem.W.fnOf "times" "times" (defArgs s_times) (defBody s_times) (defScope s_times) .none kV4 dc4 pm4 an4 cd4 ct4), sl4⟩) (c4 : PySem.W.codeIn K cd4 "times" = true) (k4 : PySem.W.keepIn K (.ref f4) = true)
    {f5 : Addr} {od5 an5 : Option Addr} {sl5 : Array (Option Value)} {oc5 kV5 dc5 pm5 cd5 ct5 : Value} (a5 : PySem.W.nsIn K mainGlobals "over" = some (some (.ref f5))) (l5 : K.lookup f5 = some ⟨oc5, od5, .func (PySem.W.fnOf "over" "over" (defArgs s_over) (defBody s_over) (defScope s_over) .none kV5 dc5 pm5 an5 cd5 ct5), sl5⟩) (c5 : PySem.W.codeIn K cd5 "over" = true) (k5 : PySem.W.keepIn K (.ref f5) = true)
    {f6 : Addr} {od6 an6 : Option Addr} {sl6 : Array (Option Value)} {oc6 kV6 dc6 pm6 cd6 ct6 : Value} (a6 : PySem.W.nsIn K mainGlobals "below" = some (some (.ref f6))) (l6 : K.lookup f6 = some ⟨oc6, od6, .func (PySem.W.fnOf "below" "below" (defArgs s_below) (defBody s_below) (defScope s_below) .none kV6 dc6 pm6 an6 cd6 ct6), sl6⟩) (c6 : PySem.W.codeIn K cd6 "below" = true) (k6 : PySem.W.keepIn K (.ref f6) = true)
    {f7 : Addr} {od7 an7 : Option Addr} {sl7 : Array (Option Value)} {oc7 kV7 dc7 pm7 cd7 ct7 : Value} (a7 : PySem.W.nsIn K mainGlobals "copied_rows" = some (some (.ref f7))) (l7 : K.lookup f7 = some ⟨oc7, od7, .func (PySem.W.fnOf "copied_rows" "copied_rows" (defArgs s_copied_rows) (defBody s_copied_rows) (defScope s_copied_rows) .none kV7 dc7 pm7 an7 cd7 ct7), sl7⟩) (c7 : PySem.W.codeIn K cd7 "copied_rows" = true) (k7 : PySem.W.keepIn K (.ref f7) = true)
    {f8 : Addr} {od8 an8 : Option Addr} {sl8 : Array (Option Value)} {oc8 kV8 dc8 pm8 cd8 ct8 : Value} (a8 : PySem.W.nsIn K mainGlobals "weighed_sum" = some (some (.ref f8))) (l8 : K.lookup f8 = some ⟨oc8, od8, .func (PySem.W.fnOf "weighed_sum" "weighed_sum" (defArgs s_weighed_sum) (defBody s_weighed_sum) (defScope s_weighed_sum) .none kV8 dc8 pm8 an8 cd8 ct8), sl8⟩) (c8 : PySem.W.codeIn K cd8 "weighed_sum" = true) (k8 : PySem.W.keepIn K (.ref f8) = true)
    {f9 : Addr} {od9 an9 : Option Addr} {sl9 : Array (Option Value)} {oc9 kV9 dc9 pm9 cd9 ct9 : Value} (a9 : PySem.W.nsIn K mainGlobals "demand_worth" = some (some (.ref f9))) (l9 : K.lookup f9 = some ⟨oc9, od9, .func (PySem.W.fnOf "demand_worth" "demand_worth" (defArgs s_demand_worth) (defBody s_demand_worth) (defScope s_demand_worth) .none kV9 dc9 pm9 an9 cd9 ct9), sl9⟩) (c9 : PySem.W.codeIn K cd9 "demand_worth" = true) (k9 : PySem.W.keepIn K (.ref f9) = true)
    {f10 : Addr} {od10 an10 : Option Addr} {sl10 : Array (Option Value)} {oc10 kV10 dc10 pm10 cd10 ct10 : Value} (a10 : PySem.W.nsIn K mainGlobals "all_but_one_0" = some (some (.ref f10))) (l10 : K.lookup f10 = some ⟨oc10, od10, .func (PySem.W.fnOf "all_but_one_0" "all_but_one_0" (defArgs s_all_but_one_0) (defBody s_all_but_one_0) (defScope s_all_but_one_0) .none kV10 dc10 pm10 an10 cd10 ct10), sl10⟩) (c10 : PySem.W.codeIn K cd10 "all_but_one_0" = true) (k10 : PySem.W.keepIn K (.ref f10) = true)
    {f11 : Addr} {od11 an11 : Option Addr} {sl11 : Array (Option Value)} {oc11 kV11 dc11 pm11 cd11 ct11 : Value} (a11 : PySem.W.nsIn K mainGlobals "bound_rows" = some (some (.ref f11))) (l11 : K.lookup f11 = some ⟨oc11, od11, .func (PySem.W.fnOf "bound_rows" "bound_rows" (defArgs s_bound_rows) (defBody s_bound_rows) (defScope s_bound_rows) .none kV11 dc11 pm11 an11 cd11 ct11), sl11⟩) (c11 : PySem.W.codeIn K cd11 "bound_rows" = true) (k11 : PySem.W.keepIn K (.ref f11) = true)
    {f12 : Addr} {od12 an12 : Option Addr} {sl12 : Array (Option Value)} {oc12 kV12 dc12 pm12 cd12 ct12 : Value} (a12 : PySem.W.nsIn K mainGlobals "says_nothing" = some (some (.ref f12))) (l12 : K.lookup f12 = some ⟨oc12, od12, .func (PySem.W.fnOf "says_nothing" "says_nothing" (defArgs s_says_nothing) (defBody s_says_nothing) (defScope s_says_nothing) .none kV12 dc12 pm12 an12 cd12 ct12), sl12⟩) (c12 : PySem.W.codeIn K cd12 "says_nothing" = true) (k12 : PySem.W.keepIn K (.ref f12) = true)
    {f13 : Addr} {od13 an13 : Option Addr} {sl13 : Array (Option Value)} {oc13 kV13 dc13 pm13 cd13 ct13 : Value} (a13 : PySem.W.nsIn K mainGlobals "put_on" = some (some (.ref f13))) (l13 : K.lookup f13 = some ⟨oc13, od13, .func (PySem.W.fnOf "put_on" "put_on" (defArgs s_put_on) (defBody s_put_on) (defScope s_put_on) .none kV13 dc13 pm13 an13 cd13 ct13), sl13⟩) (c13 : PySem.W.codeIn K cd13 "put_on" = true) (k13 : PySem.W.keepIn K (.ref f13) = true)
    {f14 : Addr} {od14 an14 : Option Addr} {sl14 : Array (Option Value)} {oc14 kV14 dc14 pm14 cd14 ct14 : Value} (a14 : PySem.W.nsIn K mainGlobals "shim_rows" = some (some (.ref f14))) (l14 : K.lookup f14 = some ⟨oc14, od14, .func (PySem.W.fnOf "shim_rows" "shim_rows" (defArgs s_shim_rows) (defBody s_shim_rows) (defScope s_shim_rows) .none kV14 dc14 pm14 an14 cd14 ct14), sl14⟩) (c14 : PySem.W.codeIn K cd14 "shim_rows" = true) (k14 : PySem.W.keepIn K (.ref f14) = true)
    {f15 : Addr} {od15 an15 : Option Addr} {sl15 : Array (Option Value)} {oc15 kV15 dc15 pm15 cd15 ct15 : Value} (a15 : PySem.W.nsIn K mainGlobals "first_rows" = some (some (.ref f15))) (l15 : K.lookup f15 = some ⟨oc15, od15, .func (PySem.W.fnOf "first_rows" "first_rows" (defArgs s_first_rows) (defBody s_first_rows) (defScope s_first_rows) .none kV15 dc15 pm15 an15 cd15 ct15), sl15⟩) (c15 : PySem.W.codeIn K cd15 "first_rows" = true) (k15 : PySem.W.keepIn K (.ref f15) = true)
    {f16 : Addr} {od16 an16 : Option Addr} {sl16 : Array (Option Value)} {oc16 kV16 dc16 pm16 cd16 ct16 : Value} (a16 : PySem.W.nsIn K mainGlobals "mixed" = some (some (.ref f16))) (l16 : K.lookup f16 = some ⟨oc16, od16, .func (PySem.W.fnOf "mixed" "mixed" (defArgs s_mixed) (defBody s_mixed) (defScope s_mixed) .none kV16 dc16 pm16 an16 cd16 ct16), sl16⟩) (c16 : PySem.W.codeIn K cd16 "mixed" = true) (k16 : PySem.W.keepIn K (.ref f16) = true)
    {f17 : Addr} {od17 an17 : Option Addr} {sl17 : Array (Option Value)} {oc17 kV17 dc17 pm17 cd17 ct17 : Value} (a17 : PySem.W.nsIn K mainGlobals "put_together" = some (some (.ref f17))) (l17 : K.lookup f17 = some ⟨oc17, od17, .func (PySem.W.fnOf "put_together" "put_together" (defArgs s_put_together) (defBody s_put_together) (defScope s_put_together) .none kV17 dc17 pm17 an17 cd17 ct17), sl17⟩) (c17 : PySem.W.codeIn K cd17 "put_together" = true) (k17 : PySem.W.keepIn K (.ref f17) = true)
    {f18 : Addr} {od18 an18 : Option Addr} {sl18 : Array (Option Value)} {oc18 kV18 dc18 pm18 cd18 ct18 : Value} (a18 : PySem.W.nsIn K mainGlobals "taken_out" = some (some (.ref f18))) (l18 : K.lookup f18 = some ⟨oc18, od18, .func (PySem.W.fnOf "taken_out" "taken_out" (defArgs s_taken_out) (defBody s_taken_out) (defScope s_taken_out) .none kV18 dc18 pm18 an18 cd18 ct18), sl18⟩) (c18 : PySem.W.codeIn K cd18 "taken_out" = true) (k18 : PySem.W.keepIn K (.ref f18) = true)
    {f19 : Addr} {od19 an19 : Option Addr} {sl19 : Array (Option Value)} {oc19 kV19 dc19 pm19 cd19 ct19 : Value} (a19 : PySem.W.nsIn K mainGlobals "rule_of" = some (some (.ref f19))) (l19 : K.lookup f19 = some ⟨oc19, od19, .func (PySem.W.fnOf "rule_of" "rule_of" (defArgs s_rule_of) (defBody s_rule_of) (defScope s_rule_of) .none kV19 dc19 pm19 an19 cd19 ct19), sl19⟩) (c19 : PySem.W.codeIn K cd19 "rule_of" = true) (k19 : PySem.W.keepIn K (.ref f19) = true)
    {f20 : Addr} {od20 an20 : Option Addr} {sl20 : Array (Option Value)} {oc20 kV20 dc20 pm20 cd20 ct20 : Value} (a20 : PySem.W.nsIn K mainGlobals "least_let" = some (some (.ref f20))) (l20 : K.lookup f20 = some ⟨oc20, od20, .func (PySem.W.fnOf "least_let" "least_let" (defArgs s_least_let) (defBody s_least_let) (defScope s_least_let) .none kV20 dc20 pm20 an20 cd20 ct20), sl20⟩) (c20 : PySem.W.codeIn K cd20 "least_let" = true) (k20 : PySem.W.keepIn K (.ref f20) = true)
    {f21 : Addr} {od21 an21 : Option Addr} {sl21 : Array (Option Value)} {oc21 kV21 dc21 pm21 cd21 ct21 : Value} (a21 : PySem.W.nsIn K mainGlobals "greatest_of" = some (some (.ref f21))) (l21 : K.lookup f21 = some ⟨oc21, od21, .func (PySem.W.fnOf "greatest_of" "greatest_of" (defArgs s_greatest_of) (defBody s_greatest_of) (defScope s_greatest_of) .none kV21 dc21 pm21 an21 cd21 ct21), sl21⟩) (c21 : PySem.W.codeIn K cd21 "greatest_of" = true) (k21 : PySem.W.keepIn K (.ref f21) = true)
    {f22 : Addr} {od22 an22 : Option Addr} {sl22 : Array (Option Value)} {oc22 kV22 dc22 pm22 cd22 ct22 : Value} (a22 : PySem.W.nsIn K mainGlobals "chosen_by" = some (some (.ref f22))) (l22 : K.lookup f22 = some ⟨oc22, od22, .func (PySem.W.fnOf "chosen_by" "chosen_by" (defArgs s_chosen_by) (defBody s_chosen_by) (defScope s_chosen_by) .none kV22 dc22 pm22 an22 cd22 ct22), sl22⟩) (c22 : PySem.W.codeIn K cd22 "chosen_by" = true) (k22 : PySem.W.keepIn K (.ref f22) = true)
    {f23 : Addr} {od23 an23 : Option Addr} {sl23 : Array (Option Value)} {oc23 kV23 dc23 pm23 cd23 ct23 : Value} (a23 : PySem.W.nsIn K mainGlobals "_law_cell" = some (some (.ref f23))) (l23 : K.lookup f23 = some ⟨oc23, od23, .func (PySem.W.fnOf "_law_cell" "_law_cell" (defArgs s_law_cell) (defBody s_law_cell) (defScope s_law_cell) .none kV23 dc23 pm23 an23 cd23 ct23), sl23⟩) (c23 : PySem.W.codeIn K cd23 "_law_cell" = true) (k23 : PySem.W.keepIn K (.ref f23) = true)
    {f24 : Addr} {od24 an24 : Option Addr} {sl24 : Array (Option Value)} {oc24 kV24 dc24 pm24 cd24 ct24 : Value} (a24 : PySem.W.nsIn K mainGlobals "_law_state" = some (some (.ref f24))) (l24 : K.lookup f24 = some ⟨oc24, od24, .func (PySem.W.fnOf "_law_state" "_law_state" (defArgs s_law_state) (defBody s_law_state) (defScope s_law_state) .none kV24 dc24 pm24 an24 cd24 ct24), sl24⟩) (c24 : PySem.W.codeIn K cd24 "_law_state" = true) (k24 : PySem.W.keepIn K (.ref f24) = true)
    {f25 : Addr} {od25 an25 : Option Addr} {sl25 : Array (Option Value)} {oc25 kV25 dc25 pm25 cd25 ct25 : Value} (a25 : PySem.W.nsIn K mainGlobals "_law_take" = some (some (.ref f25))) (l25 : K.lookup f25 = some ⟨oc25, od25, .func (PySem.W.fnOf "_law_take" "_law_take" (defArgs s_law_take) (defBody s_law_take) (defScope s_law_take) .none kV25 dc25 pm25 an25 cd25 ct25), sl25⟩) (c25 : PySem.W.codeIn K cd25 "_law_take" = true) (k25 : PySem.W.keepIn K (.ref f25) = true)
    {f26 : Addr} {od26 an26 : Option Addr} {sl26 : Array (Option Value)} {oc26 kV26 dc26 pm26 cd26 ct26 : Value} (a26 : PySem.W.nsIn K mainGlobals "_law_frac" = some (some (.ref f26))) (l26 : K.lookup f26 = some ⟨oc26, od26, .func (PySem.W.fnOf "_law_frac" "_law_frac" (defArgs s_law_frac) (defBody s_law_frac) (defScope s_law_frac) .none kV26 dc26 pm26 an26 cd26 ct26), sl26⟩) (c26 : PySem.W.codeIn K cd26 "_law_frac" = true) (k26 : PySem.W.keepIn K (.ref f26) = true)
    {f27 : Addr} {od27 an27 : Option Addr} {sl27 : Array (Option Value)} {oc27 kV27 dc27 pm27 cd27 ct27 : Value} (a27 : PySem.W.nsIn K mainGlobals "_law_plus" = some (some (.ref f27))) (l27 : K.lookup f27 = some ⟨oc27, od27, .func (PySem.W.fnOf "_law_plus" "_law_plus" (defArgs s_law_plus) (defBody s_law_plus) (defScope s_law_plus) .none kV27 dc27 pm27 an27 cd27 ct27), sl27⟩) (c27 : PySem.W.codeIn K cd27 "_law_plus" = true) (k27 : PySem.W.keepIn K (.ref f27) = true)
    {f28 : Addr} {od28 an28 : Option Addr} {sl28 : Array (Option Value)} {oc28 kV28 dc28 pm28 cd28 ct28 : Value} (a28 : PySem.W.nsIn K mainGlobals "_law_times" = some (some (.ref f28))) (l28 : K.lookup f28 = some ⟨oc28, od28, .func (PySem.W.fnOf "_law_times" "_law_times" (defArgs s_law_times) (defBody s_law_times) (defScope s_law_times) .none kV28 dc28 pm28 an28 cd28 ct28), sl28⟩) (c28 : PySem.W.codeIn K cd28 "_law_times" = true) (k28 : PySem.W.keepIn K (.ref f28) = true)
    {f29 : Addr} {od29 an29 : Option Addr} {sl29 : Array (Option Value)} {oc29 kV29 dc29 pm29 cd29 ct29 : Value} (a29 : PySem.W.nsIn K mainGlobals "_law_some" = some (some (.ref f29))) (l29 : K.lookup f29 = some ⟨oc29, od29, .func (PySem.W.fnOf "_law_some" "_law_some" (defArgs s_law_some) (defBody s_law_some) (defScope s_law_some) .none kV29 dc29 pm29 an29 cd29 ct29), sl29⟩) (c29 : PySem.W.codeIn K cd29 "_law_some" = true) (k29 : PySem.W.keepIn K (.ref f29) = true)
    {f30 : Addr} {od30 an30 : Option Addr} {sl30 : Array (Option Value)} {oc30 kV30 dc30 pm30 cd30 ct30 : Value} (a30 : PySem.W.nsIn K mainGlobals "_law_weight" = some (some (.ref f30))) (l30 : K.lookup f30 = some ⟨oc30, od30, .func (PySem.W.fnOf "_law_weight" "_law_weight" (defArgs s_law_weight) (defBody s_law_weight) (defScope s_law_weight) .none kV30 dc30 pm30 an30 cd30 ct30), sl30⟩) (c30 : PySem.W.codeIn K cd30 "_law_weight" = true) (k30 : PySem.W.keepIn K (.ref f30) = true)
    {f31 : Addr} {od31 an31 : Option Addr} {sl31 : Array (Option Value)} {oc31 kV31 dc31 pm31 cd31 ct31 : Value} (a31 : PySem.W.nsIn K mainGlobals "_law_bounds" = some (some (.ref f31))) (l31 : K.lookup f31 = some ⟨oc31, od31, .func (PySem.W.fnOf "_law_bounds" "_law_bounds" (defArgs s_law_bounds) (defBody s_law_bounds) (defScope s_law_bounds) .none kV31 dc31 pm31 an31 cd31 ct31), sl31⟩) (c31 : PySem.W.codeIn K cd31 "_law_bounds" = true) (k31 : PySem.W.keepIn K (.ref f31) = true)
    {f32 : Addr} {od32 an32 : Option Addr} {sl32 : Array (Option Value)} {oc32 kV32 dc32 pm32 cd32 ct32 : Value} (a32 : PySem.W.nsIn K mainGlobals "_law_plan" = some (some (.ref f32))) (l32 : K.lookup f32 = some ⟨oc32, od32, .func (PySem.W.fnOf "_law_plan" "_law_plan" (defArgs s_law_plan) (defBody s_law_plan) (defScope s_law_plan) .none kV32 dc32 pm32 an32 cd32 ct32), sl32⟩) (c32 : PySem.W.codeIn K cd32 "_law_plan" = true) (k32 : PySem.W.keepIn K (.ref f32) = true)
    {f33 : Addr} {od33 an33 : Option Addr} {sl33 : Array (Option Value)} {oc33 kV33 dc33 pm33 cd33 ct33 : Value} (a33 : PySem.W.nsIn K mainGlobals "_law_made" = some (some (.ref f33))) (l33 : K.lookup f33 = some ⟨oc33, od33, .func (PySem.W.fnOf "_law_made" "_law_made" (defArgs s_law_made) (defBody s_law_made) (defScope s_law_made) .none kV33 dc33 pm33 an33 cd33 ct33), sl33⟩) (c33 : PySem.W.codeIn K cd33 "_law_made" = true) (k33 : PySem.W.keepIn K (.ref f33) = true)
    {f34 : Addr} {od34 an34 : Option Addr} {sl34 : Array (Option Value)} {oc34 kV34 dc34 pm34 cd34 ct34 : Value} (a34 : PySem.W.nsIn K mainGlobals "_law_told" = some (some (.ref f34))) (l34 : K.lookup f34 = some ⟨oc34, od34, .func (PySem.W.fnOf "_law_told" "_law_told" (defArgs s_law_told) (defBody s_law_told) (defScope s_law_told) .none kV34 dc34 pm34 an34 cd34 ct34), sl34⟩) (c34 : PySem.W.codeIn K cd34 "_law_told" = true) (k34 : PySem.W.keepIn K (.ref f34) = true)
    {f35 : Addr} {od35 an35 : Option Addr} {sl35 : Array (Option Value)} {oc35 kV35 dc35 pm35 cd35 ct35 : Value} (a35 : PySem.W.nsIn K mainGlobals "_law_other" = some (some (.ref f35))) (l35 : K.lookup f35 = some ⟨oc35, od35, .func (PySem.W.fnOf "_law_other" "_law_other" (defArgs s_law_other) (defBody s_law_other) (defScope s_law_other) .none kV35 dc35 pm35 an35 cd35 ct35), sl35⟩) (c35 : PySem.W.codeIn K cd35 "_law_other" = true) (k35 : PySem.W.keepIn K (.ref f35) = true)
    {f36 : Addr} {od36 an36 : Option Addr} {sl36 : Array (Option Value)} {oc36 kV36 dc36 pm36 cd36 ct36 : Value} (a36 : PySem.W.nsIn K mainGlobals "law" = some (some (.ref f36))) (l36 : K.lookup f36 = some ⟨oc36, od36, .func (PySem.W.fnOf "law" "law" (defArgs s_law) (defBody s_law) (defScope s_law) .none kV36 dc36 pm36 an36 cd36 ct36), sl36⟩) (c36 : PySem.W.codeIn K cd36 "law" = true) (k36 : PySem.W.keepIn K (.ref f36) = true)
    (z_len : PySem.W.nsIn K mainGlobals "len" = some none)
    (z_abs : PySem.W.nsIn K mainGlobals "abs" = some none)
    (z_isinstance : PySem.W.nsIn K mainGlobals "isinstance" = some none)
    (z_tuple : PySem.W.nsIn K mainGlobals "tuple" = some none)
    (z_list : PySem.W.nsIn K mainGlobals "list" = some none)
    (z_int : PySem.W.nsIn K mainGlobals "int" = some none)
    (z_bool : PySem.W.nsIn K mainGlobals "bool" = some none)
    (z_str : PySem.W.nsIn K mainGlobals "str" = some none)
    (z_range : PySem.W.nsIn K mainGlobals "range" = some none)
    (z_zip : PySem.W.nsIn K mainGlobals "zip" = some none)
    (z_all : PySem.W.nsIn K mainGlobals "all" = some none)
    (z_any : PySem.W.nsIn K mainGlobals "any" = some none)
    (z_ValueError : PySem.W.nsIn K mainGlobals "ValueError" = some none)
    (z_enumerate : PySem.W.nsIn K mainGlobals "enumerate" = some none)
    (z_sum : PySem.W.nsIn K mainGlobals "sum" = some none)
    (z_min : PySem.W.nsIn K mainGlobals "min" = some none)
    (z_max : PySem.W.nsIn K mainGlobals "max" = some none)
    (z_sorted : PySem.W.nsIn K mainGlobals "sorted" = some none)
    (z_reversed : PySem.W.nsIn K mainGlobals "reversed" = some none)
    (z_dict : PySem.W.nsIn K mainGlobals "dict" = some none)
    {c_ZERO : Addr} {od_ZERO : Option Addr} {sl_ZERO : Array (Option Value)} {n_ZERO : Nat} {t0_ZERO t1_ZERO : Tok} (b_ZERO : PySem.W.nsIn K mainGlobals "ZERO" = some (some (.ref c_ZERO))) (m_ZERO : K.lookup c_ZERO = some ⟨.type "tuple", od_ZERO, .seq #[.int 0 t0_ZERO, .int 1 t1_ZERO] n_ZERO, sl_ZERO⟩)
    {c_ONE : Addr} {od_ONE : Option Addr} {sl_ONE : Array (Option Value)} {n_ONE : Nat} {t0_ONE t1_ONE : Tok} (b_ONE : PySem.W.nsIn K mainGlobals "ONE" = some (some (.ref c_ONE))) (m_ONE : K.lookup c_ONE = some ⟨.type "tuple", od_ONE, .seq #[.int 1 t0_ONE, .int 1 t1_ONE] n_ONE, sl_ONE⟩)
    {C_NoChoice : Addr} (e_NoChoice : PySem.W.nsIn K mainGlobals "NoChoice" = some (some (.ref C_NoChoice))) (q_NoChoice : PySem.W.excIn K C_NoChoice mroVE "ValueError.__new__" = true) (x0_NoChoice : PySem.W.findIn K (.ref C_NoChoice) "__getattribute__" = some (some (.builtin "BaseException.__getattribute__"))) (x1_NoChoice : PySem.W.findIn K (.ref C_NoChoice) "__getattr__" = some none) (x2_NoChoice : PySem.W.findIn K (.ref C_NoChoice) "__class__" = some (some (.builtin "object.__class__"))) (x3_NoChoice : PySem.W.specialIn K (.builtin "object.__class__") "__get__" = some (some (.builtin "getset_descriptor.__get__"))) (x4_NoChoice : PySem.W.takesIn K (.builtin "object.__class__") = some true) (x5_NoChoice : PySem.W.mroIn K C_NoChoice (.type "object") = some true) (x6_NoChoice : PySem.W.mroIn K C_NoChoice (.type "BaseException") = some true) (x7_NoChoice : PySem.W.typeIn K (.ref C_NoChoice) = some (.type "type")) (x8_NoChoice : PySem.W.subIn K (.ref C_NoChoice) (.type "BaseException") = some true)
    (s_NoChoice_NoChoice : PySem.W.subIn K (.ref C_NoChoice) (.ref C_NoChoice) = some true)
    (s_NoChoice_ValueError : PySem.W.subIn K (.ref C_NoChoice) (.type "ValueError") = some true)
    : ∃ fd : FuncData, (∀ (s : Shared) (v : Value), BindsTo s fd ⟨[v], []⟩ [("script", v)]) ∧ ∀ base : Heap, K.In base → base.Ns mainGlobals mg → FnOk l.prog w K mg base CX0 9 fa fd ["script"] (spLaw K) := by
  have e := hfa.symm.trans (PySem.W.mg_of X G a36)
  cases e
  have B : Bl mg := ⟨PySem.W.mg_none_of X G z_len, PySem.W.mg_none_of X G z_abs, PySem.W.mg_none_of X G z_isinstance, PySem.W.mg_none_of X G z_tuple, PySem.W.mg_none_of X G z_list, PySem.W.mg_none_of X G z_int, PySem.W.mg_none_of X G z_bool, PySem.W.mg_none_of X G z_str, PySem.W.mg_none_of X G z_range, PySem.W.mg_none_of X G z_zip, PySem.W.mg_none_of X G z_all, PySem.W.mg_none_of X G z_any, PySem.W.mg_none_of X G z_ValueError⟩
  have B2 : Bl2 mg := ⟨B, PySem.W.mg_none_of X G z_enumerate, PySem.W.mg_none_of X G z_sum, PySem.W.mg_none_of X G z_min, PySem.W.mg_none_of X G z_max, PySem.W.mg_none_of X G z_sorted, PySem.W.mg_none_of X G z_reversed, PySem.W.mg_none_of X G z_dict⟩
  have C_ZERO : Zero4 K mg := Zero4.of (PySem.W.mg_of X G b_ZERO) m_ZERO
  have C_ONE : One4 K mg := One4.of (PySem.W.mg_of X G b_ONE) m_ONE
  have XC_NoChoice : ExC K mg "NoChoice" := ExC.of (PySem.W.mg_of X G e_NoChoice) q_NoChoice ⟨x0_NoChoice, x1_NoChoice, x2_NoChoice, x3_NoChoice, x4_NoChoice, x5_NoChoice, x6_NoChoice, x7_NoChoice, x8_NoChoice⟩
  have Z : Exs K mg := ⟨XC_NoChoice, by simp only [cOf_of (PySem.W.mg_of X G e_NoChoice)]; exact s_NoChoice_NoChoice, by simp only [cOf_of (PySem.W.mg_of X G e_NoChoice)]; exact s_NoChoice_ValueError⟩
  have d_common_divisor : Def K mg "common_divisor" s_common_divisor ["one", "other"] := ⟨_, _, fun_mk (st := s_common_divisor) l0 c0 k0, (fun_mk (st := s_common_divisor) l0 c0 k0).binds (ps := ["one", "other"]) fun _ _ _ _ _ _ us hl => by obtain ⟨_, _, rfl⟩ := len2 hl; rfl, PySem.W.mg_of X G a0⟩
  have d_fraction : Def K mg "fraction" s_fraction ["top", "bottom"] := ⟨_, _, fun_mk (st := s_fraction) l1 c1 k1, (fun_mk (st := s_fraction) l1 c1 k1).binds (ps := ["top", "bottom"]) fun _ _ _ _ _ _ us hl => by obtain ⟨_, _, rfl⟩ := len2 hl; rfl, PySem.W.mg_of X G a1⟩
  have d_plus : Def K mg "plus" s_plus ["q", "r"] := ⟨_, _, fun_mk (st := s_plus) l2 c2 k2, (fun_mk (st := s_plus) l2 c2 k2).binds (ps := ["q", "r"]) fun _ _ _ _ _ _ us hl => by obtain ⟨_, _, rfl⟩ := len2 hl; rfl, PySem.W.mg_of X G a2⟩
  have d_opposite : Def K mg "opposite" s_opposite ["q"] := ⟨_, _, fun_mk (st := s_opposite) l3 c3 k3, (fun_mk (st := s_opposite) l3 c3 k3).binds (ps := ["q"]) fun _ _ _ _ _ _ us hl => by obtain ⟨_, rfl⟩ := len1 hl; rfl, PySem.W.mg_of X G a3⟩
  have d_times : Def K mg "times" s_times ["q", "r"] := ⟨_, _, fun_mk (st := s_times) l4 c4 k4, (fun_mk (st := s_times) l4 c4 k4).binds (ps := ["q", "r"]) fun _ _ _ _ _ _ us hl => by obtain ⟨_, _, rfl⟩ := len2 hl; rfl, PySem.W.mg_of X G a4⟩
  have d_over : Def K mg "over" s_over ["q", "r"] := ⟨_, _, fun_mk (st := s_over) l5 c5 k5, (fun_mk (st := s_over) l5 c5 k5).binds (ps := ["q", "r"]) fun _ _ _ _ _ _ us hl => by obtain ⟨_, _, rfl⟩ := len2 hl; rfl, PySem.W.mg_of X G a5⟩
  have d_below : Def K mg "below" s_below ["q", "r"] := ⟨_, _, fun_mk (st := s_below) l6 c6 k6, (fun_mk (st := s_below) l6 c6 k6).binds (ps := ["q", "r"]) fun _ _ _ _ _ _ us hl => by obtain ⟨_, _, rfl⟩ := len2 hl; rfl, PySem.W.mg_of X G a6⟩
  have d_copied_rows : Def K mg "copied_rows" s_copied_rows ["rows"] := ⟨_, _, fun_mk (st := s_copied_rows) l7 c7 k7, (fun_mk (st := s_copied_rows) l7 c7 k7).binds (ps := ["rows"]) fun _ _ _ _ _ _ us hl => by obtain ⟨_, rfl⟩ := len1 hl; rfl, PySem.W.mg_of X G a7⟩
  have d_weighed_sum : Def K mg "weighed_sum" s_weighed_sum ["factors", "told"] := ⟨_, _, fun_mk (st := s_weighed_sum) l8 c8 k8, (fun_mk (st := s_weighed_sum) l8 c8 k8).binds (ps := ["factors", "told"]) fun _ _ _ _ _ _ us hl => by obtain ⟨_, _, rfl⟩ := len2 hl; rfl, PySem.W.mg_of X G a8⟩
  have d_demand_worth : Def K mg "demand_worth" s_demand_worth ["demand", "made", "choice"] := ⟨_, _, fun_mk (st := s_demand_worth) l9 c9 k9, (fun_mk (st := s_demand_worth) l9 c9 k9).binds (ps := ["demand", "made", "choice"]) fun _ _ _ _ _ _ us hl => by obtain ⟨_, _, _, rfl⟩ := len3 hl; rfl, PySem.W.mg_of X G a9⟩
  have d_all_but_one_0 : Def K mg "all_but_one_0" s_all_but_one_0 ["length", "place", "q"] := ⟨_, _, fun_mk (st := s_all_but_one_0) l10 c10 k10, (fun_mk (st := s_all_but_one_0) l10 c10 k10).binds (ps := ["length", "place", "q"]) fun _ _ _ _ _ _ us hl => by obtain ⟨_, _, _, rfl⟩ := len3 hl; rfl, PySem.W.mg_of X G a10⟩
  have d_bound_rows : Def K mg "bound_rows" s_bound_rows ["shims"] := ⟨_, _, fun_mk (st := s_bound_rows) l11 c11 k11, (fun_mk (st := s_bound_rows) l11 c11 k11).binds (ps := ["shims"]) fun _ _ _ _ _ _ us hl => by obtain ⟨_, rfl⟩ := len1 hl; rfl, PySem.W.mg_of X G a11⟩
  have d_says_nothing : Def K mg "says_nothing" s_says_nothing ["row"] := ⟨_, _, fun_mk (st := s_says_nothing) l12 c12 k12, (fun_mk (st := s_says_nothing) l12 c12 k12).binds (ps := ["row"]) fun _ _ _ _ _ _ us hl => by obtain ⟨_, rfl⟩ := len1 hl; rfl, PySem.W.mg_of X G a12⟩
  have d_put_on : Def K mg "put_on" s_put_on ["rows"] := ⟨_, _, fun_mk (st := s_put_on) l13 c13 k13, (fun_mk (st := s_put_on) l13 c13 k13).binds (ps := ["rows"]) fun _ _ _ _ _ _ us hl => by obtain ⟨_, rfl⟩ := len1 hl; rfl, PySem.W.mg_of X G a13⟩
  have d_shim_rows : Def K mg "shim_rows" s_shim_rows ["plan"] := ⟨_, _, fun_mk (st := s_shim_rows) l14 c14 k14, (fun_mk (st := s_shim_rows) l14 c14 k14).binds (ps := ["plan"]) fun _ _ _ _ _ _ us hl => by obtain ⟨_, rfl⟩ := len1 hl; rfl, PySem.W.mg_of X G a14⟩
  have d_first_rows : Def K mg "first_rows" s_first_rows ["plan"] := ⟨_, _, fun_mk (st := s_first_rows) l15 c15 k15, (fun_mk (st := s_first_rows) l15 c15 k15).binds (ps := ["plan"]) fun _ _ _ _ _ _ us hl => by obtain ⟨_, rfl⟩ := len1 hl; rfl, PySem.W.mg_of X G a15⟩
  have d_mixed : Def K mg "mixed" s_mixed ["q", "one", "r", "other"] := ⟨_, _, fun_mk (st := s_mixed) l16 c16 k16, (fun_mk (st := s_mixed) l16 c16 k16).binds (ps := ["q", "one", "r", "other"]) fun _ _ _ _ _ _ us hl => by obtain ⟨_, _, _, _, rfl⟩ := len4 hl; rfl, PySem.W.mg_of X G a16⟩
  have d_put_together : Def K mg "put_together" s_put_together ["low", "high", "k"] := ⟨_, _, fun_mk (st := s_put_together) l17 c17 k17, (fun_mk (st := s_put_together) l17 c17 k17).binds (ps := ["low", "high", "k"]) fun _ _ _ _ _ _ us hl => by obtain ⟨_, _, _, rfl⟩ := len3 hl; rfl, PySem.W.mg_of X G a17⟩
  have d_taken_out : Def K mg "taken_out" s_taken_out ["rows", "k"] := ⟨_, _, fun_mk (st := s_taken_out) l18 c18 k18, (fun_mk (st := s_taken_out) l18 c18 k18).binds (ps := ["rows", "k"]) fun _ _ _ _ _ _ us hl => by obtain ⟨_, _, rfl⟩ := len2 hl; rfl, PySem.W.mg_of X G a18⟩
  have d_rule_of : Def K mg "rule_of" s_rule_of ["plan"] := ⟨_, _, fun_mk (st := s_rule_of) l19 c19 k19, (fun_mk (st := s_rule_of) l19 c19 k19).binds (ps := ["plan"]) fun _ _ _ _ _ _ us hl => by obtain ⟨_, rfl⟩ := len1 hl; rfl, PySem.W.mg_of X G a19⟩
  have d_least_let : Def K mg "least_let" s_least_let ["low", "k", "made", "others"] := ⟨_, _, fun_mk (st := s_least_let) l20 c20 k20, (fun_mk (st := s_least_let) l20 c20 k20).binds (ps := ["low", "k", "made", "others"]) fun _ _ _ _ _ _ us hl => by obtain ⟨_, _, _, _, rfl⟩ := len4 hl; rfl, PySem.W.mg_of X G a20⟩
  have d_greatest_of : Def K mg "greatest_of" s_greatest_of ["fractions"] := ⟨_, _, fun_mk (st := s_greatest_of) l21 c21 k21, (fun_mk (st := s_greatest_of) l21 c21 k21).binds (ps := ["fractions"]) fun _ _ _ _ _ _ us hl => by obtain ⟨_, rfl⟩ := len1 hl; rfl, PySem.W.mg_of X G a21⟩
  have d_chosen_by : Def K mg "chosen_by" s_chosen_by ["rule", "made"] := ⟨_, _, fun_mk (st := s_chosen_by) l22 c22 k22, (fun_mk (st := s_chosen_by) l22 c22 k22).binds (ps := ["rule", "made"]) fun _ _ _ _ _ _ us hl => by obtain ⟨_, _, rfl⟩ := len2 hl; rfl, PySem.W.mg_of X G a22⟩
  have d__law_cell : Def K mg "_law_cell" s_law_cell ["script", "k"] := ⟨_, _, fun_mk (st := s_law_cell) l23 c23 k23, (fun_mk (st := s_law_cell) l23 c23 k23).binds (ps := ["script", "k"]) fun _ _ _ _ _ _ us hl => by obtain ⟨_, _, rfl⟩ := len2 hl; rfl, PySem.W.mg_of X G a23⟩
  have d__law_state : Def K mg "_law_state" s_law_state ["script", "k"] := ⟨_, _, fun_mk (st := s_law_state) l24 c24 k24, (fun_mk (st := s_law_state) l24 c24 k24).binds (ps := ["script", "k"]) fun _ _ _ _ _ _ us hl => by obtain ⟨_, _, rfl⟩ := len2 hl; rfl, PySem.W.mg_of X G a24⟩
  have d__law_take : Def K mg "_law_take" s_law_take ["state", "many"] := ⟨_, _, fun_mk (st := s_law_take) l25 c25 k25, (fun_mk (st := s_law_take) l25 c25 k25).binds (ps := ["state", "many"]) fun _ _ _ _ _ _ us hl => by obtain ⟨_, _, rfl⟩ := len2 hl; rfl, PySem.W.mg_of X G a25⟩
  have d__law_frac : Def K mg "_law_frac" s_law_frac ["top", "bottom"] := ⟨_, _, fun_mk (st := s_law_frac) l26 c26 k26, (fun_mk (st := s_law_frac) l26 c26 k26).binds (ps := ["top", "bottom"]) fun _ _ _ _ _ _ us hl => by obtain ⟨_, _, rfl⟩ := len2 hl; rfl, PySem.W.mg_of X G a26⟩
  have d__law_plus : Def K mg "_law_plus" s_law_plus ["q", "r"] := ⟨_, _, fun_mk (st := s_law_plus) l27 c27 k27, (fun_mk (st := s_law_plus) l27 c27 k27).binds (ps := ["q", "r"]) fun _ _ _ _ _ _ us hl => by obtain ⟨_, _, rfl⟩ := len2 hl; rfl, PySem.W.mg_of X G a27⟩
  have d__law_times : Def K mg "_law_times" s_law_times ["q", "r"] := ⟨_, _, fun_mk (st := s_law_times) l28 c28 k28, (fun_mk (st := s_law_times) l28 c28 k28).binds (ps := ["q", "r"]) fun _ _ _ _ _ _ us hl => by obtain ⟨_, _, rfl⟩ := len2 hl; rfl, PySem.W.mg_of X G a28⟩
  have d__law_some : Def K mg "_law_some" s_law_some ["state"] := ⟨_, _, fun_mk (st := s_law_some) l29 c29 k29, (fun_mk (st := s_law_some) l29 c29 k29).binds (ps := ["state"]) fun _ _ _ _ _ _ us hl => by obtain ⟨_, rfl⟩ := len1 hl; rfl, PySem.W.mg_of X G a29⟩
  have d__law_weight : Def K mg "_law_weight" s_law_weight ["state"] := ⟨_, _, fun_mk (st := s_law_weight) l30 c30 k30, (fun_mk (st := s_law_weight) l30 c30 k30).binds (ps := ["state"]) fun _ _ _ _ _ _ us hl => by obtain ⟨_, rfl⟩ := len1 hl; rfl, PySem.W.mg_of X G a30⟩
  have d__law_bounds : Def K mg "_law_bounds" s_law_bounds ["state"] := ⟨_, _, fun_mk (st := s_law_bounds) l31 c31 k31, (fun_mk (st := s_law_bounds) l31 c31 k31).binds (ps := ["state"]) fun _ _ _ _ _ _ us hl => by obtain ⟨_, rfl⟩ := len1 hl; rfl, PySem.W.mg_of X G a31⟩
  have d__law_plan : Def K mg "_law_plan" s_law_plan ["script"] := ⟨_, _, fun_mk (st := s_law_plan) l32 c32 k32, (fun_mk (st := s_law_plan) l32 c32 k32).binds (ps := ["script"]) fun _ _ _ _ _ _ us hl => by obtain ⟨_, rfl⟩ := len1 hl; rfl, PySem.W.mg_of X G a32⟩
  have d__law_made : Def K mg "_law_made" s_law_made ["state", "plan"] := ⟨_, _, fun_mk (st := s_law_made) l33 c33 k33, (fun_mk (st := s_law_made) l33 c33 k33).binds (ps := ["state", "plan"]) fun _ _ _ _ _ _ us hl => by obtain ⟨_, _, rfl⟩ := len2 hl; rfl, PySem.W.mg_of X G a33⟩
  have d__law_told : Def K mg "_law_told" s_law_told ["rule", "made"] := ⟨_, _, fun_mk (st := s_law_told) l34 c34 k34, (fun_mk (st := s_law_told) l34 c34 k34).binds (ps := ["rule", "made"]) fun _ _ _ _ _ _ us hl => by obtain ⟨_, _, rfl⟩ := len2 hl; rfl, PySem.W.mg_of X G a34⟩
  have d__law_other : Def K mg "_law_other" s_law_other ["plan", "cell"] := ⟨_, _, fun_mk (st := s_law_other) l35 c35 k35, (fun_mk (st := s_law_other) l35 c35 k35).binds (ps := ["plan", "cell"]) fun _ _ _ _ _ _ us hl => by obtain ⟨_, _, rfl⟩ := len2 hl; rfl, PySem.W.mg_of X G a35⟩
  have d_law : Def K mg "law" s_law ["script"] := ⟨_, _, fun_mk (st := s_law) l36 c36 k36, (fun_mk (st := s_law) l36 c36 k36).binds (ps := ["script"]) fun _ _ _ _ _ _ us hl => by obtain ⟨_, rfl⟩ := len1 hl; rfl, PySem.W.mg_of X G a36⟩
  refine ⟨PySem.W.fnOf "law" "law" (defArgs s_law) (defBody s_law) (defScope s_law) .none kV36 dc36 pm36 an36 cd36 ct36, fun s v => .of_eq rfl, fun base _ _ => ?_⟩
  have h_common_divisor := M.h_common_divisor (P := l.prog) (w := w) (base := base) B d_common_divisor 
  have h_opposite := M.h_opposite (P := l.prog) (w := w) (base := base) B d_opposite 
  have h_below := M.h_below (P := l.prog) (w := w) (base := base) B d_below 
  have h_copied_rows := M.h_copied_rows (P := l.prog) (w := w) (base := base) B d_copied_rows 
  have h_all_but_one_0 := M.h_all_but_one_0 (P := l.prog) (w := w) (base := base) B d_all_but_one_0  (C_ZERO := C_ZERO)
  have h__law_cell := M.h__law_cell (P := l.prog) (w := w) (base := base) B d__law_cell 
  have h__law_take := M.h__law_take (P := l.prog) (w := w) (base := base) B d__law_take 
  have h__law_frac := M.h__law_frac (P := l.prog) (w := w) (base := base) B d__law_frac 
  have h_fraction := M.h_fraction (P := l.prog) (w := w) (base := base) B d_fraction (F_common_divisor := h_common_divisor)
  have h_bound_rows := M.h_bound_rows (P := l.prog) (w := w) (base := base) B2 d_bound_rows (F_all_but_one_0 := h_all_but_one_0) (F_opposite := h_opposite) (C_ONE := C_ONE)
  have h_says_nothing := M.h_says_nothing (P := l.prog) (w := w) (base := base) B d_says_nothing (F_below := h_below) (C_ZERO := C_ZERO)
  have h_greatest_of := M.h_greatest_of (P := l.prog) (w := w) (base := base) B d_greatest_of (F_below := h_below)
  have h__law_state := M.h__law_state (P := l.prog) (w := w) (base := base) B d__law_state (F__law_cell := h__law_cell)
  have h__law_plus := M.h__law_plus (P := l.prog) (w := w) (base := base) B d__law_plus (F__law_frac := h__law_frac)
  have h__law_times := M.h__law_times (P := l.prog) (w := w) (base := base) B d__law_times (F__law_frac := h__law_frac)
  have h__law_some := M.h__law_some (P := l.prog) (w := w) (base := base) B d__law_some (F__law_take := h__law_take) (F__law_frac := h__law_frac)
  have h__law_weight := M.h__law_weight (P := l.prog) (w := w) (base := base) B d__law_weight (F__law_take := h__law_take) (F__law_frac := h__law_frac)
  have h_plus := M.h_plus (P := l.prog) (w := w) (base := base) B d_plus (F_fraction := h_fraction)
  have h_times := M.h_times (P := l.prog) (w := w) (base := base) B d_times (F_fraction := h_fraction)
  have h_over := M.h_over (P := l.prog) (w := w) (base := base) B d_over (F_fraction := h_fraction)
  have h_put_on := M.h_put_on (P := l.prog) (w := w) (base := base) B d_put_on (F_says_nothing := h_says_nothing)
  have h_shim_rows := M.h_shim_rows (P := l.prog) (w := w) (base := base) B d_shim_rows (F_bound_rows := h_bound_rows) (C_ZERO := C_ZERO)
  have h__law_bounds := M.h__law_bounds (P := l.prog) (w := w) (base := base) B d__law_bounds (F__law_some := h__law_some) (F__law_plus := h__law_plus) (F__law_frac := h__law_frac) (F__law_take := h__law_take)
  have h__law_made := M.h__law_made (P := l.prog) (w := w) (base := base) B d__law_made (F__law_frac := h__law_frac) (F__law_plus := h__law_plus) (F__law_take := h__law_take) (F__law_times := h__law_times) (F__law_some := h__law_some)
  have h__law_other := M.h__law_other (P := l.prog) (w := w) (base := base) B2 d__law_other (F__law_frac := h__law_frac) (F__law_times := h__law_times)
  have h_weighed_sum := M.h_weighed_sum (P := l.prog) (w := w) (base := base) B d_weighed_sum (F_plus := h_plus) (F_times := h_times) (C_ZERO := C_ZERO)
  have h_first_rows := M.h_first_rows (P := l.prog) (w := w) (base := base) B d_first_rows (F_put_on := h_put_on) (F_copied_rows := h_copied_rows) (F_shim_rows := h_shim_rows)
  have h_mixed := M.h_mixed (P := l.prog) (w := w) (base := base) B d_mixed (F_plus := h_plus) (F_times := h_times)
  have h__law_plan := M.h__law_plan (P := l.prog) (w := w) (base := base) B d__law_plan (F__law_cell := h__law_cell) (F__law_bounds := h__law_bounds) (F__law_state := h__law_state) (F__law_weight := h__law_weight) (F__law_some := h__law_some)
  have h_demand_worth := M.h_demand_worth (P := l.prog) (w := w) (base := base) B d_demand_worth (F_plus := h_plus) (F_weighed_sum := h_weighed_sum)
  have h_put_together := M.h_put_together (P := l.prog) (w := w) (base := base) B d_put_together (F_opposite := h_opposite) (F_mixed := h_mixed) (F_plus := h_plus) (F_times := h_times)
  have h_taken_out := M.h_taken_out (P := l.prog) (w := w) (base := base) B d_taken_out (F_put_on := h_put_on) (F_below := h_below) (F_put_together := h_put_together) (C_ZERO := C_ZERO)
  have h_least_let := M.h_least_let (P := l.prog) (w := w) (base := base) B d_least_let (F_over := h_over) (F_opposite := h_opposite) (F_demand_worth := h_demand_worth)
  have h_rule_of := M.h_rule_of (P := l.prog) (w := w) (base := base) B2 d_rule_of (F_first_rows := h_first_rows) (F_taken_out := h_taken_out)
  have h_chosen_by := M.h_chosen_by (P := l.prog) (w := w) (base := base) B d_chosen_by (F_below := h_below) (F_greatest_of := h_greatest_of) (F_demand_worth := h_demand_worth) (F_least_let := h_least_let) (C_ZERO := C_ZERO) (XC := XC_NoChoice)
  have h__law_told := M.h__law_told (P := l.prog) (w := w) (base := base) B d__law_told (F_chosen_by := h_chosen_by) (XC_NoChoice := XC_NoChoice) (HX := exm_sub Z.NoChoice.c Z.s_NoChoice_NoChoice)
  exact M.fn_law (P := l.prog) (w := w) (base := base) B2 (fun_mk (st := s_law) l36 c36 k36) (F__law_plan := h__law_plan) (F_rule_of := h_rule_of) (F__law_cell := h__law_cell) (F__law_other := h__law_other) (F__law_made := h__law_made) (F__law_frac := h__law_frac) (F__law_state := h__law_state) (F__law_told := h__law_told)
private theorem walk {l : PySem.W.OpenLaw} {q : Program} {loose : List Str} {XP : (Str → Option Value) → Heap → Prop} {YP : World → Heap → Prop} {d : DefRec} {K : Params → PySem.W.Frag} (hn : l.most = some 63) (hdf : d.params.defaults = [])
    (hY : ∀ (w : World) (h : Heap), YP w h → (K w.params).In h)
    (F : ∀ (w : World) (mg : Str → Option Value) (fa : Addr) (h : Heap), (K w.params).In h → h.Ns mainGlobals mg → mg d.name = some (.ref fa) →
      ∃ fd : FuncData, (∀ (s : Shared) (u : Value), BindsTo s fd ⟨[u], []⟩ [("script", u)]) ∧ ∀ base : Heap, (K w.params).In base → base.Ns mainGlobals mg → FnOk l.prog w (K w.params) mg base CX0 9 fa fd ["script"] (spLaw (K w.params))) :
    PySem.W.WalkO q loose XP YP l.row.toRowW d [] (fun f vs => PySem.call f vs) :=
  L2.walk_of (n := 63) (k := 9) (x := "script") (CX := fun _ => CX0) (sp := fun w => spLaw (K w.params)) hn (by decide) hdf ⟨rfl, by decide, by decide⟩ hY F (fun _ _ a ns hl _ hS => ⟨a, ns, rfl, hS, hl, fun _ => rfl⟩) fun _ _ _ _ _ z => z
end M
-- the head would lay twins of the heap, of trees and of texts here; with their names taken it lays none and goes on without them, and the compiled file stays small
theorem PySem.W.Fast.tw12744874818606956420 : True := trivial
theorem PySem.W.Fast.tw7859330335658342874 : True := trivial
noncomputable def PySem.W.Fast.tw8333018928555824752 : PySem.Program := PySem.Challenge.pw_shimright_k23_whole_demands_in_any_order
theorem PySem.W.Fast.te8333018928555824752 : PySem.Challenge.pw_shimright_k23_whole_demands_in_any_order = PySem.W.Fast.tw8333018928555824752 := rfl
theorem PySem.W.Fast.tw4289071471209823348 : True := trivial
theorem PySem.W.Fast.tw4616577929649814408 : True := trivial
theorem PySem.W.Fast.tw15492316146472478051 : True := trivial
theorem PySem.W.Fast.tw11447176660260592007 : True := trivial
theorem PySem.W.Fast.tw2249966457292658002 : True := trivial
theorem PySem.W.Fast.tw9020721942405590752 : True := trivial
theorem PySem.W.Fast.tw6393629537255310023 : True := trivial
theorem PySem.W.Fast.tw15648484383010604741 : True := trivial
theorem PySem.W.Fast.te3559596284460439511 : True := trivial
namespace M
end M
open PySem PySem.W PyProof.Rows
set_option maxRecDepth 100000 in
set_option maxHeartbeats 0 in
theorem PySem.Challenge.cw_shimright_k23_whole_demands_in_any_order_holds : PySem.Challenge.rw_shimright_k23_whole_demands_in_any_order.Holds := by
  w_on; o_law; k_head; (case hw => w_witness2)
  k_fill
  refine M.walk (l := PySem.Challenge.rw_shimright_k23_whole_demands_in_any_order) rfl rfl (fun w h Y => PySem.W.kIn_of Y) ?F
  case F =>
    intro w mg fa h KX G hmg
    refine' M.all_mk KX G hmg ?a0 ?l0 ?c0 ?k0 ?a1 ?l1 ?c1 ?k1 ?a2 ?l2 ?c2 ?k2 ?a3 ?l3 ?c3 ?k3 ?a4 ?l4 ?c4 ?k4 ?a5 ?l5 ?c5 ?k5 ?a6 ?l6 ?c6 ?k6 ?a7 ?l7 ?c7 ?k7 ?a8 ?l8 ?c8 ?k8 ?a9 ?l9 ?c9 ?k9 ?a10 ?l10 ?c10 ?k10 ?a11 ?l11 ?c11 ?k11 ?a12 ?l12 ?c12 ?k12 ?a13 ?l13 ?c13 ?k13 ?a14 ?l14 ?c14 ?k14 ?a15 ?l15 ?c15 ?k15 ?a16 ?l16 ?c16 ?k16 ?a17 ?l17 ?c17 ?k17 ?a18 ?l18 ?c18 ?k18 ?a19 ?l19 ?c19 ?k19 ?a20 ?l20 ?c20 ?k20 ?a21 ?l21 ?c21 ?k21 ?a22 ?l22 ?c22 ?k22 ?a23 ?l23 ?c23 ?k23 ?a24 ?l24 ?c24 ?k24 ?a25 ?l25 ?c25 ?k25 ?a26 ?l26 ?c26 ?k26 ?a27 ?l27 ?c27 ?k27 ?a28 ?l28 ?c28 ?k28 ?a29 ?l29 ?c29 ?k29 ?a30 ?l30 ?c30 ?k30 ?a31 ?l31 ?c31 ?k31 ?a32 ?l32 ?c32 ?k32 ?a33 ?l33 ?c33 ?k33 ?a34 ?l34 ?c34 ?k34 ?a35 ?l35 ?c35 ?k35 ?a36 ?l36 ?c36 ?k36 ?z_len ?z_abs ?z_isinstance ?z_tuple ?z_list ?z_int ?z_bool ?z_str ?z_range ?z_zip ?z_all ?z_any ?z_ValueError ?z_enumerate ?z_sum ?z_min ?z_max ?z_sorted ?z_reversed ?z_dict ?b_ZERO ?m_ZERO ?b_ONE ?m_ONE ?e_NoChoice ?q_NoChoice ?x0_NoChoice ?x1_NoChoice ?x2_NoChoice ?x3_NoChoice ?x4_NoChoice ?x5_NoChoice ?x6_NoChoice ?x7_NoChoice ?x8_NoChoice ?s_NoChoice_NoChoice ?s_NoChoice_ValueError
    (case a0 => k_is)
    (case l0 => k_is)
    (case c0 => k_is)
    (case k0 => k_is)
    (case a1 => k_is)
    (case l1 => k_is)
    (case c1 => k_is)
    (case k1 => k_is)
    (case a2 => k_is)
    (case l2 => k_is)
    (case c2 => k_is)
    (case k2 => k_is)
    (case a3 => k_is)
    (case l3 => k_is)
    (case c3 => k_is)
    (case k3 => k_is)
    (case a4 => k_is)
    (case l4 => k_is)
    (case c4 => k_is)
    (case k4 => k_is)
    (case a5 => k_is)
    (case l5 => k_is)
    (case c5 => k_is)
    (case k5 => k_is)
    (case a6 => k_is)
    (case l6 => k_is)
    (case c6 => k_is)
    (case k6 => k_is)
    (case a7 => k_is)
    (case l7 => k_is)
    (case c7 => k_is)
    (case k7 => k_is)
    (case a8 => k_is)
    (case l8 => k_is)
    (case c8 => k_is)
    (case k8 => k_is)
    (case a9 => k_is)
    (case l9 => k_is)
    (case c9 => k_is)
    (case k9 => k_is)
    (case a10 => k_is)
    (case l10 => k_is)
    (case c10 => k_is)
    (case k10 => k_is)
    (case a11 => k_is)
    (case l11 => k_is)
    (case c11 => k_is)
    (case k11 => k_is)
    (case a12 => k_is)
    (case l12 => k_is)
    (case c12 => k_is)
    (case k12 => k_is)
    (case a13 => k_is)
    (case l13 => k_is)
    (case c13 => k_is)
    (case k13 => k_is)
    (case a14 => k_is)
    (case l14 => k_is)
    (case c14 => k_is)
    (case k14 => k_is)
    (case a15 => k_is)
    (case l15 => k_is)
    (case c15 => k_is)
    (case k15 => k_is)
    (case a16 => k_is)
    (case l16 => k_is)
    (case c16 => k_is)
    (case k16 => k_is)
    (case a17 => k_is)
    (case l17 => k_is)
    (case c17 => k_is)
    (case k17 => k_is)
    (case a18 => k_is)
    (case l18 => k_is)
    (case c18 => k_is)
    (case k18 => k_is)
    (case a19 => k_is)
    (case l19 => k_is)
    (case c19 => k_is)
    (case k19 => k_is)
    (case a20 => k_is)
    (case l20 => k_is)
    (case c20 => k_is)
    (case k20 => k_is)
    (case a21 => k_is)
    (case l21 => k_is)
    (case c21 => k_is)
    (case k21 => k_is)
    (case a22 => k_is)
    (case l22 => k_is)
    (case c22 => k_is)
    (case k22 => k_is)
    (case a23 => k_is)
    (case l23 => k_is)
    (case c23 => k_is)
    (case k23 => k_is)
    (case a24 => k_is)
    (case l24 => k_is)
    (case c24 => k_is)
    (case k24 => k_is)
    (case a25 => k_is)
    (case l25 => k_is)
    (case c25 => k_is)
    (case k25 => k_is)
    (case a26 => k_is)
    (case l26 => k_is)
    (case c26 => k_is)
    (case k26 => k_is)
    (case a27 => k_is)
    (case l27 => k_is)
    (case c27 => k_is)
    (case k27 => k_is)
    (case a28 => k_is)
    (case l28 => k_is)
    (case c28 => k_is)
    (case k28 => k_is)
    (case a29 => k_is)
    (case l29 => k_is)
    (case c29 => k_is)
    (case k29 => k_is)
    (case a30 => k_is)
    (case l30 => k_is)
    (case c30 => k_is)
    (case k30 => k_is)
    (case a31 => k_is)
    (case l31 => k_is)
    (case c31 => k_is)
    (case k31 => k_is)
    (case a32 => k_is)
    (case l32 => k_is)
    (case c32 => k_is)
    (case k32 => k_is)
    (case a33 => k_is)
    (case l33 => k_is)
    (case c33 => k_is)
    (case k33 => k_is)
    (case a34 => k_is)
    (case l34 => k_is)
    (case c34 => k_is)
    (case k34 => k_is)
    (case a35 => k_is)
    (case l35 => k_is)
    (case c35 => k_is)
    (case k35 => k_is)
    (case a36 => k_is)
    (case l36 => k_is)
    (case c36 => k_is)
    (case k36 => k_is)
    (case z_len => k_is)
    (case z_abs => k_is)
    (case z_isinstance => k_is)
    (case z_tuple => k_is)
    (case z_list => k_is)
    (case z_int => k_is)
    (case z_bool => k_is)
    (case z_str => k_is)
    (case z_range => k_is)
    (case z_zip => k_is)
    (case z_all => k_is)
    (case z_any => k_is)
    (case z_ValueError => k_is)
    (case z_enumerate => k_is)
    (case z_sum => k_is)
    (case z_min => k_is)
    (case z_max => k_is)
    (case z_sorted => k_is)
    (case z_reversed => k_is)
    (case z_dict => k_is)
    (case b_ZERO => k_is)
    (case m_ZERO => k_is)
    (case b_ONE => k_is)
    (case m_ONE => k_is)
    (case e_NoChoice => k_is)
    (case q_NoChoice => k_exc)
    (case x0_NoChoice => k_is)
    (case x1_NoChoice => k_is)
    (case x2_NoChoice => k_is)
    (case x3_NoChoice => k_is)
    (case x4_NoChoice => k_is)
    (case x5_NoChoice => k_is)
    (case x6_NoChoice => k_is)
    (case x7_NoChoice => k_is)
    (case x8_NoChoice => k_is)
    (case s_NoChoice_NoChoice => k_is)
    (case s_NoChoice_ValueError => k_is)
#print axioms PySem.Challenge.cw_shimright_k23_whole_demands_in_any_order_holds
