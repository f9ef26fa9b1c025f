import PyProof.Rows.All
import Wide.All
import OpenK.AllK
import Wide.FinOn
import Lean
import PyProof.EqAt
import PyProof.EqKinds
import PyProof.TupleCall
import PyProof.NeKinds
import KE.KLam
import KE.KMinKey
import PySem.Challenge.RW_shimright_k77_whole_texts_changed
set_option genSizeOf false
set_option genSizeOfSpec false
set_option bootstrap.genMatcherCode false
set_option compiler.extract_closed false
set_option Elab.async false
set_option linter.all false
set_option maxRecDepth 100000
namespace L2
private theorem e12 {α : Type} {A B : α → Prop} {R : Prop} (h : ∃ x, A x ∧ B x) (k : ∀ x, A x → B x → R) : R := h.elim fun x h => k x h.1 h.2
private theorem e22 {α β : Type} {A B : α → β → Prop} {R : Prop} (h : ∃ x y, A x y ∧ B x y) (k : ∀ x y, A x y → B x y → R) : R := h.elim fun x h => h.elim fun y h => k x y h.1 h.2
private theorem e23 {α β : Type} {A B C : α → β → Prop} {R : Prop} (h : ∃ x y, A x y ∧ B x y ∧ C x y) (k : ∀ x y, A x y → B x y → C x y → R) : R := h.elim fun x h => h.elim fun y h => k x y h.1 h.2.1 h.2.2
private theorem e24 {α β : Type} {A B C D : α → β → Prop} {R : Prop} (h : ∃ x y, A x y ∧ B x y ∧ C x y ∧ D x y) (k : ∀ x y, A x y → B x y → C x y → D x y → R) : R := h.elim fun x h => h.elim fun y h => k x y h.1 h.2.1 h.2.2.1 h.2.2.2
open PySem PySem.Spec PyProof.Rows
noncomputable abbrev Key := Sum Int Str
noncomputable def keyIs : Key → Value → Bool
  | .inl k, v => Value.isInt k v
  | .inr x, v => Value.isStrOf x v
noncomputable def keyH (w : World) : Key → Int
  | .inl k => hashInt k
  | .inr x => hashStr w x
private theorem keyIs_shape : ∀ {k : Key} {v : Value}, keyIs k v = true → (∃ i t, k = Sum.inl i ∧ v = Value.int i t) ∨ (∃ x t, k = Sum.inr x ∧ v = Value.str x t)
  | .inl i, v, h => by
    obtain ⟨t, e⟩ := Value.isInt_shape (k := i) (v := v) h
    exact .inl ⟨i, t, rfl, e⟩
  | .inr x, v, h => by
    obtain ⟨t, e⟩ := Value.isStrOf_shape (x := x) (v := v) h
    exact .inr ⟨x, t, rfl, e⟩
private theorem keyIs_int (i : Int) (t : Tok) : keyIs (.inl i) (.int i t) = true := by simp [keyIs, Value.isInt]
private theorem keyIs_str (x : Str) (t : Tok) : keyIs (.inr x) (.str x t) = true := by simp [keyIs, Value.isStrOf]
private theorem key_ll (a b : Int) : decide ((Sum.inl a : Key) = Sum.inl b) = (a == b) := by
  by_cases e : a = b
  · subst e; simp
  · have h : ¬ (Sum.inl a : Key) = Sum.inl b := fun q => e (Sum.inl.inj q)
    rw [decide_eq_false h]
    exact (beq_eq_false_iff_ne.mpr e).symm
private theorem key_rr (a b : Str) : decide ((Sum.inr a : Key) = Sum.inr b) = decide (a = b) := by
  by_cases e : a = b
  · subst e; simp
  · have h : ¬ (Sum.inr a : Key) = Sum.inr b := fun q => e (Sum.inr.inj q)
    rw [decide_eq_false h, decide_eq_false e]
private theorem key_lr (a : Int) (b : Str) : decide ((Sum.inl a : Key) = Sum.inr b) = false := decide_eq_false (fun q => nomatch q)
private theorem key_rl (a : Str) (b : Int) : decide ((Sum.inr a : Key) = Sum.inl b) = false := decide_eq_false (fun q => nomatch q)
noncomputable def mixKind (prog : Program) (w : World) : PySem.KeyKind prog w Key where
  is := keyIs
  hash := keyH w
  inj := fun v a b ha hb => by
    rcases keyIs_shape ha with ⟨i, t, rfl, rfl⟩ | ⟨x, t, rfl, rfl⟩
    · rcases keyIs_shape hb with ⟨j, u, rfl, e⟩ | ⟨y, u, rfl, e⟩
      · injection e with e1 _; rw [e1]
      · exact nomatch e
    · rcases keyIs_shape hb with ⟨j, u, rfl, e⟩ | ⟨y, u, rfl, e⟩
      · exact nomatch e
      · injection e with e1 _; rw [e1]
  byValue := fun k v h => by
    rcases keyIs_shape h with ⟨i, t, rfl, rfl⟩ | ⟨x, t, rfl, rfl⟩ <;> rfl
  pyHash := fun hv h => by
    rcases keyIs_shape hv with ⟨i, t, rfl, rfl⟩ | ⟨x, t, rfl, rfl⟩
    · exact wpAny_pyHash_int h
    · exact wpAny_pyHash_str h
  eqBool := fun hu hv h => by
    rcases keyIs_shape hu with ⟨i, t, rfl, rfl⟩ | ⟨x, t, rfl, rfl⟩
    · rcases keyIs_shape hv with ⟨j, u, rfl, rfl⟩ | ⟨y, u, rfl, rfl⟩
      · rw [key_ll] at h; exact wpAny_eqBool_int h
      · rw [key_lr] at h; exact SeqAt.EqAt.int_str i t y u _ _ _ _ h
    · rcases keyIs_shape hv with ⟨j, u, rfl, rfl⟩ | ⟨y, u, rfl, rfl⟩
      · rw [key_rl] at h; exact SeqAt.EqAt.str_int x t j u _ _ _ _ h
      · rw [key_rr] at h; exact wpAny_eqBool_str h
  «strs» := fun k x t v h => by
    rcases keyIs_shape h with ⟨i, u, rfl, e⟩ | ⟨y, u, rfl, e⟩
    · exact nomatch e
    · injection e with e1 _
      subst e1
      cases v <;> rfl
private theorem mixKind_int (prog : Program) (w : World) (i : Int) (t : Tok) : (mixKind prog w).is (.inl i) (.int i t) = true := keyIs_int i t
private theorem mixKind_str (prog : Program) (w : World) (x : Str) (t : Tok) : (mixKind prog w).is (.inr x) (.str x t) = true := keyIs_str x t
end L2
namespace L2
open PySem PySem.Spec PyProof.Rows
inductive V where
  | non | bl (b : Bool) | int (i : Int) | str (x : Str) | byt (b : Array UInt8) | flt (b : UInt64) | ref (a : Addr) | ty (n : String)
  deriving DecidableEq
noncomputable def RelV : V → Value → Prop
  | .non, u => u = Value.none
  | .bl b, u => u = Value.bool b
  | .int i, u => ∃ t, u = Value.int i t
  | .str x, u => ∃ t, u = Value.str x t
  | .byt b, u => ∃ t, u = Value.bytes b t
  | .flt b, u => ∃ t, u = Value.float b t
  | .ref a, u => u = Value.ref a
  | .ty n, u => u = Value.type n
noncomputable abbrev Vals : List V → List Value → Prop := Paired RelV
private theorem Vals.length {xs : List V} {us : List Value} (r : Vals xs us) : xs.length = us.length := Paired.length r
private theorem Vals.get : ∀ {xs : List V} {us : List Value} {i : Nat} {x : V}, Vals xs us → xs[i]? = some x → ∃ u, us[i]? = some u ∧ RelV x u
  | _, _, _, _, .nil, e => by simp at e
  | _, _, 0, _, .cons r _, e => by simp at e; subst e; exact ⟨_, rfl, r⟩
  | _, _, i + 1, x, .cons _ t, e => by
    obtain ⟨u, h1, h2⟩ := Vals.get (i := i) (x := x) t (by simpa using e)
    exact ⟨u, by simpa using h1, h2⟩
private theorem Vals.append : ∀ {xs ys : List V} {us ws : List Value}, Vals xs us → Vals ys ws → Vals (xs ++ ys) (us ++ ws)
  | _, _, _, _, .nil, s => s
  | _, _, _, _, .cons r t, s => .cons r (Vals.append t s)
private theorem Vals.take : ∀ {xs : List V} {us : List Value} (n : Nat), Vals xs us → Vals (xs.take n) (us.take n)
  | _, _, 0, _ => .nil
  | _, _, _ + 1, .nil => .nil
  | _, _, n + 1, .cons r t => .cons r (Vals.take n t)
private theorem Vals.drop : ∀ {xs : List V} {us : List Value} (n : Nat), Vals xs us → Vals (xs.drop n) (us.drop n)
  | _, _, 0, r => r
  | _, _, _ + 1, .nil => .nil
  | _, _, n + 1, .cons _ t => Vals.drop n t
noncomputable def RelO : Option V → Option Value → Prop
  | some v, some u => RelV v u
  | none, none => True
  | _, _ => False
noncomputable def KV {κ : Type} : List (κ × V) → List (κ × Value) → Prop := Paired fun (p : κ × V) (q : κ × Value) => p.1 = q.1 ∧ RelV p.2 q.2
noncomputable def kV : Key → V
  | .inl i => .int i
  | .inr x => .str x
inductive HO where
  | lst (xs : List V)
  | tup (xs : List V)
  | dK (kvs : List (Key × V)) | dT (kvs : List (List Key × V))
  | set (S : Int → Bool) (n : Nat)
  | ins (C dx : Addr) (fs : List (Str × V))
  | own (x : Addr)
  | xd (fs : List (Str × V))
  | met (f x : Addr)
  | rng (lo hi : Int)
  | frz (o : Obj) (u : HO)
  | tbl (ps : Array Value)
  | ext (φ : Heap → Prop)
noncomputable abbrev Hp := Addr → Option HO
noncomputable def upd (H : Hp) (a : Addr) (o : HO) : Hp := fun b => if b = a then some o else H b
private theorem upd_same {H : Hp} {a : Addr} {o : HO} : upd H a o a = some o := by unfold upd; rw [if_pos rfl]
private theorem upd_ne {H : Hp} {a b : Addr} {o : HO} (h : b ≠ a) : upd H a o b = H b := by unfold upd; rw [if_neg h]
private theorem ne_of {H : Hp} {a b : Addr} {o u : HO} (h : H a = some o) (h' : H b = some u) (d : o ≠ u) : a ≠ b := by
  intro e; subst e; rw [h] at h'; exact d (Option.some.inj h')
private theorem ne_of_none {H : Hp} {a b : Addr} {o : HO} (h : H a = some o) (h' : H b = none) : a ≠ b := by
  intro e; subst e; rw [h] at h'; cases h'
section
variable (P : Program) (w : World)
noncomputable def ObjOk (H : Hp) (h : Heap) (a : Addr) : HO → Prop
  | .lst xs => xs.length ≤ sizeLine ∧ ∃ (its : List Value) (n : Nat), Vals xs its ∧ h.get? a = some { cls := .type "list", data := .seq its.toArray n }
  | .tup xs => xs.length ≤ sizeLine ∧ ∃ its : List Value, Vals xs its ∧ IsTup h a its.toArray
  | .dK kvs => kvs.length ≤ sizeLine ∧ (a == sysModules) = false ∧ ∃ vs, KV kvs vs ∧ h.DictOf (mixKind P w) a vs
  | .dT kvs => kvs.length ≤ sizeLine ∧ (a == sysModules) = false ∧ ∃ xs : List (List Key × Addr × Value),
      Paired (fun (p : List Key × V) (q : List Key × Addr × Value) => p.1 = q.1 ∧ H q.2.1 = some (.tup (p.1.map kV)) ∧ RelV p.2 q.2.2) kvs xs ∧
      ∃ o es ep, h.get? a = some o ∧ o.ExactDict ∧ o.data = .dict es ep ∧ es.toList = xs.map (entryOfKey (tupleKind (mixKind P w))) ∧ (xs.map (·.1)).Nodup
  | .set S n => h.SetOf (intKind P w) a S n
  | .ins C dx fs => H dx = some (.own a) ∧ fs.length ≤ 1000 ∧ dx ≠ a ∧ h.get? a = some (PySem.W.instObj C dx) ∧
      ∃ mA, h.Ns1 dx mA ∧ (∀ f, RelO (fs.lookup f) (mA f)) ∧ PySem.Within mA (fs.map (·.1))
  | .own _ => ∃ o, h.get? a = some o
  | .xd fs => ∃ mA, h.Ns1 a mA ∧ ∀ f, RelO (fs.lookup f) (mA f)
  | .rng lo hi => ∃ t u v, h.get? a = some { cls := .type "range", data := .fields #[.int lo t, .int hi u, .int 1 v] }
  | .frz o u => h.get? a = some o ∧ ObjOk H h a u
  | .tbl ps => h.get? a = some { cls := .none, data := .fields ps }
  | .met f x => h.get? a = some (PySem.W.methodObj (.ref f) (.ref x))
  | .ext φ => φ h ∧ (∃ o, h.get? a = some o) ∧ ∀ h1 h2 : Heap, φ h1 → (∀ o, h1.get? a = some o → h2.get? a = some o) → φ h2
noncomputable def HOk (H : Hp) (h : Heap) : Prop := ∀ a o, H a = some o → ObjOk P w H h a o
end
section
variable {P : Program} {w : World} {H H' : Hp} {h h' : Heap} {a : Addr} {o : HO}
private theorem ObjOk.lt (x : ObjOk P w H h a o) : a < h.objs.size := by
  cases o with
  | lst xs => obtain ⟨_, _, _, _, e⟩ := x; exact Heap.lt_size e
  | tup xs => obtain ⟨_, _, _, p⟩ := x; exact p.lt
  | dK kvs => obtain ⟨_, _, _, _, o, _, _, e, _⟩ := x; exact Heap.lt_size e
  | dT kvs => obtain ⟨_, _, _, _, o, _, _, e, _⟩ := x; exact Heap.lt_size e
  | set S n => obtain ⟨o, _, _, _, e, _⟩ := x; exact Heap.lt_size e
  | ins C dx fs => obtain ⟨_, _, _, e, _⟩ := x; exact Heap.lt_size e
  | own y => obtain ⟨_, e⟩ := x; exact Heap.lt_size e
  | xd fs => obtain ⟨_, ⟨_, _, _, e, _⟩, _⟩ := x; exact Heap.lt_size e
  | rng lo hi => obtain ⟨_, _, _, e⟩ := x; exact Heap.lt_size e
  | frz ob u => obtain ⟨e, _⟩ := x; exact Heap.lt_size e
  | tbl ps => exact Heap.lt_size (show h.get? a = some _ from x)
  | met f y => exact Heap.lt_size (show h.get? a = some _ from x)
  | ext φ => obtain ⟨_, ⟨_, e⟩, _⟩ := x; exact Heap.lt_size e
private theorem Paired.mapP {α β : Type} {F G : α → β → Prop} : ∀ {l₁ : List α} {l₂ : List β}, Paired F l₁ l₂ → (∀ a b, F a b → G a b) → Paired G l₁ l₂
  | _, _, .nil, _ => .nil
  | _, _, .cons r t, f => .cons (f _ _ r) (Paired.mapP t f)
private theorem ObjOk.stay (x : ObjOk P w H h a o) (k : ∀ b u, (b = a ∨ H b = some (.own a)) → h.get? b = some u → h'.get? b = some u)
    (ho : ∀ b, H b = some (.own a) → H' b = some (.own a)) (ht : ∀ b xs, H b = some (.tup xs) → H' b = some (.tup xs)) : ObjOk P w H' h' a o := by
  induction o with
  | lst xs => obtain ⟨z, its, n, r, e⟩ := x; exact ⟨z, its, n, r, k _ _ (.inl rfl) e⟩
  | tup xs => obtain ⟨z, its, r, ob, e, c⟩ := x; exact ⟨z, its, r, ob, k _ _ (.inl rfl) e, c⟩
  | dK kvs => obtain ⟨z, y, vs, r, ob, es, ep, e, c⟩ := x; exact ⟨z, y, vs, r, ob, es, ep, k _ _ (.inl rfl) e, c⟩
  | dT kvs =>
    obtain ⟨z, y, xs, r, ob, es, ep, e, c⟩ := x
    exact ⟨z, y, xs, Paired.mapP r fun p q z => ⟨z.1, ht _ _ z.2.1, z.2.2⟩, ob, es, ep, k _ _ (.inl rfl) e, c⟩
  | set S n => obtain ⟨ob, es, ep, t, e, c⟩ := x; exact ⟨ob, es, ep, t, k _ _ (.inl rfl) e, c⟩
  | ins C dx fs =>
    obtain ⟨d, z, ne, e, mA, ⟨od, es, ep, e2, c⟩, r⟩ := x
    exact ⟨ho _ d, z, ne, k _ _ (.inl rfl) e, mA, ⟨od, es, ep, k _ _ (.inr d) e2, c⟩, r⟩
  | own y => obtain ⟨ob, e⟩ := x; exact ⟨ob, k _ _ (.inl rfl) e⟩
  | xd fs => obtain ⟨mA, ⟨od, es, ep, e, c⟩, r⟩ := x; exact ⟨mA, ⟨od, es, ep, k _ _ (.inl rfl) e, c⟩, r⟩
  | rng lo hi => obtain ⟨t, u, v, e⟩ := x; exact ⟨t, u, v, k _ _ (.inl rfl) e⟩
  | frz ob u ih => obtain ⟨e, q⟩ := x; exact ⟨k _ _ (.inl rfl) e, ih q⟩
  | tbl ps =>
    have e : h.get? a = some { cls := .none, data := .fields ps } := x
    show h'.get? a = some { cls := .none, data := .fields ps }
    exact k a _ (.inl rfl) e
  | met f y =>
    have e : h.get? a = some (PySem.W.methodObj (.ref f) (.ref y)) := x
    show h'.get? a = some (PySem.W.methodObj (.ref f) (.ref y))
    exact k a _ (.inl rfl) e
  | ext φ => obtain ⟨p, ⟨o, e⟩, st⟩ := x; exact ⟨st _ _ p fun o q => k _ _ (.inl rfl) q, ⟨o, k _ _ (.inl rfl) e⟩, st⟩
private theorem HOk.lt (x : HOk P w H h) (e : H a = some o) : a < h.objs.size := (x a o e).lt
private theorem HOk.fresh (x : HOk P w H h) (e : h.objs.size ≤ a) : H a = none := by
  cases q : H a with
  | none => rfl
  | some u => exact absurd (Nat.lt_of_lt_of_le (x.lt q) e) (Nat.lt_irrefl _)
private theorem HOk.kept (x : HOk P w H h) (k : ∀ b u, h.get? b = some u → h'.get? b = some u) : HOk P w H h' := fun a o e =>
  (x a o e).stay (fun b u _ q => k b u q) (fun _ q => q) fun _ _ q => q
private theorem HOk.laid (x : HOk P w H h) (k : ∀ b u, h.get? b = some u → h'.get? b = some u) (hp : h.objs.size ≤ a) (new : ObjOk P w (upd H a o) h' a o) : HOk P w (upd H a o) h' := fun b u e => by
  have hn := x.fresh hp
  by_cases hb : b = a
  · subst hb; rw [upd_same] at e; cases e; exact new
  · rw [upd_ne hb] at e
    exact (x b u e).stay (fun c v _ q => k c v q) (fun c q => by rw [upd_ne (ne_of_none q hn)]; exact q) fun c xs q => by rw [upd_ne (ne_of_none q hn)]; exact q
end
noncomputable def Rd (H : Hp) (a : Addr) (u : HO) : Prop := H a = some u ∨ ∃ o, H a = some (.frz o u)
private theorem Rd.ok {P : Program} {w : World} {H : Hp} {h : Heap} {a : Addr} {u : HO} (r : Rd H a u) (x : HOk P w H h) : ObjOk P w H h a u := by
  rcases r with r | ⟨o, r⟩
  · exact x a u r
  · obtain ⟨_, q⟩ := x a _ r
    exact q
noncomputable def Mut : Option HO → Prop
  | some (.lst _) => True
  | some (.dK _) => True
  | some (.dT _) => True
  | some (.set _ _) => True
  | some (.ins _ _ _) => True
  | some (.ext _) => True
  | _ => False
section
variable {P : Program} {w : World} {H : Hp} {h h' : Heap} {x e : Addr} {o' : HO}
private theorem HOk.write (ok : HOk P w H h) (mu : Mut (H x)) (he : e = x ∨ H e = some (.own x)) (k : ∀ b u, b ≠ e → h.get? b = some u → h'.get? b = some u) (heo : ∃ u, h'.get? e = some u)
    (new : ObjOk P w (upd H x o') h' x o') : HOk P w (upd H x o') h' := fun b u q => by
  have nown : ∀ c y, H c = some (.own y) → c ≠ x := fun c y r z => by subst z; rw [r] at mu; exact mu
  have ntup : ∀ c xs, H c = some (.tup xs) → c ≠ x := fun c xs r z => by subst z; rw [r] at mu; exact mu
  by_cases hb : b = x
  · subst hb; rw [upd_same] at q; cases q; exact new
  · rw [upd_ne hb] at q
    by_cases hbe : b = e
    · have q' : H b = some (.own x) := by
        rcases he with z | z
        · exact absurd (hbe.trans z) hb
        · rw [hbe]; exact z
      rw [q] at q'; cases q'
      obtain ⟨v, hv⟩ := heo
      exact ⟨v, by rw [hbe]; exact hv⟩
    · refine (ok b u q).stay (fun c v hc r => k c v ?_ r) (fun c r => by rw [upd_ne (nown c b r)]; exact r) fun c xs r => by rw [upd_ne (ntup c xs r)]; exact r
      rcases hc with rfl | hc
      · exact hbe
      · rintro rfl
        rcases he with z | z
        · exact nown c b hc z
        · rw [hc] at z; cases z; exact hb rfl
end
structure Un (fs ex : List Addr) (H H' : Hp) (h h' : Heap) : Prop where
  keep : ∀ b o, h.get? b = some o → H b = none → b ∉ fs → b ∉ ex → h'.get? b = some o
  slot : ∀ b o, h.get? b = some o → H b = none → b ∈ fs → b ∉ ex → ∃ sl, h'.get? b = some { o with slots := sl }
  free : ∀ b o, h.get? b = some o → H b = none → b ∉ ex → H' b = none
  there : ∀ b o, h.get? b = some o → b ∉ ex → ∃ o', h'.get? b = some o'
  tups : ∀ b xs, H b = some (.tup xs) → H' b = some (.tup xs)
  frzs : ∀ b o u, H b = some (.frz o u) → H' b = some (.frz o u)
  tbls : ∀ b ps, H b = some (.tbl ps) → ∃ more, H' b = some (.tbl (ps ++ more))
section
variable {fs fs' ex ex' : List Addr} {H H1 H2 : Hp} {h h1 h2 h' : Heap} {a x e : Addr} {o : HO}
private theorem Un.any (u : Un fs ex H H1 h h1) {b : Addr} {ob : Obj} (q : h.get? b = some ob) (n : H b = none) (hx : b ∉ ex) : ∃ sl, h1.get? b = some { ob with slots := sl } := by
  by_cases hb : b ∈ fs
  · exact u.slot b ob q n hb hx
  · exact ⟨ob.slots, u.keep b ob q n hb hx⟩
private theorem Un.kept (k : ∀ b u, h.get? b = some u → h'.get? b = some u) : Un fs ex H H h h' :=
  ⟨fun b ob q _ _ _ => k b ob q, fun b ob q _ _ _ => ⟨ob.slots, k b ob q⟩, fun _ _ _ n _ => n, fun b ob q _ => ⟨ob, k b ob q⟩, fun _ _ q => q, fun _ _ _ q => q, fun _ ps q => ⟨#[], by rw [q]; simp⟩⟩
private theorem Un.refl : Un fs ex H H h h := Un.kept fun _ _ q => q
private theorem Un.laid (k : ∀ b u, h.get? b = some u → h'.get? b = some u) (hp : h.objs.size ≤ a) (hn : H a = none) : Un fs ex H (upd H a o) h h' where
  keep := fun b u q _ _ _ => k b u q
  slot := fun b u q _ _ _ => ⟨u.slots, k b u q⟩
  free := fun b u q n _ => by rw [upd_ne (Nat.ne_of_lt (Nat.lt_of_lt_of_le (Heap.lt_size q) hp))]; exact n
  there := fun b u q _ => ⟨u, k b u q⟩
  tups := fun b xs q => by rw [upd_ne (ne_of_none q hn)]; exact q
  frzs := fun b u xs q => by rw [upd_ne (ne_of_none q hn)]; exact q
  tbls := fun b ps q => ⟨#[], by rw [upd_ne (ne_of_none q hn), q]; simp⟩
private theorem Un.write (mu : Mut (H x)) (he : e = x ∨ H e = some (.own x)) (k : ∀ b u, b ≠ e → h.get? b = some u → h'.get? b = some u) (heo : ∃ u, h'.get? e = some u) : Un fs ex H (upd H x o) h h' := by
  have hx : ∀ b, H b = none → b ≠ x := fun b n z => by subst z; rw [n] at mu; exact mu
  have hb : ∀ b, H b = none → b ≠ e := fun b n z => by
    subst z
    rcases he with r | r
    · exact hx b n r
    · rw [n] at r; cases r
  have hm : ∀ b u, H b = some u → ¬ Mut (some u) → b ≠ x := fun b u q nm z => by subst z; rw [q] at mu; exact nm mu
  refine ⟨fun b u q n _ _ => k b u (hb b n) q, fun b u q n _ _ => ⟨u.slots, k b u (hb b n) q⟩, fun b u q n _ => by rw [upd_ne (hx b n)]; exact n, fun b u q _ => ?_,
    fun b xs q => by rw [upd_ne (hm b _ q fun z => z)]; exact q, fun b u xs q => by rw [upd_ne (hm b _ q fun z => z)]; exact q, fun b ps q => ⟨#[], by rw [upd_ne (hm b _ q fun z => z), q]; simp⟩⟩
  by_cases hbe : b = e
  · subst hbe; exact heo
  · exact ⟨u, k b u hbe q⟩
end
noncomputable def trk (h : Heap) (H : Hp) : List Addr := (List.range h.objs.size).filter fun a => (H a).isSome
noncomputable def hidT (h : Heap) (H : Hp) : Heap := PySem.W.hideAll h (trk h H)
private theorem hidT_size (h : Heap) (H : Hp) : (hidT h H).objs.size = h.objs.size := PySem.W.hideAll_size _ _
private theorem hidT_get {h : Heap} {H : Hp} {b : Addr} {o : Obj} (e : h.get? b = some o) (n : H b = none) : (hidT h H).get? b = some o :=
  PySem.W.hideAll_get _ e fun hm => by
    have q : (H b).isSome = true := (List.mem_filter.mp hm).2
    rw [n] at q; simp at q
private theorem of_hidT {h : Heap} {H : Hp} {b : Addr} {o : Obj} (e : (hidT h H).get? b = some o) : h.get? b = some o ∧ H b = none := by
  have e' : h.get? b = some o := PySem.W.of_hideAll (trk h H) e
  refine ⟨e', ?_⟩
  cases q : H b with
  | none => rfl
  | some x =>
    have hm : b ∈ trk h H := List.mem_filter.mpr ⟨List.mem_range.mpr (Heap.lt_size e'), by simp [q]⟩
    have z : (hidT h H).get? b = none := PySem.W.hideAll_none (trk h H) hm
    rw [z] at e; cases e
end L2
namespace L2
open PySem PySem.Spec PyProof.Rows
structure Mod (K : PySem.W.Frag) (mg : Str → Option Value) (base : Heap) : Prop where
  kin : K.In base
  glob : base.Ns mainGlobals mg
  blt : ∃ mb, base.Ns builtinsNs mb ∧ ∀ x : Str, x ≠ "__name__" → mb x = bootBuiltins x
  nolimit : base.NoLimit
structure Cx where
  prog : Program
  w : World
  K : PySem.W.Frag
  mg : Str → Option Value
  base : Heap
  A : Around
  N : List Str
  s₀ : Shared
  H₀ : Hp
  env : Env
  outer : List Env
  stack : List Env
  ex : List Addr
  fn : Str → Bool
  calm : Bool
  pn : List (Addr × Obj)
  xe : Value → Shared → Prop
noncomputable def frs (l : List Env) : List Addr := l.filterMap (·.frame)
noncomputable abbrev Cx.fs (X : Cx) : List Addr := frs X.outer
noncomputable def Vis (sc : Scope) (x : Str) : Prop := sc.names.lookup x = some .local ∨ sc.names.lookup x = some .cell ∨ sc.names.lookup x = some .free
noncomputable def Loc (sc : Scope) (x : Str) : Prop := sc.names.lookup x = some .local ∨ sc.names.lookup x = some .cell
noncomputable def Look (env : Env) (h : Heap) (m : Str → Option Value) (x : Str) (u : Value) : Prop :=
  (env.kindOf x = some .local ∧ m x = some u) ∨ ((env.kindOf x = some .cell ∨ env.kindOf x = some .free) ∧ ∃ c, env.cells.lookup x = some c ∧ h.IsCell c (some u))
structure Cx.Ok (X : Cx) : Prop where
  mod : Mod X.K X.mg X.base
  kind : X.env.scope.kind = .function
  glob : X.env.globals = mainGlobals
  blt : X.env.builtins = builtinsNs
  above : X.s₀.heap.objs.size ≤ X.env.locals
  inj : ∀ x y c, X.env.cells.lookup x = some c → X.env.cells.lookup y = some c → x = y
  has : ∀ x, (X.env.kindOf x = some .cell ∨ X.env.kindOf x = some .free) → ∃ c, X.env.cells.lookup x = some c
  cab : ∀ x c, X.fn x = true → X.env.cells.lookup x = some c → X.s₀.heap.objs.size ≤ c
  hd : X.calm = true → X.A.handled = none
  frames : X.A.frames = some X.stack
  stk : X.stack = X.outer ∨ (X.stack = X.env :: X.outer ∧ X.env.frame = some X.env.locals)
  exf : ∀ b ∈ X.ex, b ≠ X.env.locals ∧ ∀ x c, X.env.cells.lookup x = some c → c ≠ b
  bs : ∀ b o, X.base.get? b = some o → X.s₀.heap.get? b = some o ∧ X.H₀ b = none
  bsz : X.base.objs.size ≤ X.s₀.heap.objs.size
  noex : ∀ b o, X.base.get? b = some o → b ∉ X.ex
  exfs : ∀ b ∈ X.ex, b ∉ X.fs
  funs : X.s₀.heap.FunFrames X.base X.outer
  frf : ∀ b ∈ X.fs, X.H₀ b = none
structure Inv (X : Cx) (pins : List (Addr × Obj)) (σ : List (Option V)) (H : Hp) (s : Shared) : Prop where
  ok : X.Ok
  os : s.os = X.s₀.os
  bare : AllBare s.gens
  base : Un X.fs X.ex X.H₀ H X.s₀.heap s.heap
  loc : ∃ m, s.heap.Ns X.env.locals m ∧ ∀ (i : Nat) (x : Str) (v : V), X.N[i]? = some x → σ[i]? = some (some v) → Vis X.env.scope x → ∃ u, RelV v u ∧ Look X.env s.heap m x u
  cell : ∀ x c, X.env.cells.lookup x = some c → ∃ v, s.heap.IsCell c v
  free : H X.env.locals = none
  freeC : ∀ x c, X.env.cells.lookup x = some c → H c = none
  pin : ∀ p ∈ X.pn ++ pins, s.heap.get? p.1 = some p.2 ∧ H p.1 = none ∧ p.1 ≠ X.env.locals ∧ p.1 ∉ X.fs ∧ ∀ v, p.2.data ≠ .cell v
  hok : HOk X.prog X.w H s.heap
  len : σ.length = X.N.length
section
variable {X : Cx} {pins : List (Addr × Obj)} {σ : List (Option V)} {H H' : Hp} {s : Shared} {h' : Heap}
private theorem Cx.Ok.nofr (ok : X.Ok) {b : Addr} {o : Obj} (e : X.base.get? b = some o) : b ∉ X.fs := fun hb => by
  have := (ok.funs.mem hb).1
  rw [e] at this; cases this
private theorem Inv.bs (I : Inv X pins σ H s) : ∀ b o, X.base.get? b = some o → s.heap.get? b = some o ∧ H b = none := fun b o e =>
  ⟨I.base.keep b o (I.ok.bs b o e).1 (I.ok.bs b o e).2 (I.ok.nofr e) (I.ok.noex b o e), I.base.free b o (I.ok.bs b o e).1 (I.ok.bs b o e).2 (I.ok.noex b o e)⟩
private theorem Inv.bk (I : Inv X pins σ H s) : ∀ b o, X.base.get? b = some o → s.heap.get? b = some o := fun b o e => (I.bs b o e).1
private theorem Inv.mod (I : Inv X pins σ H s) : Mod X.K X.mg X.base := I.ok.mod
private theorem Inv.kIn (I : Inv X pins σ H s) : X.K.In s.heap := I.ok.mod.kin.keeps I.bk
private theorem Inv.lt (I : Inv X pins σ H s) : X.env.locals < s.heap.objs.size := let ⟨_, hn, _⟩ := I.loc; hn.lt
private theorem Inv.sz (I : Inv X pins σ H s) : X.s₀.heap.objs.size ≤ s.heap.objs.size := Nat.le_trans I.ok.above (Nat.le_of_lt I.lt)
private theorem Inv.nofs (I : Inv X pins σ H s) {a : Addr} (h : s.heap.objs.size ≤ a) : a ∉ X.fs := fun hb => by
  obtain ⟨_, o, ho, _⟩ := I.ok.funs.mem hb
  exact absurd (Nat.lt_of_lt_of_le (Heap.lt_size ho) (Nat.le_trans I.sz h)) (Nat.lt_irrefl _)
private theorem Inv.cne (I : Inv X pins σ H s) : ∀ x c, X.env.cells.lookup x = some c → c ≠ X.env.locals := fun x c e z => by
  obtain ⟨v, o, ho, hd⟩ := I.cell x c e
  obtain ⟨m, ⟨o', es, ep, ho', hd', _⟩, _⟩ := I.loc
  rw [z, ho'] at ho; cases ho; rw [hd'] at hd; cases hd
private theorem Inv.funs (I : Inv X pins σ H s) : s.heap.FunFrames X.base X.outer := by
  have all : ∀ (l : List Env), (∀ b ∈ frs l, b ∈ X.fs) → X.s₀.heap.FunFrames X.base l → s.heap.FunFrames X.base l := by
    intro l
    induction l with
    | nil => intro _ _; trivial
    | cons env r ih =>
      intro hs hl
      obtain ⟨hk, ⟨L, o, hf, hn, ho, hd⟩, hr⟩ := hl
      have hL : L ∈ X.fs := hs L (by unfold frs; rw [List.filterMap_cons, hf]; exact List.mem_cons_self)
      obtain ⟨sl, e⟩ := I.base.slot L o ho (I.ok.frf L hL) hL fun z => I.ok.exfs L z hL
      exact ⟨hk, ⟨L, _, hf, hn, e, hd⟩, ih (fun b hb => hs b (by unfold frs; rw [List.filterMap_cons, hf]; exact List.mem_cons_of_mem _ hb)) hr⟩
  exact all X.outer (fun _ hb => hb) I.ok.funs
private theorem Inv.stack (I : Inv X pins σ H s) : s.heap.FunFrames X.base X.stack := by
  rcases I.ok.stk with e | ⟨e, hf⟩
  · rw [e]; exact I.funs
  · rw [e]
    obtain ⟨m, hn, _⟩ := I.loc
    refine .cons (by rw [I.ok.kind]; decide) hf hn ?_ I.funs
    exact Heap.get?_none_of_le (Nat.le_trans I.ok.bsz I.ok.above)
private theorem Inv.stkSub (I : Inv X pins σ H s) : ∀ b ∈ frs X.stack, b ∈ X.env.locals :: X.fs := fun b hb => by
  rcases I.ok.stk with e | ⟨e, hf⟩
  · rw [e] at hb; exact List.mem_cons_of_mem _ hb
  · rw [e] at hb
    unfold frs at hb
    rw [List.filterMap_cons, hf] at hb
    exact hb
private theorem Inv.stkFree (I : Inv X pins σ H s) : ∀ b ∈ frs X.stack, H b = none := fun b hb => by
  rcases List.mem_cons.mp (I.stkSub b hb) with e | hb
  · rw [e]; exact I.free
  · obtain ⟨_, o, ho, _⟩ := I.ok.funs.mem hb
    exact I.base.free b o ho (I.ok.frf b hb) fun z => I.ok.exfs b z hb
private theorem Inv.step {g' : Array GenState} {t' : Nat} {d' : Drawn} {ch : List Addr} (I : Inv X pins σ H s)
    (hch : ∀ b ∈ ch, (b ∈ X.ex ∨ X.s₀.heap.objs.size ≤ b) ∧ b ≠ X.env.locals ∧ (∀ x c, X.env.cells.lookup x = some c → c ≠ b) ∧ ∀ p ∈ X.pn ++ pins, p.1 ≠ b)
    (keep : ∀ b o, b ≠ X.env.locals → b ∉ X.fs → b ∉ ch → s.heap.get? b = some o → H b = none → h'.get? b = some o)
    (slot : ∀ b o, b ≠ X.env.locals → b ∈ X.fs → b ∉ ch → s.heap.get? b = some o → H b = none → ∃ sl, h'.get? b = some { o with slots := sl }) (free : ∀ b o, b ∉ ch → s.heap.get? b = some o → H b = none → H' b = none)
    (there : ∀ b o, b ∉ ch → s.heap.get? b = some o → ∃ o', h'.get? b = some o')
    (tups : ∀ b xs, H b = some (.tup xs) → H' b = some (.tup xs)) (frzs : ∀ b o u, H b = some (.frz o u) → H' b = some (.frz o u)) (tbls : ∀ b ps, H b = some (.tbl ps) → ∃ more, H' b = some (.tbl (ps ++ more)))
    (ns : ∀ m, s.heap.Ns X.env.locals m → h'.Ns X.env.locals m) (hok : HOk X.prog X.w H' h') (hg : AllBare g') :
    Inv X pins σ H' { s with heap := h', gens := g', drawn := d', toks := t' } := by
  have neL : ∀ b o, X.s₀.heap.get? b = some o → b ≠ X.env.locals := fun b o e => Nat.ne_of_lt (Nat.lt_of_lt_of_le (Heap.lt_size e) I.ok.above)
  have neC : ∀ b o, X.s₀.heap.get? b = some o → b ∉ X.ex → b ∉ ch := fun b o e hx hb => by
    rcases (hch b hb).1 with z | z
    · exact hx z
    · exact absurd (Nat.lt_of_lt_of_le (Heap.lt_size e) z) (Nat.lt_irrefl _)
  have cellK : ∀ x c, X.env.cells.lookup x = some c → ∀ v, s.heap.IsCell c v → h'.IsCell c v := fun x c e v ⟨o, ho, hd⟩ => by
    have nch : c ∉ ch := fun z => (hch c z).2.2.1 x c e rfl
    by_cases hc : c ∈ X.fs
    · obtain ⟨sl, q⟩ := slot c o (I.cne x c e) hc nch ho (I.freeC x c e)
      exact ⟨_, q, hd⟩
    · exact ⟨o, keep c o (I.cne x c e) hc nch ho (I.freeC x c e), hd⟩
  refine ⟨I.ok, I.os, hg, ⟨fun b o e n hb hx => ?_, fun b o e n hb hx => ?_, fun b o e n hx => ?_, fun b o e hx => ?_, fun b xs e => tups b xs (I.base.tups b xs e), fun b o xs e => frzs b o xs (I.base.frzs b o xs e), fun b ps e => ?_⟩, ?_, fun x c e => ?_, ?_, fun x c e => ?_, fun p hp => ?_, hok, I.len⟩
  · exact keep b o (neL b o e) hb (neC b o e hx) (I.base.keep b o e n hb hx) (I.base.free b o e n hx)
  · obtain ⟨sl, e1⟩ := I.base.slot b o e n hb hx
    obtain ⟨sl', e2⟩ := slot b _ (neL b o e) hb (neC b o e hx) e1 (I.base.free b o e n hx)
    exact ⟨sl', e2⟩
  · obtain ⟨o', e1⟩ := I.base.there b o e hx
    exact free b o' (neC b o e hx) e1 (I.base.free b o e n hx)
  · obtain ⟨o', e1⟩ := I.base.there b o e hx
    exact there b o' (neC b o e hx) e1
  · obtain ⟨m1, e1⟩ := I.base.tbls b ps e
    obtain ⟨m2, e2⟩ := tbls b _ e1
    exact ⟨m1 ++ m2, by rw [e2, Array.append_assoc]⟩
  · obtain ⟨m, hn, hl⟩ := I.loc
    refine ⟨m, ns m hn, fun i x v e1 e2 e3 => ?_⟩
    obtain ⟨u, r, l⟩ := hl i x v e1 e2 e3
    refine ⟨u, r, ?_⟩
    rcases l with l | ⟨k, c, e, z⟩
    · exact .inl l
    · exact .inr ⟨k, c, e, cellK x c e _ z⟩
  · obtain ⟨v, z⟩ := I.cell x c e
    exact ⟨v, cellK x c e v z⟩
  · obtain ⟨m, ⟨o, _, _, ho, _⟩, _⟩ := I.loc
    exact free _ o (fun z => (hch _ z).2.1 rfl) ho I.free
  · obtain ⟨v, o, ho, hd⟩ := I.cell x c e
    exact free c o (fun z => (hch c z).2.2.1 x c e rfl) ho (I.freeC x c e)
  · obtain ⟨e, n, ne, nf, d⟩ := I.pin p hp
    have nch : p.1 ∉ ch := fun z => (hch p.1 z).2.2.2 p hp rfl
    exact ⟨keep p.1 p.2 ne nf nch e n, free p.1 p.2 nch e n, ne, nf, d⟩
private theorem Inv.un {t' : Nat} (I : Inv X pins σ H s) (u : Un X.fs [] H H' s.heap h') (hok : HOk X.prog X.w H' h') : Inv X pins σ H' { s with heap := h', toks := t' } := by
  obtain ⟨m, ⟨o, es, ep, ho, r⟩, _⟩ := id I.loc
  obtain ⟨sl, hL⟩ := u.any ho I.free (by simp)
  exact I.step (g' := s.gens) (d' := s.drawn) (ch := []) (fun _ z => nomatch z) (fun b o _ hb _ e n => u.keep b o e n hb (by simp)) (fun b o _ hb _ e n => u.slot b o e n hb (by simp)) (fun b o _ e n => u.free b o e n (by simp)) (fun b o _ e => u.there b o e (by simp)) u.tups u.frzs u.tbls (fun m' hm => by
    obtain ⟨o', es', ep', ho', r'⟩ := hm
    rw [ho] at ho'; cases ho'
    exact ⟨_, es', ep', hL, r'⟩) hok I.bare
private theorem Inv.call {g' : Array GenState} {t' : Nat} {d' : Drawn} {ch : List Addr} (I : Inv X pins σ H s) (u : Un (frs X.stack) ch H H' s.heap h') (hok : HOk X.prog X.w H' h') (hg : AllBare g')
    (hch : ∀ b ∈ ch, (b ∈ X.ex ∨ X.s₀.heap.objs.size ≤ b) ∧ b ≠ X.env.locals ∧ (∀ x c, X.env.cells.lookup x = some c → c ≠ b) ∧ ∀ p ∈ X.pn ++ pins, p.1 ≠ b) :
    Inv X pins σ H' { s with heap := h', gens := g', drawn := d', toks := t' } := by
  obtain ⟨m, ⟨o, es, ep, ho, r⟩, _⟩ := id I.loc
  obtain ⟨sl, hL⟩ := u.any ho I.free fun z => (hch _ z).2.1 rfl
  exact I.step (ch := ch) hch (fun b o hL hb hc e n => u.keep b o e n (fun z => (List.mem_cons.mp (I.stkSub b z)).elim hL hb) hc) (fun b o _ _ hc e n => u.any e n hc) (fun b o hc e n => u.free b o e n hc) (fun b o hc e => u.there b o e hc) u.tups u.frzs u.tbls (fun m' hm => by
    obtain ⟨o', es', ep', ho', r'⟩ := hm
    rw [ho] at ho'; cases ho'
    exact ⟨_, es', ep', hL, r'⟩) hok hg
private theorem Inv.turned {t' : Nat} {it : Addr} (I : Inv X pins σ H s) (k : ∀ b o, b ≠ it → s.heap.get? b = some o → h'.get? b = some o) (hn : H it = none) (hL : it ≠ X.env.locals)
    (h1 : it ∈ X.ex ∨ X.s₀.heap.objs.size ≤ it) (h2 : ∀ x c, X.env.cells.lookup x = some c → c ≠ it) (h3 : ∀ p ∈ X.pn ++ pins, p.1 ≠ it) : Inv X pins σ H { s with heap := h', toks := t' } := by
  have nit : ∀ b u, H b = some u → b ≠ it := fun b u e z => by rw [z, hn] at e; cases e
  refine I.step (g' := s.gens) (d' := s.drawn) (ch := [it]) (fun b hb => ?_) (fun b o _ _ hc e _ => k b o (fun z => hc (by simp [z])) e) (fun b o _ _ hc e _ => ⟨o.slots, k b o (fun z => hc (by simp [z])) e⟩) (fun _ _ _ _ n => n)
    (fun b o hc e => ⟨o, k b o (fun z => hc (by simp [z])) e⟩) (fun _ _ e => e) (fun _ _ _ e => e) (fun b ps e => ⟨#[], by rw [e]; simp⟩) (fun m hm => ?_) (fun b u e => ?_) I.bare
  · have e : b = it := by simpa using hb
    subst e
    exact ⟨h1, hL, h2, h3⟩
  · obtain ⟨o, es, ep, ho, r⟩ := hm
    exact ⟨o, es, ep, k _ o (Ne.symm hL) ho, r⟩
  · refine (I.hok b u e).stay (fun c v hc q => k c v ?_ q) (fun _ q => q) fun _ _ q => q
    rcases hc with z | z
    · rw [z]; exact nit b u e
    · exact nit c _ z
private theorem Inv.tok (I : Inv X pins σ H s) (t : Nat) : Inv X pins σ H { s with toks := t } := I.un (h' := s.heap) (t' := t) Un.refl I.hok
private theorem Inv.kept {t' : Nat} (I : Inv X pins σ H s) (k : ∀ b u, s.heap.get? b = some u → h'.get? b = some u) : Inv X pins σ H { s with heap := h', toks := t' } := I.un (Un.kept k) (I.hok.kept k)
private theorem Inv.laid {a : Addr} {o : HO} {t' : Nat} (I : Inv X pins σ H s) (k : ∀ b u, s.heap.get? b = some u → h'.get? b = some u) (hp : s.heap.objs.size ≤ a) (new : ObjOk X.prog X.w (upd H a o) h' a o) :
    Inv X pins σ (upd H a o) { s with heap := h', toks := t' } := I.un (Un.laid k hp (I.hok.fresh hp)) (I.hok.laid k hp new)
private theorem Inv.write {x e : Addr} {o : HO} {t' : Nat} (I : Inv X pins σ H s) (mu : Mut (H x)) (he : e = x ∨ H e = some (.own x)) (k : ∀ b u, b ≠ e → s.heap.get? b = some u → h'.get? b = some u) (heo : ∃ u, h'.get? e = some u)
    (new : ObjOk X.prog X.w (upd H x o) h' x o) : Inv X pins σ (upd H x o) { s with heap := h', toks := t' } := I.un (Un.write mu he k heo) (I.hok.write mu he k heo new)
private theorem Inv.pins_of {pins' : List (Addr × Obj)} (I : Inv X pins σ H s) (h : ∀ p ∈ pins', s.heap.get? p.1 = some p.2 ∧ H p.1 = none ∧ p.1 ≠ X.env.locals ∧ p.1 ∉ X.fs ∧ ∀ v, p.2.data ≠ .cell v) : Inv X pins' σ H s :=
  ⟨I.ok, I.os, I.bare, I.base, I.loc, I.cell, I.free, I.freeC, fun p hp => (List.mem_append.mp hp).elim (fun z => I.pin p (List.mem_append_left _ z)) (h p), I.hok, I.len⟩
private theorem nodup_ix {N : List Str} (hN : N.Nodup) {i j : Nat} {x : Str} (a : N[i]? = some x) (b : N[j]? = some x) : i = j := by
  obtain ⟨h1, e1⟩ := List.getElem?_eq_some_iff.mp a
  obtain ⟨h2, e2⟩ := List.getElem?_eq_some_iff.mp b
  exact (List.getElem_inj hN).mp (e1.trans e2.symm)
private theorem store_ok2 {M : Model} {A : Around} {E : Value → Shared → Prop} {i : Nat} {x : Str} {v : V} {u : Value} {Q : Unit → Shared → Prop} (I : Inv X pins σ H s) (hN : X.N.Nodup) (hi : X.N[i]? = some x) (hx : Loc X.env.scope x) (r : RelV v u)
    (h : ∀ s', Inv X pins (σ.set i (some v)) H s' → (∃ a, Heap.SameBut a s.heap s'.heap ∧ (a = X.env.locals ∨ X.env.cells.lookup x = some a)) → Q () s') (hf : X.fn x = true ∨ X.env.scope.names.lookup x = some .local := by first | exact .inl rfl | exact .inr rfl | assumption) : wpAny M A (storeName X.env x u) Q E s := by
  obtain ⟨m, hn, hl⟩ := id I.loc
  have hcls : (X.env.scope.kind == .class || (X.env.scope.kind == .module && X.env.locals != X.env.globals)) = false := by rw [I.ok.kind]; rfl
  have hiσ : i < σ.length := by rw [I.len]; exact (List.getElem?_eq_some_iff.mp hi).1
  have cne := I.cne
  have tracked : ∀ {a : Addr} {h' : Heap}, (∃ o, s.heap.get? a = some o ∧ H a = none) → Heap.SameBut a s.heap h' → HOk X.prog X.w H h' := fun {a h'} ha hs b ob e => by
    obtain ⟨_, _, hfree⟩ := ha
    refine (I.hok b ob e).stay (fun c w' hc q => (hs.2 c ?_).trans q) (fun _ q => q) fun _ _ q => q
    rintro rfl
    rcases hc with rfl | hc
    · rw [hfree] at e; cases e
    · rw [hfree] at hc; cases hc
  rcases hx with hk | hk
  · refine wpAny_storeName_local hk hn (fun h' hn' hs => ?_) hcls
    obtain ⟨oL, _, _, hoL, _⟩ := id hn
    refine h _ ⟨I.ok, I.os, I.bare, ⟨fun b o e n hb hx => ?_, fun b o e n hb hx => ?_, I.base.free, fun b o e hx => ?_, I.base.tups, I.base.frzs, I.base.tbls⟩, ⟨_, hn', fun j y v' e1 e2 e3 => ?_⟩, fun y c e => ?_, I.free, I.freeC, fun p hp => ?_, tracked ⟨oL, hoL, I.free⟩ hs, by simpa using I.len⟩ ⟨_, hs, .inl rfl⟩
    · exact (hs.2 b (Nat.ne_of_lt (Nat.lt_of_lt_of_le (Heap.lt_size e) I.ok.above))).trans (I.base.keep b o e n hb hx)
    · obtain ⟨sl, e1⟩ := I.base.slot b o e n hb hx
      exact ⟨sl, (hs.2 b (Nat.ne_of_lt (Nat.lt_of_lt_of_le (Heap.lt_size e) I.ok.above))).trans e1⟩
    · obtain ⟨o', e1⟩ := I.base.there b o e hx
      exact ⟨o', (hs.2 b (Nat.ne_of_lt (Nat.lt_of_lt_of_le (Heap.lt_size e) I.ok.above))).trans e1⟩
    · by_cases hj : j = i
      · subst hj
        rw [hi] at e1; cases e1
        rw [List.getElem?_set_self hiσ] at e2
        cases e2
        exact ⟨u, r, .inl ⟨hk, by simp⟩⟩
      · rw [List.getElem?_set_ne (Ne.symm hj)] at e2
        obtain ⟨u', r', q⟩ := hl j y v' e1 e2 e3
        refine ⟨u', r', ?_⟩
        rcases q with ⟨k, e⟩ | ⟨k, c, e, z⟩
        · refine .inl ⟨k, ?_⟩
          have : y ≠ x := fun e => hj (nodup_ix hN e1 (e ▸ hi))
          simp [this, e]
        · exact .inr ⟨k, c, e, z.sameBut hs (cne y c e)⟩
    · obtain ⟨w', z⟩ := I.cell y c e
      exact ⟨w', z.sameBut hs (cne y c e)⟩
    · obtain ⟨e, n, ne, nf, d⟩ := I.pin p hp
      exact ⟨(hs.2 p.1 ne).trans e, n, ne, nf, d⟩
  · have hfn : X.fn x = true := by
      rcases hf with z | z
      · exact z
      · rw [z] at hk; cases hk
    obtain ⟨c, hc⟩ := I.ok.has x (.inl hk)
    obtain ⟨w', z⟩ := I.cell x c hc
    refine wpAny_storeName_cell I.ok.kind hk hc z (fun h' hc' hs => ?_)
    obtain ⟨oc, hoc, hocd⟩ := id z
    refine h { s with heap := h' } ⟨I.ok, I.os, I.bare, ⟨fun b o e n hb hx => ?_, fun b o e n hb hx => ?_, I.base.free, fun b o e hx => ?_, I.base.tups, I.base.frzs, I.base.tbls⟩, ⟨m, hn.sameBut hs (Ne.symm (cne x c hc)), fun j y v' e1 e2 e3 => ?_⟩, fun y c' e => ?_, I.free, I.freeC, fun p hp => ?_, tracked ⟨oc, hoc, I.freeC x c hc⟩ hs, by simpa using I.len⟩ ⟨c, hs, .inr hc⟩
    · exact (hs.2 b (Nat.ne_of_lt (Nat.lt_of_lt_of_le (Heap.lt_size e) (I.ok.cab x c hfn hc)))).trans (I.base.keep b o e n hb hx)
    · obtain ⟨sl, e1⟩ := I.base.slot b o e n hb hx
      exact ⟨sl, (hs.2 b (Nat.ne_of_lt (Nat.lt_of_lt_of_le (Heap.lt_size e) (I.ok.cab x c hfn hc)))).trans e1⟩
    · obtain ⟨o', e1⟩ := I.base.there b o e hx
      exact ⟨o', (hs.2 b (Nat.ne_of_lt (Nat.lt_of_lt_of_le (Heap.lt_size e) (I.ok.cab x c hfn hc)))).trans e1⟩
    · by_cases hj : j = i
      · subst hj
        rw [hi] at e1; cases e1
        rw [List.getElem?_set_self hiσ] at e2
        cases e2
        exact ⟨u, r, .inr ⟨.inl hk, c, hc, hc'⟩⟩
      · rw [List.getElem?_set_ne (Ne.symm hj)] at e2
        obtain ⟨u', r', q⟩ := hl j y v' e1 e2 e3
        refine ⟨u', r', ?_⟩
        rcases q with q | ⟨k, c', e, z'⟩
        · exact .inl q
        · refine .inr ⟨k, c', e, z'.sameBut hs ?_⟩
          rintro rfl
          exact hj (nodup_ix hN e1 (I.ok.inj _ _ _ e hc ▸ hi))
    · by_cases hcc : c' = c
      · subst hcc; exact ⟨_, hc'⟩
      · obtain ⟨w2, z2⟩ := I.cell y c' e
        exact ⟨w2, z2.sameBut hs hcc⟩
    · obtain ⟨e, n, ne, nf, d⟩ := I.pin p hp
      refine ⟨(hs.2 p.1 ?_).trans e, n, ne, nf, d⟩
      intro q
      rw [q, hoc] at e
      have q' : oc = p.2 := Option.some.inj e
      exact d w' (by rw [← q']; exact hocd)
private theorem store_ok {M : Model} {A : Around} {E : Value → Shared → Prop} {i : Nat} {x : Str} {v : V} {u : Value} {Q : Unit → Shared → Prop} (I : Inv X pins σ H s) (hN : X.N.Nodup) (hi : X.N[i]? = some x) (hx : Loc X.env.scope x) (r : RelV v u)
    (h : ∀ s', Inv X pins (σ.set i (some v)) H s' → Q () s') (hf : X.fn x = true ∨ X.env.scope.names.lookup x = some .local := by first | exact .inl rfl | exact .inr rfl | assumption) : wpAny M A (storeName X.env x u) Q E s :=
  store_ok2 I hN hi hx r (fun s' I' _ => h s' I') hf
private theorem Inv.call' {s' : Shared} {ch : List Addr} (I : Inv X pins σ H s) (ho : s'.os = s.os) (u : Un (frs X.stack) ch H H' s.heap s'.heap) (hok : HOk X.prog X.w H' s'.heap) (hg : AllBare s'.gens)
    (hch : ∀ b ∈ ch, (b ∈ X.ex ∨ X.s₀.heap.objs.size ≤ b) ∧ b ≠ X.env.locals ∧ (∀ x c, X.env.cells.lookup x = some c → c ≠ b) ∧ ∀ p ∈ X.pn ++ pins, p.1 ≠ b) : Inv X pins σ H' s' := by
  obtain ⟨h', g', d', t', o'⟩ := s'
  have e : o' = s.os := ho
  subst e
  exact I.call (g' := g') (t' := t') (d' := d') u hok hg hch
end
noncomputable abbrev XK := Value → Option Addr → Hp → Prop
noncomputable abbrev St := List (Option V)
noncomputable abbrev VK := V → Hp → Prop
noncomputable abbrev TE := St → Hp → VK → Prop
noncomputable abbrev TT := St → Hp → (Bool → Hp → Prop) → Prop
noncomputable abbrev TA := St → Hp → (List V → Hp → Prop) → Prop
structure Ends where
  nx : St → Hp → Prop
  rt : VK
  bk : St → Hp → Prop := fun _ _ => False
  ct : St → Hp → Prop := fun _ _ => False
noncomputable abbrev TS := Ends → St → Hp → Prop
noncomputable def EP (X : Cx) (pins : List (Addr × Obj)) (σ : St) (Q : VK) (u : Value) (s' : Shared) : Prop := ∃ v H', Inv X pins σ H' s' ∧ RelV v u ∧ Q v H'
noncomputable def TP (X : Cx) (pins : List (Addr × Obj)) (σ : St) (Q : Bool → Hp → Prop) (b : Bool) (s' : Shared) : Prop := ∃ H', Inv X pins σ H' s' ∧ Q b H'
noncomputable def AP (X : Cx) (pins : List (Addr × Obj)) (σ : St) (Q : List V → Hp → Prop) (us : List Value) (s' : Shared) : Prop := ∃ vs H', Inv X pins σ H' s' ∧ Vals vs us ∧ Q vs H'
noncomputable def SP (X : Cx) (pins : List (Addr × Obj)) (D : Ends) (f : Flow) (s' : Shared) : Prop :=
  match f with
  | .next => ∃ σ' H', Inv X pins σ' H' s' ∧ D.nx σ' H'
  | .brk => ∃ σ' H', Inv X pins σ' H' s' ∧ D.bk σ' H'
  | .cont => ∃ σ' H', Inv X pins σ' H' s' ∧ D.ct σ' H'
  | .ret u => ∃ v σ' H', Inv X pins σ' H' s' ∧ RelV v u ∧ D.rt v H'
noncomputable def PE (X : Cx) (e : Expr) (t : TE) : Prop :=
  ∀ (pins : List (Addr × Obj)) (s : Shared) (σ : St) (H : Hp) (Q : VK), Inv X pins σ H s → t σ H Q → wpAny (model X.prog X.w) X.A (eval e X.env) (EP X pins σ Q) X.xe s
noncomputable def PT (X : Cx) (e : Expr) (t : TT) : Prop :=
  ∀ (pins : List (Addr × Obj)) (s : Shared) (σ : St) (H : Hp) (Q : Bool → Hp → Prop), Inv X pins σ H s → t σ H Q → wpAny (model X.prog X.w) X.A (isTrue e X.env (eval e X.env)) (TP X pins σ Q) X.xe s
noncomputable def PW (X : Cx) (e : Expr) (t : TT) : Prop :=
  ∀ (whole : Sem Value) (pins : List (Addr × Obj)) (s : Shared) (σ : St) (H : Hp) (Q : Bool → Hp → Prop), Inv X pins σ H s → t σ H Q → wpAny (model X.prog X.w) X.A (isTrue e X.env whole) (TP X pins σ Q) X.xe s
private theorem PW.pt {X : Cx} {e : Expr} {t : TT} (h : PW X e t) : PT X e t := h _
noncomputable def PA (X : Cx) (es : List Expr) (t : TA) : Prop :=
  ∀ (pos : Pos) (pins : List (Addr × Obj)) (s : Shared) (σ : St) (H : Hp) (Q : List V → Hp → Prop), Inv X pins σ H s → t σ H Q → wpAny (model X.prog X.w) X.A (spliced (backTo pos (starEach es X.env))) (AP X pins σ Q) X.xe s
noncomputable def PS (X : Cx) (st : Stmt) (t : TS) : Prop :=
  ∀ (pins : List (Addr × Obj)) (s : Shared) (σ : St) (H : Hp) (D : Ends), Inv X pins σ H s → t D σ H → wpAny (model X.prog X.w) X.A (exec st X.env) (SP X pins D) X.xe s
noncomputable def PSs (X : Cx) (st : List Stmt) (t : TS) : Prop :=
  ∀ (pins : List (Addr × Obj)) (s : Shared) (σ : St) (H : Hp) (D : Ends), Inv X pins σ H s → t D σ H → wpAny (model X.prog X.w) X.A (execs st X.env) (SP X pins D) X.xe s
private theorem thn {α : Type} {t : Sem α} {Q Q' : α → Shared → Prop} {M : Model} {A : Around} {E : Value → Shared → Prop} {s : Shared} (h : wpAny M A t Q E s) (hQ : ∀ a s, Q a s → Q' a s) : wpAny M A t Q' E s := wpAny_mono h hQ fun _ _ x => x
end L2
namespace L2
open PySem PySem.Spec PyProof.Rows
section
variable {X : Cx}
noncomputable def tVar (i : Nat) : TE := fun σ H Q => ∃ v, σ[i]? = some (some v) ∧ Q v H
noncomputable def tC (v : V) : TE := fun _ H Q => Q v H
private theorem pe_var {i : Nat} {x : Str} {pos : Pos} (hN : X.N[i]? = some x) (hv : Vis X.env.scope x) (hd : (x == ("__debug__" : Str)) = false := by decide) (hcd : (x == ("__classdict__" : Str)) = false := by decide) : PE X (.Name x pos) (tVar i) := by
  intro pins s σ H Q I h
  obtain ⟨v, e, h⟩ := h
  obtain ⟨m, hn, hl⟩ := I.loc
  obtain ⟨u, r, l⟩ := hl i x v hN e hv
  have fin : EP X pins σ Q u s := ⟨v, H, I, r, h⟩
  rcases l with ⟨hk, hm⟩ | ⟨hk, c, hc, hcell⟩
  · exact wpAny_Name (wpAny_loadName_local I.ok.kind hk hn hm fin) hd
  · rcases hk with hk | hk
    · exact wpAny_Name (wpAny_loadName_cell I.ok.kind hk hc hcell fin) hd
    · exact wpAny_Name (wpAny_loadName_free I.ok.kind hk hc hcell fin hcd) hd
private theorem pe_int {i j pos} : PE X (.Constant (.int i) j pos) (tC (.int i)) := fun _ _ _ H _ I h => wpAny_Constant_int ⟨.int i, H, I.tok _, ⟨_, rfl⟩, h⟩
private theorem pe_bl {b j pos} : PE X (.Constant (.bool b) j pos) (tC (.bl b)) := fun _ _ _ H _ I h => Constant_bool ⟨.bl b, H, I, rfl, h⟩
private theorem pe_non {j pos} : PE X (.Constant .none j pos) (tC .non) := fun _ _ _ H _ I h => Constant_none ⟨.non, H, I, rfl, h⟩
private theorem pe_str {x j pos} : PE X (.Constant (.str x) j pos) (tC (.str x)) := fun _ _ _ H _ I h => Calls.Constant_str ⟨.str x, H, I.tok _, ⟨_, rfl⟩, h⟩
noncomputable def Gl (X : Cx) (x : Str) : Prop := X.env.kindOf x = some .globalImplicit
private theorem ld_glob {E : Value → Shared → Prop} {pins : List (Addr × Obj)} {s : Shared} {σ : St} {H : Hp} {x : Str} {u : Value} {pos : Pos} {Q : Value → Shared → Prop} (I : Inv X pins σ H s) (hg : Gl X x) (hm : X.mg x = some u) (h : Q u s)
    (hd : (x == ("__debug__" : Str)) = false := by decide) : wpAny (model X.prog X.w) X.A (eval (.Name x pos) X.env) Q E s :=
  Calls.Name_function_global I.ok.kind hg (Calls.loadGlobal_global (by rw [I.ok.glob]; exact I.mod.glob.keeps I.bk) hm h) hd
private theorem ld_blt {E : Value → Shared → Prop} {pins : List (Addr × Obj)} {s : Shared} {σ : St} {H : Hp} {x : Str} {u : Value} {pos : Pos} {Q : Value → Shared → Prop} (I : Inv X pins σ H s) (hg : Gl X x) (hm : X.mg x = none) (hv : bootBuiltins x = some u) (h : Q u s)
    (hn : x ≠ "__name__" := by decide) (hd : (x == ("__debug__" : Str)) = false := by decide) : wpAny (model X.prog X.w) X.A (eval (.Name x pos) X.env) Q E s := by
  obtain ⟨mb, h1, h2⟩ := I.mod.blt
  exact Calls.Name_function_global I.ok.kind hg (Calls.loadGlobal_builtin (by rw [I.ok.glob]; exact I.mod.glob.keeps I.bk) hm (by rw [I.ok.blt]; exact h1.keeps I.bk) ((h2 x hn).trans hv) h) hd
private theorem pe_glob {x : Str} {v : V} {u : Value} {pos : Pos} (hg : Gl X x) (hm : X.mg x = some u) (r : RelV v u) (hd : (x == ("__debug__" : Str)) = false := by decide) : PE X (.Name x pos) (tC v) :=
  fun _ _ _ H _ I h => ld_glob I hg hm ⟨v, H, I, r, h⟩ hd
private theorem pe_bltn {x : Str} {v : V} {u : Value} {pos : Pos} (hg : Gl X x) (hm : X.mg x = none) (hv : bootBuiltins x = some u) (r : RelV v u) (hn : x ≠ "__name__" := by decide) (hd : (x == ("__debug__" : Str)) = false := by decide) : PE X (.Name x pos) (tC v) :=
  fun _ _ _ H _ I h => ld_blt I hg hm hv ⟨v, H, I, r, h⟩ hn hd
variable {a b : Expr} {ta tb : TE} {pos : Pos}
noncomputable def tB (t : TE) : TT := fun σ H Q => t σ H fun x H1 => ∃ c, x = .bl c ∧ Q c H1
private theorem pt_val {e : Expr} {t : TE} (h : PE X e t) (he : ∀ whole, isTrue e X.env whole = (do let v ← whole; standAt e.pos; holding [v] (truthy v)) := by intro _; rfl) : PT X e (tB t) := by
  intro pins s σ H Q I hw
  refine isTrue_plain (thn (h pins s σ H _ I hw) fun v s1 zz7 => e23 zz7 fun x H1 I1 r1 q1 => ?_) (he _)
  obtain ⟨d, rfl, q⟩ := q1
  cases r1
  exact wpAny_truthy_bool ⟨H1, I1, q⟩
variable {tA tB' : TT} {rest : List Expr}
noncomputable def tAnd (t u : TT) : TT := fun σ H Q => t σ H fun c H1 => if c = true then u σ H1 Q else Q false H1
noncomputable def tOr (t u : TT) : TT := fun σ H Q => t σ H fun c H1 => if c = true then Q true H1 else u σ H1 Q
noncomputable def tNot (t : TT) : TT := fun σ H Q => t σ H fun c H1 => Q (!c) H1
private theorem pw_and1 (ha : PT X a tA) : PW X (.BoolOp .And [a] pos) tA := by
  intro wh pins s σ H Q I h
  refine isTrue_and (thn (ha pins s σ H Q I h) fun c s1 e => ?_)
  cases c with
  | true => exact isTrue_and_nil e
  | false => exact e
private theorem pw_or1 (ha : PT X a tA) : PW X (.BoolOp .Or [a] pos) tA := by
  intro wh pins s σ H Q I h
  refine isTrue_or (thn (ha pins s σ H Q I h) fun c s1 e => ?_)
  cases c with
  | false => exact isTrue_or_nil e
  | true => exact e
private theorem pw_and (ha : PT X a tA) (hb : PW X (.BoolOp .And (b :: rest) pos) tB') : PW X (.BoolOp .And (a :: b :: rest) pos) (tAnd tA tB') := by
  intro wh pins s σ H Q I h
  refine isTrue_and (thn (ha pins s σ H _ I h) fun c s1 zz8 => e12 zz8 fun H1 I1 q1 => ?_)
  cases c with
  | true => exact hb wh pins s1 σ H1 Q I1 q1
  | false => exact ⟨H1, I1, q1⟩
private theorem pw_or (ha : PT X a tA) (hb : PW X (.BoolOp .Or (b :: rest) pos) tB') : PW X (.BoolOp .Or (a :: b :: rest) pos) (tOr tA tB') := by
  intro wh pins s σ H Q I h
  refine isTrue_or (thn (ha pins s σ H _ I h) fun c s1 zz9 => e12 zz9 fun H1 I1 q1 => ?_)
  cases c with
  | true => exact ⟨H1, I1, q1⟩
  | false => exact hb wh pins s1 σ H1 Q I1 q1
private theorem pt_not (ha : PT X a tA) : PT X (.UnaryOp .Not a pos) (tNot tA) := by
  intro pins s σ H Q I h
  exact isTrue_not (ha pins s σ H (fun c H1 => Q (!c) H1) I h)
noncomputable def tAndV (ta tb : TE) : TE := fun σ H Q => ta σ H fun x H1 => ∃ c, x = .bl c ∧ if c = true then tb σ H1 Q else Q (.bl false) H1
noncomputable def tOrV (ta tb : TE) : TE := fun σ H Q => ta σ H fun x H1 => ∃ c, x = .bl c ∧ if c = true then Q (.bl true) H1 else tb σ H1 Q
noncomputable def tNotV (ta : TE) : TE := fun σ H Q => ta σ H fun x H1 => ∃ c, x = .bl c ∧ Q (.bl (!c)) H1
private theorem pe_one {op} {t : TE} (h : PE X a t) : PE X (.BoolOp op [a] pos) t := fun pins s σ H Q I hw => BoolOp_one (h pins s σ H Q I hw)
private theorem pe_and (ha : PE X a ta) (hb : PE X (.BoolOp .And (b :: rest) pos) tb) : PE X (.BoolOp .And (a :: b :: rest) pos) (tAndV ta tb) := by
  intro pins s σ H Q I h
  refine BoolOp_and (thn (ha pins s σ H _ I h) fun v s1 zz10 => e23 zz10 fun x H1 I1 r1 q1 => ?_)
  obtain ⟨c, rfl, q1⟩ := q1
  cases r1
  refine wpAny_truthy_bool ?_
  cases c with
  | true => exact hb pins s1 σ H1 Q I1 q1
  | false => exact ⟨.bl false, H1, I1, rfl, q1⟩
private theorem pe_or (ha : PE X a ta) (hb : PE X (.BoolOp .Or (b :: rest) pos) tb) : PE X (.BoolOp .Or (a :: b :: rest) pos) (tOrV ta tb) := by
  intro pins s σ H Q I h
  refine BoolOp_or (thn (ha pins s σ H _ I h) fun v s1 zz11 => e23 zz11 fun x H1 I1 r1 q1 => ?_)
  obtain ⟨c, rfl, q1⟩ := q1
  cases r1
  refine wpAny_truthy_bool ?_
  cases c with
  | false => exact hb pins s1 σ H1 Q I1 q1
  | true => exact ⟨.bl true, H1, I1, rfl, q1⟩
private theorem pe_not (ha : PE X a ta) : PE X (.UnaryOp .Not a pos) (tNotV ta) := by
  intro pins s σ H Q I h
  refine UnaryOp_ (thn (ha pins s σ H _ I h) fun v s1 zz12 => e23 zz12 fun x H1 I1 r1 q1 => ?_)
  obtain ⟨c, rfl, q1⟩ := q1
  cases r1
  exact not_of (wpAny_truthy_bool ⟨.bl (!c), H1, I1, rfl, q1⟩)
noncomputable def tIf (t : TT) (ta tb : TE) : TE := fun σ H Q => t σ H fun c H1 => if c = true then ta σ H1 Q else tb σ H1 Q
private theorem pe_ifExp {c : Expr} (hc : PT X c tA) (ha : PE X a ta) (hb : PE X b tb) : PE X (.IfExp c a b pos) (tIf tA ta tb) := by
  intro pins s σ H Q I h
  refine wpAny_IfExp (thn (hc pins s σ H _ I h) fun d s1 zz13 => e12 zz13 fun H1 I1 q1 => ?_)
  cases d with
  | true => exact ha pins s1 σ H1 Q I1 q1
  | false => exact hb pins s1 σ H1 Q I1 q1
end
end L2
namespace L2
open PySem PySem.Spec PyProof.Rows
noncomputable def SqL (K : PySem.W.Frag) (H : Hp) (a : Addr) (xs : List V) : Prop :=
  Rd H a (.lst xs) ∨
    ∃ (o : Obj) (its : Array Value) (n : Nat), K.lookup a = some o ∧ o.cls = .type "list" ∧ o.dict = none ∧ o.data = .seq its n ∧ its.size ≤ sizeLine ∧ Vals xs its.toList
noncomputable def SqT (K : PySem.W.Frag) (H : Hp) (a : Addr) (xs : List V) : Prop :=
  Rd H a (.tup xs) ∨
    ∃ (o : Obj) (its : Array Value) (n : Nat), K.lookup a = some o ∧ o.cls = .type "tuple" ∧ o.data = .seq its n ∧ its.size ≤ sizeLine ∧ Vals xs its.toList
noncomputable def absV : Value → Option V
  | .none => some .non
  | .bool b => some (.bl b)
  | .int i _ => some (.int i)
  | .str x _ => some (.str x)
  | .bytes b _ => some (.byt b)
  | .float b _ => some (.flt b)
  | .ref a => some (.ref a)
  | .type n => some (.ty n)
  | _ => none
private theorem RelV.abs {x : V} {u : Value} (r : RelV x u) : absV u = some x := by
  cases x with
  | non => cases r; rfl
  | bl _ => cases r; rfl
  | int _ => obtain ⟨t, rfl⟩ := r; rfl
  | str _ => obtain ⟨t, rfl⟩ := r; rfl
  | byt _ => obtain ⟨t, rfl⟩ := r; rfl
  | flt _ => obtain ⟨t, rfl⟩ := r; rfl
  | ref _ => cases r; rfl
  | ty _ => cases r; rfl
private theorem RelV.inj {x y : V} {u : Value} (r : RelV x u) (q : RelV y u) : x = y := Option.some.inj (r.abs.symm.trans q.abs)
private theorem Vals.inj : ∀ {xs ys : List V} {us : List Value}, Vals xs us → Vals ys us → xs = ys
  | _, _, _, .nil, .nil => rfl
  | _, _, _, .cons r t, .cons r' t' => by rw [r.inj r', Vals.inj t t']
section
variable {X : Cx} {pins : List (Addr × Obj)} {σ : St} {H : Hp} {s : Shared} {a : Addr} {xs ys : List V}
private theorem SqL.of {K : PySem.W.Frag} (h : H a = some (.lst xs)) : SqL K H a xs := .inl (.inl h)
private theorem SqT.of {K : PySem.W.Frag} (h : H a = some (.tup xs)) : SqT K H a xs := .inl (.inl h)
private theorem Inv.list (I : Inv X pins σ H s) (h : SqL X.K H a xs) : ∃ its : List Value, Vals xs its ∧ PlainL s.heap a its.toArray ∧ xs.length ≤ sizeLine := by
  rcases h with h | ⟨o, its, n, hk, hc, hd, hs, hz, r⟩
  · obtain ⟨z, its, n, r, e⟩ := h.ok I.hok
    exact ⟨its, r, ⟨_, n, e, rfl, rfl, rfl⟩, z⟩
  · refine ⟨its.toList, r, ⟨o, n, I.kIn a o hk, hc, hd, by simpa using hs⟩, ?_⟩
    have e := r.length
    simp only [Array.length_toList] at e
    omega
private theorem Inv.tuple (I : Inv X pins σ H s) (h : SqT X.K H a xs) : ∃ its : List Value, Vals xs its ∧ IsTup s.heap a its.toArray ∧ xs.length ≤ sizeLine := by
  rcases h with h | ⟨o, its, n, hk, hc, hs, hz, r⟩
  · obtain ⟨z, its, r, p⟩ := h.ok I.hok
    exact ⟨its, r, p, z⟩
  · refine ⟨its.toList, r, ⟨o, I.kIn a o hk, hc, n, by simpa using hs⟩, ?_⟩
    have e := r.length
    simp only [Array.length_toList] at e
    omega
private theorem Inv.list_inj (I : Inv X pins σ H s) (h : SqL X.K H a xs) (h' : SqL X.K H a ys) : xs = ys := by
  obtain ⟨its, r, ⟨o, n, e, _, _, d⟩, _⟩ := I.list h
  obtain ⟨its', r', ⟨o', n', e', _, _, d'⟩, _⟩ := I.list h'
  rw [e] at e'; cases e'
  rw [d] at d'
  injection d' with d1 _
  have : its = its' := by simpa using congrArg Array.toList d1
  subst this
  exact r.inj r'
private theorem Inv.tuple_inj (I : Inv X pins σ H s) (h : SqT X.K H a xs) (h' : SqT X.K H a ys) : xs = ys := by
  obtain ⟨its, r, ⟨o, e, _, n, d⟩, _⟩ := I.tuple h
  obtain ⟨its', r', ⟨o', e', _, n', d'⟩, _⟩ := I.tuple h'
  rw [e] at e'; cases e'
  rw [d] at d'
  injection d' with d1 _
  have : its = its' := by simpa using congrArg Array.toList d1
  subst this
  exact r.inj r'
end
noncomputable abbrev Cx.wish (X : Cx) (E : Value → Shared → Prop) : Cx := { X with xe := E }
noncomputable abbrev Cx.nox (X : Cx) : Cx := X.wish fun _ _ => False
private theorem Cx.Ok.wish {X : Cx} (ok : X.Ok) (E : Value → Shared → Prop) : (X.wish E).Ok :=
  ⟨ok.mod, ok.kind, ok.glob, ok.blt, ok.above, ok.inj, ok.has, ok.cab, ok.hd, ok.frames, ok.stk, ok.exf, ok.bs, ok.bsz, ok.noex, ok.exfs, ok.funs, ok.frf⟩
private theorem Cx.Ok.unwish {X : Cx} {E : Value → Shared → Prop} (ok : (X.wish E).Ok) : X.Ok :=
  ⟨ok.mod, ok.kind, ok.glob, ok.blt, ok.above, ok.inj, ok.has, ok.cab, ok.hd, ok.frames, ok.stk, ok.exf, ok.bs, ok.bsz, ok.noex, ok.exfs, ok.funs, ok.frf⟩
section
variable {X : Cx} {pins : List (Addr × Obj)} {σ : St} {H : Hp} {s : Shared} {E : Value → Shared → Prop}
private theorem Inv.wish (I : Inv X pins σ H s) (E : Value → Shared → Prop) : Inv (X.wish E) pins σ H s := ⟨I.ok.wish E, I.os, I.bare, I.base, I.loc, I.cell, I.free, I.freeC, I.pin, I.hok, I.len⟩
private theorem Inv.unwish (I : Inv (X.wish E) pins σ H s) : Inv X pins σ H s := ⟨I.ok.unwish, I.os, I.bare, I.base, I.loc, I.cell, I.free, I.freeC, I.pin, I.hok, I.len⟩
private theorem SP.unwish {D : Ends} {f : Flow} {s' : Shared} (h : SP (X.wish E) pins D f s') : SP X pins D f s' := by
  cases f with
  | next => obtain ⟨σ', H', I, q⟩ := h; exact ⟨σ', H', I.unwish, q⟩
  | brk => obtain ⟨σ', H', I, q⟩ := h; exact ⟨σ', H', I.unwish, q⟩
  | cont => obtain ⟨σ', H', I, q⟩ := h; exact ⟨σ', H', I.unwish, q⟩
  | ret u => obtain ⟨v, σ', H', I, r, q⟩ := h; exact ⟨v, σ', H', I.unwish, r, q⟩
private theorem PT.nox {e : Expr} {t : TT} (h : PT X.nox e t) : PT X e t := fun pins s σ H Q I hw =>
  wpAny_mono (h pins s σ H Q (I.wish _) hw) (fun _ _ zz15 => e12 zz15 fun H' I' q => ⟨H', I'.unwish, q⟩) fun _ _ z => False.elim z
private theorem PSs.nox {st : List Stmt} {t : TS} (h : PSs X.nox st t) : PSs X st t := fun pins s σ H D I hw =>
  wpAny_mono (h pins s σ H D (I.wish _) hw) (fun _ _ q => q.unwish) fun _ _ z => False.elim z
end
section
variable {X : Cx} {st : Stmt} {rest : List Stmt} {t u : TS} {e : Expr} {te : TE} {pos : Pos}
noncomputable def tNext : TS := fun D σ H => D.nx σ H
noncomputable def tSeq (t u : TS) : TS := fun D σ H => t { D with nx := u D } σ H
private theorem pss_nil : PSs X [] tNext := fun _ _ σ H _ I h => wpAny_execs_nil ⟨σ, H, I, h⟩
private theorem pss_cons (h1 : PS X st t) (h2 : PSs X rest u) : PSs X (st :: rest) (tSeq t u) := by
  intro pins s σ H D I h
  refine wpAny_execs_cons (thn (h1 pins s σ H { D with nx := u D } I h) fun f s1 q => ?_)
  cases f with
  | next =>
    obtain ⟨σ', H', I', q⟩ := q
    exact h2 pins s1 σ' H' D I' q
  | ret v => exact q
  | brk => exact q
  | cont => exact q
private theorem pss_one (h1 : PS X st t) : PSs X [st] t := by
  intro pins s σ H D I h
  refine wpAny_execs_cons (thn (h1 pins s σ H D I h) fun f s1 q => ?_)
  cases f with
  | next => exact wpAny_execs_nil q
  | ret v => exact q
  | brk => exact q
  | cont => exact q
private theorem Inv.quiet {pins : List (Addr × Obj)} {σ : St} {H : Hp} {s : Shared} (I : Inv X pins σ H s) : interactive X.env = false := by simp [interactive, I.ok.kind]
noncomputable def tDrop (te : TE) : TS := fun D σ H => te σ H fun _ H1 => D.nx σ H1
private theorem ps_expr (he : PE X e te) (hs : swapsWith e none pos.line X.env = pure false := by rfl) : PS X (.Expr e pos) (tDrop te) := by
  intro pins s σ H D I h
  exact wpAny_Expr_any (thn (he pins s σ H _ I h) fun v s1 zz16 => e23 zz16 fun x H1 I1 r1 q1 => ⟨σ, H1, I1, q1⟩) I.quiet hs
noncomputable def tRet (te : TE) : TS := fun D σ H => te σ H D.rt
private theorem ps_ret (he : PE X e te) : PS X (.Return (some e) pos) (tRet te) := by
  intro pins s σ H D I h
  exact wpAny_Return_some (thn (he pins s σ H _ I h) fun v s1 zz17 => e23 zz17 fun x H1 I1 r1 q1 => ⟨x, σ, H1, I1, r1, q1⟩)
noncomputable def tIfS (c : TT) (t u : TS) : TS := fun D σ H => c σ H fun b H1 => if b = true then t D σ H1 else u D σ H1
private theorem ps_if {c : Expr} {a b : List Stmt} {tc : TT} (hc : PT X c tc) (ha : PSs X a t) (hb : PSs X b u) : PS X (.If c a b pos) (tIfS tc t u) := by
  intro pins s σ H D I h
  refine wpAny_If (thn (hc pins s σ H _ I h) fun d s1 zz18 => e12 zz18 fun H1 I1 q1 => ?_)
  cases d with
  | true => exact ha pins s1 σ H1 D I1 q1
  | false => exact hb pins s1 σ H1 D I1 q1
end
noncomputable abbrev TG := V → St → Hp → (St → Hp → Prop) → Prop
noncomputable abbrev TGs := List V → St → Hp → (St → Hp → Prop) → Prop
noncomputable def PG (X : Cx) (target : Expr) (t : TG) : Prop :=
  ∀ (pins : List (Addr × Obj)) (s : Shared) (σ : St) (H : Hp) (v : V) (u : Value) (Q : St → Hp → Prop), Inv X pins σ H s → RelV v u → t v σ H Q →
    wpAny (model X.prog X.w) X.A (assign target X.env u) (fun _ s' => ∃ σ' H', Inv X pins σ' H' s' ∧ Q σ' H') X.xe s
noncomputable def PGs (X : Cx) (ts : List Expr) (t : TGs) : Prop :=
  ∀ (pins : List (Addr × Obj)) (s : Shared) (σ : St) (H : Hp) (vs : List V) (us : List Value) (Q : St → Hp → Prop), Inv X pins σ H s → Vals vs us → t vs σ H Q →
    wpAny (model X.prog X.w) X.A (assignInOrder ((assignEach ts X.env).map (·.2)) us) (fun _ s' => ∃ σ' H', Inv X pins σ' H' s' ∧ Q σ' H') X.xe s
section
variable {X : Cx} {pos : Pos}
noncomputable def gName (i : Nat) : TG := fun v σ H Q => Q (σ.set i (some v)) H
private theorem pg_name {i : Nat} {x : Str} (hN : X.N.Nodup) (hi : X.N[i]? = some x) (hx : Loc X.env.scope x) (hf : X.fn x = true ∨ X.env.scope.names.lookup x = some .local := by first | exact .inl rfl | exact .inr rfl | assumption) : PG X (.Name x pos) (gName i) := by
  intro pins s σ H v u Q I r h
  exact wpAny_assign_Name (store_ok I hN hi hx r (fun s' I' => ⟨_, H, I', h⟩) hf)
noncomputable def gNil : TGs := fun vs σ H Q => vs = [] ∧ Q σ H
noncomputable def gCons (t : TG) (u : TGs) : TGs := fun vs σ H Q => ∃ v r, vs = v :: r ∧ t v σ H fun σ' H' => u r σ' H' Q
private theorem pgs_nil : PGs X [] gNil := by
  intro pins s σ H vs us Q I r h
  obtain ⟨e, h⟩ := h
  subst e
  cases r
  exact assignInOrder_nil ⟨σ, H, I, h⟩
private theorem pgs_cons {e : Expr} {es : List Expr} {t : TG} {u : TGs} (h1 : PG X e t) (h2 : PGs X es u)
    (hs : (assignEach (e :: es) X.env).map (·.2) = assign e X.env :: (assignEach es X.env).map (·.2) := by rfl) : PGs X (e :: es) (gCons t u) := by
  intro pins s σ H vs us Q I r h
  obtain ⟨v, vr, e1, h⟩ := h
  subst e1
  cases r with
  | cons r rr =>
    rw [hs]
    refine assignInOrder_cons (thn (h1 pins s σ H _ _ _ I r h) fun _ s1 zz19 => e22 zz19 fun σ1 H1 I1 q1 => ?_)
    exact h2 pins s1 σ1 H1 _ _ Q I1 rr q1
noncomputable def gTup (K : PySem.W.Frag) (n : Nat) (t : TGs) : TG := fun v σ H Q => ∃ a xs, v = .ref a ∧ SqT K H a xs ∧ xs.length = n ∧ t xs σ H Q
private theorem pg_tup {es : List Expr} {k : Nat} {t : TGs} {n : Nat} (hc : X.calm = true) (h : PGs X es t)
    (hn : (assignEach es X.env).length = n := by rfl) (hst : (assignEach es X.env).findIdx? (·.1) = none := by rfl) : PG X (.Tuple es k pos) (gTup X.K n t) := by
  intro pins s σ H v u Q I r hw
  obtain ⟨a, xs, e1, hq, hl, hw⟩ := hw
  subst e1
  cases r
  obtain ⟨its, rv, ht, hz⟩ := I.tuple hq
  refine assign_Tuple_tuple (I.ok.hd hc) ht (by simp [hn, ← hl, rv.length]) hst fun h' hx => ?_
  have I1 : Inv X pins σ H { s with heap := h' } := I.kept (t' := s.toks) fun b o e => hx b o (Nat.ne_of_lt (Heap.lt_size e)) e
  exact h pins _ σ H xs _ Q I1 (by simpa using rv) hw
noncomputable def tAsg (te : TE) (g : TG) : TS := fun D σ H => te σ H fun x H1 => g x σ H1 D.nx
private theorem ps_asg {tg e : Expr} {te : TE} {g : TG} (he : PE X e te) (hg : PG X tg g) (hs : swapsWithSole [tg] e pos.line X.env = pure false := by rfl) (hw : swappedStores [tg] e X.env = pure none := by rfl)
    (h1 : (assignEach [tg] X.env).map (·.2) = [assign tg X.env] := by rfl) : PS X (.Assign [tg] e pos) (tAsg te g) := by
  intro pins s σ H D I h
  refine wpAny_Assign_stores (thn (he pins s σ H _ I h) fun v s1 zz23 => e23 zz23 fun x H1 I1 r1 q1 => ?_) hs hw
  rw [h1]
  exact thn (hg pins s1 σ H1 x v _ I1 r1 q1) fun _ s2 q => q
private theorem ps_set {i : Nat} {x : Str} {e : Expr} {te : TE} {pos' : Pos} (hN : X.N.Nodup) (hi : X.N[i]? = some x) (hx : Loc X.env.scope x) (he : PE X e te) (hs : swapsWith e (some (.Name x pos')) pos.line X.env = pure false := by rfl) (hf : X.fn x = true ∨ X.env.scope.names.lookup x = some .local := by first | exact .inl rfl | exact .inr rfl | assumption) :
    PS X (.Assign [.Name x pos'] e pos) (tAsg te (gName i)) := by
  intro pins s σ H D I h
  refine wpAny_Assign_Name (thn (he pins s σ H _ I h) fun v s1 zz24 => e23 zz24 fun y H1 I1 r1 q1 => ?_) hs
  exact store_ok I1 hN hi hx r1 (fun s2 I2 => ⟨_, H1, I2, q1⟩) hf
end
section
variable {X : Cx} {pos : Pos}
noncomputable def tWhile (c : TT) (tb : TS) : TS := fun D σ H => ∃ W : Nat → St → Hp → Prop, (∃ m, W m σ H) ∧ ∀ m σ H, W m σ H →
  c σ H fun b H1 => if b = true then ∃ N : St → Hp → Prop, (∀ σ' H', N σ' H' → ∃ m', m' < m ∧ W m' σ' H') ∧ tb { D with nx := N, ct := N, bk := D.nx } σ H1 else D.nx σ H1
private theorem ps_while {c : Expr} {body : List Stmt} {tc : TT} {tb : TS} (hp : PassesOwn (model X.prog X.w) X.A X.env X.xe) (hc : PT X c tc) (hb : PSs X body tb) : PS X (.While c body [] pos) (tWhile tc tb) := by
  intro pins s σ H D I h
  obtain ⟨W, ⟨m0, w0⟩, turn⟩ := h
  refine wpAny_While (codeAny_whileLoop (fun n s' => ∃ σ' H', Inv X pins σ' H' s' ∧ W n σ' H') ?_ m0 ⟨σ, H, I, w0⟩)
  rintro n s1 ⟨σ1, H1, I1, w1⟩
  refine wpAny_passesOwn hp (thn (hc pins s1 σ1 H1 _ I1 (turn n σ1 H1 w1)) fun b s2 zz34 => e12 zz34 fun H2 I2 q2 => ?_)
  cases b with
  | true =>
    obtain ⟨N, hN, q2⟩ := q2
    rw [if_pos rfl]
    refine wpAny_passesOwn hp (thn (hb pins s2 σ1 H2 _ I2 q2) fun f s3 q3 => ?_)
    cases f with
    | next =>
      obtain ⟨σ3, H3, I3, n3⟩ := q3
      obtain ⟨m', hm, w3⟩ := hN σ3 H3 n3
      exact ⟨m', hm, σ3, H3, I3, w3⟩
    | cont =>
      obtain ⟨σ3, H3, I3, n3⟩ := q3
      obtain ⟨m', hm, w3⟩ := hN σ3 H3 n3
      exact ⟨m', hm, σ3, H3, I3, w3⟩
    | brk => exact q3
    | ret v => exact q3
  | false =>
    rw [if_neg Bool.false_ne_true]
    exact wpAny_execs_nil ⟨σ1, H2, I2, q2⟩
end
structure It where
  go : Nat → Hp → Prop
  yld : Nat → Hp → V → Hp → Prop
  stop : Nat → Hp → Prop
noncomputable def FpOk (X : Cx) (pins : List (Addr × Obj)) (H : Hp) (b : Addr) : Prop :=
  H b = none ∧ b ≠ X.env.locals ∧ b ∉ X.fs ∧ (b ∈ X.ex ∨ X.s₀.heap.objs.size ≤ b) ∧ (∀ x c, X.env.cells.lookup x = some c → c ≠ b) ∧ ∀ p ∈ X.pn ++ pins, p.1 ≠ b
private theorem Inv.fpOk {X : Cx} {pins : List (Addr × Obj)} {σ : St} {H H' : Hp} {s : Shared} {b : Addr} (I : Inv X pins σ H s) (hb : s.heap.objs.size ≤ b) (hn : H' b = none) : FpOk X pins H' b := by
  refine ⟨hn, Nat.ne_of_gt (Nat.lt_of_lt_of_le I.lt hb), I.nofs hb, .inr (Nat.le_trans I.sz hb), fun x c e z => ?_, fun p hp z => ?_⟩
  · obtain ⟨v, q⟩ := I.cell x c e
    exact absurd (Nat.lt_of_lt_of_le q.lt (by rw [z]; exact hb)) (Nat.lt_irrefl _)
  · exact absurd (Nat.lt_of_lt_of_le (Heap.lt_size (I.pin p hp).1) (by rw [z]; exact hb)) (Nat.lt_irrefl _)
structure TurnY (Y : Cx → Prop) (P : Program) (w : World) (K : PySem.W.Frag) (tg : Expr) (J : It) (fp : List Addr) (it : Addr) (tn : Nat → Heap → Prop) : Prop where
  mem : it ∈ fp
  obj : ∀ i h, tn i h → ∀ b ∈ fp, ∃ o, h.get? b = some o ∧ ∀ v, o.data ≠ .cell v
  keep : ∀ i h h', tn i h → (∀ b ∈ fp, ∀ o, h.get? b = some o → h'.get? b = some o) → tn i h'
  item : ∀ (X : Cx), X.prog = P → X.w = w → X.K = K → Y X → ∀ (i : Nat) (pins : List (Addr × Obj)) (s : Shared) (σ : St) (H : Hp) (E : Value → Shared → Prop), Inv X pins σ H s → (∀ b ∈ fp, FpOk X pins H b) → tn i s.heap → J.go i H →
    wpAny (model P w) X.A (pyNext (.ref it)) (fun r s1 => ∃ u, r = some u ∧
      wpAny (model P w) X.A (letOwnedTupleGo tg (.ref it) u) (fun _ s2 => ∃ x H', Inv X pins σ H' s2 ∧ RelV x u ∧ J.yld i H x H' ∧ tn (i + 1) s2.heap ∧ ∀ b ∈ fp, H' b = none) E s1) E s
  done : ∀ (X : Cx), X.prog = P → X.w = w → X.K = K → Y X → ∀ (i : Nat) (pins : List (Addr × Obj)) (s : Shared) (σ : St) (H : Hp) (E : Value → Shared → Prop), Inv X pins σ H s → (∀ b ∈ fp, FpOk X pins H b) → tn i s.heap → J.stop i H →
    wpAny (model P w) X.A (pyNext (.ref it)) (fun r s1 => r = none ∧ Inv X pins σ H s1) E s
  self : ∀ (A : Around) (i : Nat) (s : Shared) (Q : Value → Shared → Prop) (E : Value → Shared → Prop), tn i s.heap → Q (.ref it) s → wpAny (model P w) A (pyIter (.ref it)) Q E s
noncomputable abbrev Turn := TurnY fun X => X.calm = true
noncomputable abbrev TI := St → Hp → (It → Hp → Prop) → Prop
noncomputable def PIEY (Y : Cx → Prop) (X : Cx) (pins : List (Addr × Obj)) (σ : St) (tg : Expr) (R : It → Hp → Prop) (itv : Value) (s2 : Shared) : Prop :=
  ∃ (it : Addr) (fp : List Addr) (tn : Nat → Heap → Prop) (J : It) (H' : Hp), itv = .ref it ∧ Inv X pins σ H' s2 ∧ TurnY Y X.prog X.w X.K tg J fp it tn ∧ tn 0 s2.heap ∧ (∀ b ∈ fp, FpOk X pins H' b) ∧ R J H'
noncomputable abbrev PIE := PIEY fun X => X.calm = true
noncomputable def PIY (Y : Cx → Prop) (X : Cx) (tg iter : Expr) (wi : TI) : Prop :=
  ∀ (pins : List (Addr × Obj)) (s : Shared) (σ : St) (H : Hp) (R : It → Hp → Prop), Inv X pins σ H s → wi σ H R →
    wpAny (model X.prog X.w) X.A (eval iter X.env) (fun v s1 => wpAny (model X.prog X.w) X.A (pyIter v) (PIEY Y X pins σ tg R) X.xe s1) X.xe s
noncomputable abbrev PI := PIY fun X => X.calm = true
private theorem go_of {M : Model} {A : Around} {E : Value → Shared → Prop} {s : Shared} {tg : Expr} {it : Addr} {u : Value} {o : Obj} {n : String} {vs : Array Value} {Q : Unit → Shared → Prop} (ho : s.heap.get? it = some o) (hc : o.cls = .type n) (hd : o.data = .fields vs)
    (hn : ["enumerate", "zip", "dict_itemiterator", "dict_reverseitemiterator", "odict_iterator", "itertools.zip_longest", "itertools.pairwise"].contains n = false) (hQ : Q () s) : wpAny M A (letOwnedTupleGo tg (.ref it) u) Q E s := by
  unfold letOwnedTupleGo
  cases tg <;> first
    | exact wpAny_pure hQ
    | (cases u <;> first
        | exact wpAny_pure hQ
        | (refine wpAny_bind (wpAny_load ho ?_)
           rw [hc, hd]
           show wpAny M A (if (["enumerate", "zip", "dict_itemiterator", "dict_reverseitemiterator", "odict_iterator", "itertools.zip_longest", "itertools.pairwise"].contains n && vs[0]? == some (rawInt _)) = true then _ else _) Q E s
           rw [if_neg (by intro h; rw [hn, Bool.false_and] at h; cases h)]
           exact wpAny_pure hQ))
noncomputable def Itl (K : PySem.W.Frag) (a : Addr) : It :=
  ⟨fun i H => ∃ xs x, SqL K H a xs ∧ xs[i]? = some x, fun i H x H' => H' = H ∧ ∀ xs, SqL K H a xs → xs[i]? = some x, fun i H => ∃ xs, SqL K H a xs ∧ xs.length ≤ i⟩
noncomputable def Itt (K : PySem.W.Frag) (a : Addr) : It :=
  ⟨fun i H => ∃ xs x, SqT K H a xs ∧ xs[i]? = some x, fun i H x H' => H' = H ∧ ∀ xs, SqT K H a xs → xs[i]? = some x, fun i H => ∃ xs, SqT K H a xs ∧ xs.length ≤ i⟩
noncomputable def Itr (lo : Int) (n : Nat) : It := ⟨fun i _ => i < n, fun i H x H' => H' = H ∧ x = .int (lo + i), fun i _ => n ≤ i⟩
private theorem turn_list {P : Program} {w : World} {K : PySem.W.Frag} {tg : Expr} (a it : Addr) : Turn P w K tg (Itl K a) [it] it (fun i h => h.IsListIter it a i) where
  mem := by simp
  obj := fun i h st b hb => by
    have e : b = it := by simpa using hb
    subst e
    obtain ⟨o, e, c, d⟩ := st
    exact ⟨o, e, fun v z => by rw [d] at z; cases z⟩
  keep := fun i h h' st k => st.at fun o e => k it (by simp) o e
  item := by
    intro X hP hw hK hc i pins s σ H E I hf st hg
    subst hP hw hK
    obtain ⟨xs, x, hq, hx⟩ := hg
    obtain ⟨its, rv, p, hz⟩ := I.list hq
    obtain ⟨u, hu, ru⟩ := rv.get hx
    obtain ⟨f0, f1, f2, f3, f4, f5⟩ := hf it (by simp)
    refine wpAny_pyNext_list_item st p.isList (x := u) (by simpa using hu) fun h' st' sb => ?_
    have I1 : Inv X pins σ H { s with heap := h' } := I.turned (t' := s.toks) (fun b o hb e => (sb.2 b hb).trans e) f0 f1 f3 f4 f5
    obtain ⟨o, e, c, d⟩ := id st'
    exact ⟨u, rfl, go_of (s := { s with heap := h' }) e c d (by decide) ⟨x, H, I1, ru, ⟨rfl, fun ys hy => by rw [I.list_inj hy hq]; exact hx⟩, st', fun b hb => (hf b hb).1⟩⟩
  done := by
    intro X hP hw hK hc i pins s σ H E I hf st hg
    subst hP hw hK
    obtain ⟨xs, hq, hx⟩ := hg
    obtain ⟨its, rv, p, hz⟩ := I.list hq
    obtain ⟨f0, f1, f2, f3, f4, f5⟩ := hf it (by simp)
    have hl := rv.length
    exact wpAny_pyNext_list_end (I.ok.hd hc) st p.isList (by simp; omega) fun h' eb => ⟨rfl, I.turned (t' := s.toks) (fun b o hb e => eb b o hb e) f0 f1 f3 f4 f5⟩
  self := fun _ _ _ _ _ st h => wpAny_pyIter_listiter st h
private theorem turn_tuple {P : Program} {w : World} {K : PySem.W.Frag} {tg : Expr} (a it : Addr) : Turn P w K tg (Itt K a) [it] it (fun i h => h.IsTupleIter it a i) where
  mem := by simp
  obj := fun i h st b hb => by
    have e : b = it := by simpa using hb
    subst e
    obtain ⟨o, e, c, d⟩ := st
    exact ⟨o, e, fun v z => by rw [d] at z; cases z⟩
  keep := fun i h h' st k => st.at fun o e => k it (by simp) o e
  item := by
    intro X hP hw hK hc i pins s σ H E I hf st hg
    subst hP hw hK
    obtain ⟨xs, x, hq, hx⟩ := hg
    obtain ⟨its, rv, p, hz⟩ := I.tuple hq
    obtain ⟨u, hu, ru⟩ := rv.get hx
    obtain ⟨f0, f1, f2, f3, f4, f5⟩ := hf it (by simp)
    refine wpAny_pyNext_tuple_item st (show s.heap.IsTuple a its.toArray from p) (x := u) (by simpa using hu) fun h' st' sb => ?_
    have I1 : Inv X pins σ H { s with heap := h' } := I.turned (t' := s.toks) (fun b o hb e => (sb.2 b hb).trans e) f0 f1 f3 f4 f5
    obtain ⟨o, e, c, d⟩ := id st'
    exact ⟨u, rfl, go_of (s := { s with heap := h' }) e c d (by decide) ⟨x, H, I1, ru, ⟨rfl, fun ys hy => by rw [I.tuple_inj hy hq]; exact hx⟩, st', fun b hb => (hf b hb).1⟩⟩
  done := by
    intro X hP hw hK hc i pins s σ H E I hf st hg
    subst hP hw hK
    obtain ⟨xs, hq, hx⟩ := hg
    obtain ⟨its, rv, p, hz⟩ := I.tuple hq
    obtain ⟨f0, f1, f2, f3, f4, f5⟩ := hf it (by simp)
    have hl := rv.length
    exact wpAny_pyNext_tuple_end (I.ok.hd hc) st (show s.heap.IsTuple a its.toArray from p) (by simp; omega) fun h' eb => ⟨rfl, I.turned (t' := s.toks) (fun b o hb e => eb b o hb e) f0 f1 f3 f4 f5⟩
  self := fun _ _ _ _ _ st h => wpAny_pyIter_tupleiter st h
private theorem turn_range {P : Program} {w : World} {K : PySem.W.Frag} {tg : Expr} (it : Addr) (lo : Int) (n : Nat) : Turn P w K tg (Itr lo n) [it] it (fun i h => IsRangeIter h it (lo + (i : Nat) * 1) ((n : Int) - (i : Nat)) 1) where
  mem := by simp
  obj := fun i h st b hb => by
    have e : b = it := by simpa using hb
    subst e
    exact ⟨_, st, fun v z => by
      have z' : Data.fields _ = Data.cell v := z
      cases z'⟩
  keep := fun i h h' st k => k it (by simp) _ st
  item := by
    intro X hP hw hK hc i pins s σ H E I hf st hg
    subst hP hw hK
    obtain ⟨f0, f1, f2, f3, f4, f5⟩ := hf it (by simp)
    have W := Walks.range (prog := X.prog) (w := X.w) (I.ok.hd hc) it lo 1 n
    refine W.item i s _ _ hg st fun v h' tk hv st' kk => ?_
    obtain ⟨t, rfl⟩ := hv
    have I1 : Inv X pins σ H { s with heap := h', toks := tk } := I.turned (fun b o hb e => kk b o (by simpa using hb) e) f0 f1 f3 f4 f5
    refine ⟨_, rfl, go_of (s := { s with heap := h', toks := tk }) (n := "range_iterator") st' rfl rfl (by decide) ⟨.int (lo + i), H, I1, ⟨t, ?_⟩, ⟨rfl, rfl⟩, st', fun b hb => (hf b hb).1⟩⟩
    rw [Int.mul_one]
  done := by
    intro X hP hw hK hc i pins s σ H E I hf st hg
    subst hP hw hK
    obtain ⟨f0, f1, f2, f3, f4, f5⟩ := hf it (by simp)
    exact wpAny_pyNext_range_end (I.ok.hd hc) st (by have : n ≤ i := hg; omega) fun h' eb => ⟨rfl, I.turned (t' := s.toks) (fun b o hb e => eb b o hb e) f0 f1 f3 f4 f5⟩
  self := fun _ _ _ _ _ st h => wpAny_pyIter_rangeiter st h
end L2
namespace L2
open PySem PySem.Spec PyProof.Rows
section
variable {X : Cx} {tg : Expr}
noncomputable def iList (K : PySem.W.Frag) (tl : TE) : TI := fun σ H R => tl σ H fun x H1 => ∃ a, x = .ref a ∧ (∃ xs, SqL K H1 a xs) ∧ R (Itl K a) H1
private theorem pi_list {l : Expr} {tl : TE} (hl : PE X l tl) : PI X tg l (iList X.K tl) := by
  intro pins s σ H R I h
  refine thn (hl pins s σ H _ I h) fun v s1 zz35 => e23 zz35 fun x H1 I1 r1 q1 => ?_
  obtain ⟨a, e, ⟨xs, hq⟩, q⟩ := q1
  subst e
  cases r1
  obtain ⟨its, rv, p, hz⟩ := I1.list hq
  refine wpAny_pyIter_list p.isList ?_
  refine ⟨s1.heap.objs.size, [s1.heap.objs.size], _, _, H1, rfl, I1.kept (t' := s1.toks) fun b o e => Heap.get?_push_of_some _ e, turn_list a _, ⟨_, Heap.get?_push_size _ rfl, rfl, rfl⟩, fun b hb => ?_, q⟩
  have e : b = s1.heap.objs.size := by simpa using hb
  subst e
  exact I1.fpOk (Nat.le_refl _) (I1.hok.fresh (Nat.le_refl _))
private theorem range_it {pins : List (Addr × Obj)} {σ : St} {H : Hp} {s : Shared} {R : It → Hp → Prop} {E : Value → Shared → Prop} {lo hi : Int} {t u v : Tok} {tk : Nat} (I : Inv X pins σ H s) (h1 : -(2 ^ 62) ≤ lo) (h2 : lo < 2 ^ 62) (h3 : -(2 ^ 62) ≤ hi) (h4 : hi < 2 ^ 62)
    (q : R (Itr lo (hi - lo).toNat) H) : wpAny (model X.prog X.w) X.A (pyIter (.ref s.heap.objs.size)) (PIE X pins σ tg R) E { s with heap := s.heap.push { cls := .type "range", data := .fields #[.int lo t, .int hi u, .int 1 v] }, toks := tk } := by
  refine wpAny_pyIter_range (IsRange.new ..) (small_one h1 h2 h3 h4) ?_
  have I1 : Inv X pins σ H { s with heap := s.heap.push { cls := .type "range", data := .fields #[.int lo t, .int hi u, .int 1 v] }, toks := tk } := I.kept fun b o e => Heap.get?_push_of_some _ e
  refine ⟨(s.heap.push { cls := .type "range", data := .fields #[.int lo t, .int hi u, .int 1 v] }).objs.size, [(s.heap.push { cls := .type "range", data := .fields #[.int lo t, .int hi u, .int 1 v] }).objs.size], _, _, H, rfl,
    I1.kept (t' := tk) fun b o e => Heap.get?_push_of_some _ e, turn_range _ lo (hi - lo).toNat, ?_, fun b hb => ?_, q⟩
  · have e1 : lo + ((0 : Nat) : Int) * 1 = lo := by simp
    have e2 : (((hi - lo).toNat : Nat) : Int) - ((0 : Nat) : Int) = Builtin.Range.rangeSize lo hi 1 := by rw [rangeSize_one]; split <;> omega
    show IsRangeIter _ _ (lo + ((0 : Nat) : Int) * 1) ((((hi - lo).toNat : Nat) : Int) - ((0 : Nat) : Int)) 1
    rw [e1, e2]
    exact Heap.get?_push_size _ rfl
  · have e : b = (s.heap.push { cls := .type "range", data := .fields #[.int lo t, .int hi u, .int 1 v] }).objs.size := by simpa using hb
    subst e
    exact I1.fpOk (Nat.le_refl _) (I1.hok.fresh (Nat.le_refl _))
noncomputable def iRng1 (ta : TA) : TI := fun σ H R => ta σ H fun vs H1 => ∃ j : Int, vs = [.int j] ∧ -(2 ^ 62) ≤ j ∧ j < 2 ^ 62 ∧ R (Itr 0 j.toNat) H1
private theorem pi_range1 {a : Expr} {ta : TA} {p pos : Pos} (hg : Gl X "range") (hm : X.mg "range" = none) (ha : PA X [a] ta) (hs : starEach [a] X.env = [(false, eval a X.env)] := by rfl) : PI X tg (.Call (.Name "range" p) [a] [] pos) (iRng1 ta) := by
  intro pins s σ H R I h
  refine Call_ (ld_blt I hg hm boot_range (PyProof.Rows.callWith_type1 (thn (ha pos pins s σ H _ I h) fun us s1 zz37 => e23 zz37 fun vs H1 I1 r1 q1 => ?_) hs rfl))
  obtain ⟨j, e, q1, q2, q⟩ := q1
  subst e
  cases r1 with
  | cons r rr =>
    cases rr
    obtain ⟨t, rfl⟩ := r
    exact call_range_1 (range_it I1 (by omega) (by omega) q1 q2 (by simpa using q))
noncomputable def tFor (wi : TI) (g : TG) (tb : TS) : TS := fun D σ H => wi σ H fun J H1 => ∃ W : Nat → Nat → St → Hp → Prop, (∃ m, W 0 m σ H1) ∧ ∀ i m σ H, W i m σ H →
  (J.stop i H ∧ D.nx σ H) ∨ (J.go i H ∧ ∃ N : St → Hp → Prop, (∀ σ' H', N σ' H' → ∃ m', m' < m ∧ W (i + 1) m' σ' H') ∧ ∀ x H', J.yld i H x H' → g x σ H' fun σ2 H2 => tb { D with nx := N, ct := N, bk := D.nx } σ2 H2)
noncomputable def pinsAt (fp : List Addr) (h : Heap) : List (Addr × Obj) := fp.filterMap fun b => (h.get? b).map fun o => (b, o)
private theorem mem_pinsAt {fp : List Addr} {h : Heap} {b : Addr} {o : Obj} (hb : b ∈ fp) (e : h.get? b = some o) : (b, o) ∈ pinsAt fp h := List.mem_filterMap.mpr ⟨b, hb, by rw [e]; rfl⟩
private theorem of_pinsAt {fp : List Addr} {h : Heap} {p : Addr × Obj} (hp : p ∈ pinsAt fp h) : p.1 ∈ fp ∧ h.get? p.1 = some p.2 := by
  obtain ⟨b, hb, e⟩ := List.mem_filterMap.mp hp
  cases q : h.get? b with
  | none => rw [q] at e; cases e
  | some o =>
    rw [q] at e
    have e' : (b, o) = p := Option.some.inj e
    subst e'
    exact ⟨hb, q⟩
private theorem Inv.pinned {pins : List (Addr × Obj)} {σ : St} {H : Hp} {s : Shared} {fp : List Addr} (I : Inv X pins σ H s) (hf : ∀ b ∈ fp, FpOk X pins H b) (ho : ∀ b ∈ fp, ∃ o, s.heap.get? b = some o ∧ ∀ v, o.data ≠ .cell v) : Inv X (pins ++ pinsAt fp s.heap) σ H s :=
  I.pins_of fun p hp => (List.mem_append.mp hp).elim (fun z => I.pin p (List.mem_append_right _ z)) fun z => by
    obtain ⟨hb, e⟩ := of_pinsAt z
    obtain ⟨f0, f1, f2, _⟩ := hf p.1 hb
    obtain ⟨o, e', d⟩ := ho p.1 hb
    rw [e] at e'; cases e'
    exact ⟨e, f0, f1, f2, d⟩
private theorem Inv.unpinned {pins pl : List (Addr × Obj)} {σ : St} {H : Hp} {s : Shared} (I : Inv X (pins ++ pl) σ H s) : Inv X pins σ H s := I.pins_of fun p hp => I.pin p (List.mem_append_right _ (List.mem_append_left _ hp))
private theorem ps_for {iter : Expr} {body : List Stmt} {wi : TI} {g : TG} {tb : TS} {pos : Pos} (hp : PassesOwn (model X.prog X.w) X.A X.env X.xe) (hc : X.calm = true) (hi : PI X tg iter wi) (hg : PG X tg g) (hb : PSs X body tb)
    (hs : ∀ x, foldedSetIterable iter X.env x = pure x := by intro _; rfl) : PS X (.For tg iter body [] pos) (tFor wi g tb) := by
  intro pins s σ H D I h
  refine wpAny_For (thn (hi pins s σ H _ I h) fun v s1 h1 => thn h1 fun itv s2 h2 => ?_) hs
  obtain ⟨it, fp, tn, J, H2, e, I2, T, st2, f2, W, ⟨m0, w0⟩, turn⟩ := h2
  subst e
  -- what stays true of the iterator's objects through the loop
  have stat : ∀ {H' : Hp}, (∀ b ∈ fp, H' b = none) → ∀ b ∈ fp, FpOk X pins H' b := fun hn b hb => ⟨hn b hb, (f2 b hb).2⟩
  refine codeAny_forLoop_any (fun n s' => ∃ i σ' H', Inv X pins σ' H' s' ∧ tn i s'.heap ∧ (∀ b ∈ fp, H' b = none) ∧ W i n σ' H') ?_ m0 ⟨0, σ, H2, I2, st2, fun b hb => (f2 b hb).1, w0⟩
  rintro n s3 ⟨i, σ3, H3, I3, st3, fr3, w3⟩
  rcases turn i n σ3 H3 w3 with ⟨stop, qn⟩ | ⟨go, N, hN, step⟩
  · refine wpAny_passesOwn hp (thn (T.done X rfl rfl rfl hc i pins s3 σ3 H3 X.xe I3 (stat fr3) st3 stop) fun r s4 ⟨hr, I4⟩ => ?_)
    subst hr
    exact wpAny_execs_nil ⟨σ3, H3, I4, qn⟩
  · refine wpAny_passesOwn hp (thn (T.item X rfl rfl rfl hc i pins s3 σ3 H3 X.xe I3 (stat fr3) st3 go) fun r s4 ⟨u, hr, h4⟩ => ?_)
    subst hr
    refine wpAny_passesOwn hp (thn h4 fun _ s5 ⟨x, H5, I5, r5, y5, st5, fr5⟩ => ?_)
    have I5' := I5.pinned (stat fr5) (T.obj _ _ st5)
    refine wpAny_passesOwn hp (thn (hg _ s5 σ3 H5 x u _ I5' r5 (step x H5 y5)) fun _ s6 zz42 => e22 zz42 fun σ6 H6 I6 q6 => ?_)
    refine wpAny_passesOwn hp (thn (hb _ s6 σ6 H6 _ I6 q6) fun f s7 q7 => ?_)
    have again : ∀ {σ7 : St} {H7 : Hp}, Inv X (pins ++ pinsAt fp s5.heap) σ7 H7 s7 → N σ7 H7 → ∃ m, m < n ∧ ∃ i σ' H', Inv X pins σ' H' s7 ∧ tn i s7.heap ∧ (∀ b ∈ fp, H' b = none) ∧ W i m σ' H' := fun {σ7 H7} I7 n7 => by
      obtain ⟨m', hm, w7⟩ := hN σ7 H7 n7
      refine ⟨m', hm, i + 1, σ7, H7, I7.unpinned, T.keep _ _ _ st5 fun b hb o e => (I7.pin (b, o) (List.mem_append_right _ (List.mem_append_right _ (mem_pinsAt hb e)))).1, fun b hb => ?_, w7⟩
      obtain ⟨o, e, d⟩ := T.obj _ _ st5 b hb
      exact (I7.pin (b, o) (List.mem_append_right _ (List.mem_append_right _ (mem_pinsAt hb e)))).2.1
    cases f with
    | next => obtain ⟨σ7, H7, I7, n7⟩ := q7; exact again I7 n7
    | cont => obtain ⟨σ7, H7, I7, n7⟩ := q7; exact again I7 n7
    | brk => obtain ⟨σ7, H7, I7, q7⟩ := q7; exact ⟨σ7, H7, I7.unpinned, q7⟩
    | ret v => obtain ⟨x7, σ7, H7, I7, r7, q7⟩ := q7; exact ⟨x7, σ7, H7, I7.unpinned, r7, q7⟩
end
end L2
namespace L2
open PySem PySem.Spec PyProof.Rows
noncomputable abbrev R2 := V → V → Hp → VK → Prop
noncomputable def OpR (X : Cx) (f : Value → Value → Sem Value) (r : R2) : Prop :=
  ∀ (pins : List (Addr × Obj)) (s : Shared) (σ : St) (H : Hp) (x y : V) (v u : Value) (Q : VK), Inv X pins σ H s → RelV x v → RelV y u → r x y H Q →
    wpAny (model X.prog X.w) X.A (f v u) (EP X pins σ Q) X.xe s
noncomputable def UnR (X : Cx) (f : Value → Sem Value) (r : V → Hp → VK → Prop) : Prop :=
  ∀ (pins : List (Addr × Obj)) (s : Shared) (σ : St) (H : Hp) (x : V) (v : Value) (Q : VK), Inv X pins σ H s → RelV x v → r x H Q →
    wpAny (model X.prog X.w) X.A (f v) (EP X pins σ Q) X.xe s
noncomputable def CallR (X : Cx) (f : Value) (r : List V → Hp → VK → Prop) : Prop :=
  ∀ (pins : List (Addr × Obj)) (s : Shared) (σ : St) (H : Hp) (xs : List V) (us : List Value) (Q : VK), Inv X pins σ H s → Vals xs us → r xs H Q →
    wpAny (model X.prog X.w) X.A (call f us) (EP X pins σ Q) X.xe s
noncomputable def tOp (r : R2) (ta tb : TE) : TE := fun σ H Q => ta σ H fun x H1 => tb σ H1 fun y H2 => r x y H2 Q
noncomputable def tUn (r : V → Hp → VK → Prop) (ta : TE) : TE := fun σ H Q => ta σ H fun x H1 => r x H1 Q
noncomputable def rI (C : Int → Int → Prop) (g : Int → Int → V) : R2 := fun x y H Q => ∃ i j, x = .int i ∧ y = .int j ∧ C i j ∧ Q (g i j) H
noncomputable def rI0 (g : Int → Int → V) : R2 := fun x y H Q => ∃ i j, x = .int i ∧ y = .int j ∧ Q (g i j) H
noncomputable def rU (g : Int → V) : V → Hp → VK → Prop := fun x H Q => ∃ i, x = .int i ∧ Q (g i) H
section
variable {X : Cx} {a b c : Expr} {ta tb tc : TE} {pos : Pos}
private theorem binT (ha : PE X a ta) (hb : PE X b tb) {pins : List (Addr × Obj)} {s : Shared} {σ : St} {H : Hp} {R : V → V → Hp → Prop} (I : Inv X pins σ H s)
    (h : ta σ H fun x H1 => tb σ H1 fun y H2 => R x y H2) {Q : Value → Shared → Prop} {f : Value → Value → Sem Value}
    (hf : ∀ v u s2 x y H2, Inv X pins σ H2 s2 → RelV x v → RelV y u → R x y H2 → wpAny (model X.prog X.w) X.A (f v u) Q X.xe s2) :
    wpAny (model X.prog X.w) X.A (eval a X.env) (fun v s₁ => wpAny (model X.prog X.w) X.A (eval b X.env) (fun u s₂ => wpAny (model X.prog X.w) X.A (f v u) Q X.xe s₂) X.xe s₁) X.xe s := by
  refine thn (ha pins s σ H _ I h) fun v s1 zz44 => e23 zz44 fun x H1 I1 r1 q1 => ?_
  refine thn (hb pins s1 σ H1 _ I1 q1) fun u s2 zz45 => e23 zz45 fun y H2 I2 r2 q2 => ?_
  exact hf v u s2 x y H2 I2 r1 r2 q2
private theorem pe_op {op : Operator} {r : R2} (ho : OpR X (binaryOp op) r) (ha : PE X a ta) (hb : PE X b tb) : PE X (.BinOp a op b pos) (tOp r ta tb) := by
  intro pins s σ H Q I h
  exact wpAny_BinOp (binT ha hb I h fun v u s2 x y H2 I2 rx ry q => ho pins s2 σ H2 x y v u Q I2 rx ry q)
private theorem pe_un {op : UnaryOp} {r : V → Hp → VK → Prop} (ho : UnR X (unaryOp op) r) (ha : PE X a ta) : PE X (.UnaryOp op a pos) (tUn r ta) := by
  intro pins s σ H Q I h
  exact UnaryOp_ (thn (ha pins s σ H _ I h) fun v s1 zz46 => e23 zz46 fun x H1 I1 r1 q1 => ho pins s1 σ H1 x v Q I1 r1 q1)
private theorem opI {f : Value → Value → Sem Value} {C : Int → Int → Prop} {g : Int → Int → Int}
    (rule : ∀ (i j : Int) (t u : Tok) (s : Shared) (Q : Value → Shared → Prop) (E : Value → Shared → Prop), C i j → Q (.int (g i j) s.toks) { s with toks := s.toks + 1 } → wpAny (model X.prog X.w) X.A (f (.int i t) (.int j u)) Q E s) :
    OpR X f (rI C fun i j => .int (g i j)) := by
  intro pins s σ H x y v u Q I rx ry h
  obtain ⟨i, j, rfl, rfl, hc, q⟩ := h
  obtain ⟨t, rfl⟩ := rx
  obtain ⟨t', rfl⟩ := ry
  exact rule i j t t' s _ _ hc ⟨.int (g i j), H, I.tok _, ⟨_, rfl⟩, q⟩
private theorem opI0 {f : Value → Value → Sem Value} {g : Int → Int → Int}
    (rule : ∀ (i j : Int) (t u : Tok) (s : Shared) (Q : Value → Shared → Prop) (E : Value → Shared → Prop), Q (.int (g i j) s.toks) { s with toks := s.toks + 1 } → wpAny (model X.prog X.w) X.A (f (.int i t) (.int j u)) Q E s) :
    OpR X f (rI0 fun i j => .int (g i j)) := by
  intro pins s σ H x y v u Q I rx ry h
  obtain ⟨i, j, rfl, rfl, q⟩ := h
  obtain ⟨t, rfl⟩ := rx
  obtain ⟨t', rfl⟩ := ry
  exact rule i j t t' s _ _ ⟨.int (g i j), H, I.tok _, ⟨_, rfl⟩, q⟩
private theorem opB0 {f : Value → Value → Sem Value} {g : Int → Int → Bool}
    (rule : ∀ (i j : Int) (t u : Tok) (s : Shared) (Q : Value → Shared → Prop) (E : Value → Shared → Prop), Q (.bool (g i j)) s → wpAny (model X.prog X.w) X.A (f (.int i t) (.int j u)) Q E s) :
    OpR X f (rI0 fun i j => .bl (g i j)) := by
  intro pins s σ H x y v u Q I rx ry h
  obtain ⟨i, j, rfl, rfl, q⟩ := h
  obtain ⟨t, rfl⟩ := rx
  obtain ⟨t', rfl⟩ := ry
  exact rule i j t t' s _ _ ⟨.bl (g i j), H, I, rfl, q⟩
noncomputable def CPow (i j : Int) : Prop := 0 ≤ j ∧ j ≤ 1000000 ∧ i.natAbs < 2 ^ 64
noncomputable def CMul (i j : Int) : Prop := (-(2 ^ 64) < i ∧ i < 2 ^ 64) ∨ (-(2 ^ 64) < j ∧ j < 2 ^ 64)
private theorem CMul.ok {i j : Int} (h : CMul i j) : IntMulOk i j := by
  rcases h with ⟨h1, h2⟩ | ⟨h1, h2⟩
  · exact .of_left (intBits_le_64 h1 h2)
  · exact .of_right (intBits_le_64 h1 h2)
private theorem op_add : OpR X (binaryOp .Add) (rI0 fun i j => .int (i + j)) := opI0 fun _ _ _ _ _ _ _ q => add_int q
private theorem op_sub : OpR X (binaryOp .Sub) (rI0 fun i j => .int (i - j)) := opI0 fun _ _ _ _ _ _ _ q => sub_int q
private theorem op_mul : OpR X (binaryOp .Mult) (rI CMul fun i j => .int (i * j)) := opI fun _ _ _ _ _ _ _ hc q => mul_int q hc.ok
private theorem op_mod : OpR X (binaryOp .Mod) (rI (fun _ j => 0 < j) fun i j => .int (i % j)) := opI fun i j _ _ _ _ _ hc q => by
  have h1 : (0 : Int) < j := hc
  exact mod_int' (by omega) (by rw [Int.fmod_eq_emod_of_nonneg i (by omega)]; exact q)
private theorem op_modN : OpR X (binaryOp .Mod) (rI (fun _ j => j ≠ 0) fun i j => .int (i.fmod j)) := opI fun _ _ _ _ _ _ _ hc q => mod_int' hc q
private theorem op_pow : OpR X (binaryOp .Pow) (rI CPow fun i j => .int (i ^ j.toNat)) := opI fun _ _ _ _ _ _ _ hc q => pow_int_small hc.1 hc.2.1 hc.2.2 q
private theorem unI {f : Value → Sem Value} {g : Int → Int}
    (rule : ∀ (i : Int) (t : Tok) (s : Shared) (Q : Value → Shared → Prop) (E : Value → Shared → Prop), Q (.int (g i) s.toks) { s with toks := s.toks + 1 } → wpAny (model X.prog X.w) X.A (f (.int i t)) Q E s) :
    UnR X f (rU fun i => .int (g i)) := by
  intro pins s σ H x v Q I rx h
  obtain ⟨i, rfl, q⟩ := h
  obtain ⟨t, rfl⟩ := rx
  exact rule i t s _ _ ⟨.int (g i), H, I.tok _, ⟨_, rfl⟩, q⟩
private theorem un_neg : UnR X (unaryOp .USub) (rU fun i => .int (-i)) := unI fun _ _ _ _ _ q => neg_int q
end
section
variable {X : Cx} {a b c : Expr} {ta tb tc : TE} {pos : Pos}
private theorem fin_bl {pins : List (Addr × Obj)} {σ : St} {H : Hp} {s : Shared} {Q : VK} {k k' : Bool} (I : Inv X pins σ H s) (q : Q (.bl k) H) (e : k = k') : EP X pins σ Q (.bool k') s := by
  subst e
  exact ⟨.bl k, H, I, rfl, q⟩
private theorem op_lt : OpR X (compareOp .Lt) (rI0 fun i j => .bl (decide (i < j))) := opB0 fun _ _ _ _ _ _ _ q => lt_int q
private theorem op_gt : OpR X (compareOp .Gt) (rI0 fun i j => .bl (decide (j < i))) := opB0 fun _ _ _ _ _ _ _ q => gt_int q
private theorem op_ge : OpR X (compareOp .GtE) (rI0 fun i j => .bl (decide (j ≤ i))) := opB0 fun _ _ _ _ _ _ _ q => ge_int q
private theorem op_in_str : OpR X (compareOp .In) (fun x y H Q => ∃ i j, x = .str i ∧ y = .str j ∧ Q (.bl (!(Builtin.Str.occurrences j i 0 j.length 1).isEmpty)) H) := by
  intro pins s σ H x y v u Q I rx ry h
  obtain ⟨i, j, rfl, rfl, q⟩ := h
  obtain ⟨t, rfl⟩ := rx
  obtain ⟨t', rfl⟩ := ry
  exact in_str (fin_bl I q rfl)
private theorem op_notN : OpR X (compareOp .IsNot) (fun x y H Q => y = .non ∧ Q (.bl (!decide (x = .non))) H) := by
  intro pins s σ H x y v u Q I rx ry h
  obtain ⟨rfl, q⟩ := h
  cases ry
  refine isnot_none_gen (fin_bl I q ?_)
  cases x <;> first
    | (cases rx; rfl)
    | (obtain ⟨t, rfl⟩ := rx; rfl)
private theorem nomark (b : Expr) {op : CmpOp} (h : op ≠ .In := by decide) (h2 : op ≠ .NotIn := by decide) : behindInMarks op b = false := by
  have e1 : (op == CmpOp.In) = false := by cases op <;> first | rfl | exact absurd rfl h
  have e2 : (op == CmpOp.NotIn) = false := by cases op <;> first | rfl | exact absurd rfl h2
  cases b <;> simp [behindInMarks, e1, e2]
private theorem pe_cmpR {op : CmpOp} {r : R2} (ho : OpR X (compareOp op) r) (ha : PE X a ta) (hb : PE X b tb) (hm : behindInMarks op b = false) : PE X (.Compare a [op] [b] pos) (tOp r ta tb) := by
  intro pins s σ H Q I h
  exact wpAny_Compare1 (binT ha hb I h fun v u s2 x y H2 I2 rx ry q => ho pins s2 σ H2 x y v u Q I2 rx ry q) hm
noncomputable def tTest (t : TE) : TT := fun σ H Q => t σ H fun x H' => ∃ k, x = .bl k ∧ Q k H'
private theorem pt_cmpR {op : CmpOp} {r : R2} (ho : OpR X (compareOp op) r) (ha : PE X a ta) (hb : PE X b tb) (hm : behindInMarks op b = false) : PT X (.Compare a [op] [b] pos) (tTest (tOp r ta tb)) := by
  intro pins s σ H Q I h
  refine wpAny_isTrue_Compare1 (thn (ha pins s σ H _ I h) fun v s1 zz47 => e23 zz47 fun x H1 I1 r1 q1 => thn (hb pins s1 σ H1 _ I1 q1) fun u s2 zz48 => e23 zz48 fun y H2 I2 r2 q2 =>
    thn (ho pins s2 σ H2 x y v u _ I2 r1 r2 q2) fun c s3 ⟨z, H3, I3, r3, k, e, q3⟩ => ?_) hm
  subst e
  cases r3
  exact wpAny_truthy_bool ⟨H3, I3, q3⟩
private theorem line63 : (sizeLine : Nat) < 2 ^ 63 := by rw [sizeLine_eq]; decide
private theorem op_add_str : OpR X (binaryOp .Add) (fun x y H Q => ∃ i j, x = .str i ∧ y = .str j ∧ i.length + j.length ≤ sizeLine ∧ Q (.str (i ++ j)) H) := by
  intro pins s σ H x y v u Q I rx ry h
  obtain ⟨i, j, rfl, rfl, hz, q⟩ := h
  obtain ⟨t, rfl⟩ := rx
  obtain ⟨t', rfl⟩ := ry
  exact add_str (fun t' tk => ⟨.str (i ++ j), H, I.tok _, ⟨_, rfl⟩, q⟩) hz
private theorem vals1 {x : V} {us : List Value} (r : Vals [x] us) : ∃ u, us = [u] ∧ RelV x u := by
  cases r with
  | cons r1 r2 => cases r2; exact ⟨_, rfl, r1⟩
private theorem vals2 {x y : V} {us : List Value} (r : Vals [x, y] us) : ∃ u w', us = [u, w'] ∧ RelV x u ∧ RelV y w' := by
  cases r with
  | cons r1 r2 =>
    cases r2 with
    | cons r3 r4 => cases r4; exact ⟨_, _, rfl, r1, r3⟩
private theorem call_abs : CallR X (.builtin "abs") (fun xs H Q => ∃ i, xs = [.int i] ∧ Q (.int (if i < 0 then -i else i)) H) := by
  intro pins s σ H xs us Q I r h
  obtain ⟨i, rfl, q⟩ := h
  obtain ⟨u, rfl, t, rfl⟩ := vals1 r
  exact call_abs_int fun u tk => ⟨.int (if i < 0 then -i else i), H, I.tok _, ⟨_, rfl⟩, q⟩
private theorem call_min2 (hc : X.calm = true) : CallR X (.builtin "min") (fun xs H Q => ∃ i j, xs = [.int i, .int j] ∧ Q (.int (if j < i then j else i)) H) := by
  intro pins s σ H xs us Q I r h
  obtain ⟨i, j, rfl, q⟩ := h
  obtain ⟨u, w', rfl, ⟨t, rfl⟩, ⟨t', rfl⟩⟩ := vals2 r
  refine min_two_ints (I.ok.hd hc) fun h' tk k => ⟨_, H, I.kept k, ?_, q⟩
  by_cases hj : j < i
  · rw [if_pos hj, if_pos hj]; exact ⟨_, rfl⟩
  · rw [if_neg hj, if_neg hj]; exact ⟨_, rfl⟩
private theorem call_int1 : CallR X (.type "int") (fun xs H Q => (∃ i, xs = [.int i] ∧ Q (.int i) H) ∨ ∃ k, xs = [.bl k] ∧ Q (.int (if k then 1 else 0)) H) := by
  intro pins s σ H xs us Q I r h
  rcases h with ⟨i, rfl, q⟩ | ⟨k, rfl, q⟩
  · obtain ⟨u, rfl, t, rfl⟩ := vals1 r
    exact call_int_int ⟨.int i, H, I, ⟨_, rfl⟩, q⟩
  · obtain ⟨u, rfl, r1⟩ := vals1 r
    cases r1
    exact call_int_bool ⟨.int (if k then 1 else 0), H, I.tok _, ⟨_, rfl⟩, q⟩
private theorem call_str_int : CallR X (.type "str") (fun xs H Q => ∃ i, xs = [.int i] ∧ i.natAbs.log2 < 1920 ∧ Q (.str (toString i)) H) := by
  intro pins s σ H xs us Q I r h
  obtain ⟨i, rfl, hz, q⟩ := h
  obtain ⟨u, rfl, t, rfl⟩ := vals1 r
  exact PySem.P.str_of_int hz ⟨.str _, H, I.tok _, ⟨_, rfl⟩, q⟩
end
end L2
namespace L2
open PySem PySem.Spec PyProof.Rows
structure ObjM (h : Heap) (x dx C : Addr) (mA : Str → Option Value) : Prop where
  obj : h.get? x = some (PySem.W.instObj C dx)
  ns : h.Ns1 dx mA
  ne : dx ≠ x
private theorem lookIn_ns {h : Heap} {dx : Addr} {mA : Str → Option Value} (n : h.Ns1 dx mA) : ∃ od, h.get? dx = some od ∧ ∀ name, PySem.W.lookIn name od = some (mA name) := by
  obtain ⟨o, es, ep, ho, hd, hk, _, hm⟩ := n
  refine ⟨o, ho, fun name => ?_⟩
  have e := hm name
  unfold nsFind findBy at e
  rw [← Array.find?_toList] at e
  unfold PySem.W.lookIn
  rw [hd]
  dsimp only
  split
  · rename_i y q
    rw [q] at e
    exact congrArg some e
  · rename_i q
    rw [q] at e
    have a : es.toList.any (·.refKey) = false := by
      rw [List.any_eq_false]
      intro y hy
      obtain ⟨z, t, hkey⟩ := hk y (Array.mem_toList_iff.mp hy)
      simp [DictEntry.refKey, hkey]
    have a' : ¬ es.toList.any (·.refKey) = true := by rw [a]; exact Bool.false_ne_true
    rw [if_neg a']
    exact congrArg some e
private theorem ObjM.look {h : Heap} {x dx C : Addr} {mA : Str → Option Value} (I : ObjM h x dx C mA) : ∃ od, PySem.W.InstAt h x (PySem.W.instObj C dx) C (some od) ∧ ∀ name, PySem.W.lookIn name od = some (mA name) :=
  let ⟨od, ho, hl⟩ := lookIn_ns I.ns
  ⟨od, ⟨I.obj, rfl, rfl, ho⟩, hl⟩
section
variable {prog : Program} {w : World} {A : Around} {E : Value → Shared → Prop} {s : Shared} {K : PySem.W.Frag} {x dx C f : Addr} {mA : Str → Option Value} {name : Str} {v : Value}
end
private theorem RelO.some_of {v : V} {o : Option Value} (r : RelO (some v) o) : ∃ u, o = some u ∧ RelV v u := by
  cases o with
  | none => exact (show False from r).elim
  | some u => exact ⟨u, rfl, r⟩
section
variable {P : Program} {w : World} {H H' : Hp} {h h' : Heap} {a C dx : Addr} {fs fs' : List (Str × V)}
private theorem ins_get (hok : HOk P w H h) (e : H a = some (.ins C dx fs)) : ∃ mA, ObjM h a dx C mA ∧ (∀ f, RelO (fs.lookup f) (mA f)) ∧ PySem.Within mA (fs.map (·.1)) ∧ fs.length ≤ 1000 ∧ H dx = some (.own a) := by
  obtain ⟨d, z, ne, ob, mA, n, r, q⟩ := (show ObjOk P w H h a (.ins C dx fs) from hok a _ e)
  exact ⟨mA, ⟨ob, n, ne⟩, r, q, z, d⟩
end
structure Cls (K : PySem.W.Frag) (C : Addr) : Prop where
  pg : PySem.W.plainGet K C Str.empty = true
  hd : PySem.W.hasDictIn K C = true
  po : PySem.W.plainOver K C = true
  sa : PySem.W.findIn K (.ref C) "__setattr__" = some (some (.builtin "object.__setattr__"))
private theorem Cls.get {K : PySem.W.Frag} {C : Addr} (c : Cls K C) (f : Str) : PySem.W.plainGet K C f = true := c.pg
section
variable {X : Cx} {pins : List (Addr × Obj)} {σ : St} {H : Hp} {s : Shared} {a C dx : Addr} {fs : List (Str × V)} {f : Str} {v : V} {A : Around} {E : Value → Shared → Prop}
end
section
variable {X : Cx} {o e value : Expr} {f : Str} {pos pos' tpos : Pos} {ta tv : TE}
end
section
variable {X : Cx} {pins : List (Addr × Obj)} {σ : St} {H : Hp} {s : Shared} {A : Around} {E : Value → Shared → Prop} {Q : Value → Shared → Prop} {c : Value} {b : Bool}
inductive TyOf (K : PySem.W.Frag) (H : Hp) : V → Value → Prop where
  | non : TyOf K H .non (.type "NoneType")
  | bl (x : Bool) : TyOf K H (.bl x) (.type "bool")
  | int (i : Int) : TyOf K H (.int i) (.type "int")
  | str (x : Str) : TyOf K H (.str x) (.type "str")
  | flt (x : UInt64) : TyOf K H (.flt x) (.type "float")
  | lst {a : Addr} {xs : List V} (e : H a = some (.lst xs)) : TyOf K H (.ref a) (.type "list")
  | frz {a : Addr} {o : Obj} {xs : List V} (e : H a = some (.frz o (.lst xs))) : TyOf K H (.ref a) (.type "list")
  | tup {a : Addr} {xs : List V} (e : H a = some (.tup xs)) : TyOf K H (.ref a) (.type "tuple")
  | dK {a : Addr} {kvs : List (Key × V)} (e : H a = some (.dK kvs)) : TyOf K H (.ref a) (.type "dict")
  | dT {a : Addr} {kvs : List (List Key × V)} (e : H a = some (.dT kvs)) : TyOf K H (.ref a) (.type "dict")
  | ins {a C dx : Addr} {fs : List (Str × V)} (e : H a = some (.ins C dx fs)) (cl : Cls K C) (ha : PySem.W.findIn K (.ref C) "__class__" = some (some (.builtin "object.__class__")))
      (hn : PySem.W.specialIn K (.builtin "object.__class__") "__get__" = some (some (.builtin "getset_descriptor.__get__"))) (htk : PySem.W.takesIn K (.builtin "object.__class__") = some true)
      (hm : PySem.W.mroIn K C (.type "object") = some true) : TyOf K H (.ref a) (.ref C)
private theorem isinst_ok {x : V} {u t : Value} (I : Inv X pins σ H s) (rx : RelV x u) (ty : TyOf X.K H x t) (e : PySem.W.kitOne X.K t c = some b) (h : ∀ tk, Q (.bool b) { s with toks := tk }) :
    wpAny (model X.prog X.w) A (call (.builtin "isinstance") [u, c]) Q E s := by
  cases ty with
  | non => cases (show u = Value.none from rx); exact PySem.W.kia_one PySem.W.kitx_none I.kIn True.intro e (fun z => nomatch z) h
  | bl y => cases (show u = Value.bool y from rx); exact PySem.W.kia_one PySem.W.kitx_bool I.kIn True.intro e (fun z => nomatch z) h
  | int i => obtain ⟨t, q⟩ := (show ∃ t, u = Value.int i t from rx); cases q; exact PySem.W.kia_one PySem.W.kitx_int I.kIn True.intro e (fun z => nomatch z) h
  | str y => obtain ⟨t, q⟩ := (show ∃ t, u = Value.str y t from rx); cases q; exact PySem.W.kia_one PySem.W.kitx_str I.kIn True.intro e (fun z => nomatch z) h
  | flt y => obtain ⟨t, q⟩ := (show ∃ t, u = Value.float y t from rx); cases q; exact PySem.W.kia_one PySem.W.kitx_float I.kIn True.intro e (fun z => nomatch z) h
  | @lst a xs ea =>
    cases (show u = Value.ref a from rx)
    obtain ⟨_, _, n, _, h1⟩ := (show ObjOk X.prog X.w H s.heap a (.lst xs) from I.hok a _ ea)
    exact PySem.W.kia_one PySem.W.kitx_list I.kIn ⟨_, h1, rfl⟩ e (fun z => nomatch z) h
  | @frz a ob xs ea =>
    cases (show u = Value.ref a from rx)
    obtain ⟨_, _, _, n, _, h1⟩ := (show ObjOk X.prog X.w H s.heap a (.frz ob (.lst xs)) from I.hok a _ ea)
    exact PySem.W.kia_one PySem.W.kitx_list I.kIn ⟨_, h1, rfl⟩ e (fun z => nomatch z) h
  | @tup a xs ea =>
    cases (show u = Value.ref a from rx)
    obtain ⟨_, _, _, p⟩ := (show ObjOk X.prog X.w H s.heap a (.tup xs) from I.hok a _ ea)
    obtain ⟨o, h1, h2, _⟩ := p
    exact PySem.W.kia_one PySem.W.kitx_tuple I.kIn ⟨o, h1, h2⟩ e (fun z => nomatch z) h
  | @dK a kvs ea =>
    cases (show u = Value.ref a from rx)
    obtain ⟨_, _, vs, _, p⟩ := (show ObjOk X.prog X.w H s.heap a (.dK kvs) from I.hok a _ ea)
    obtain ⟨o, es, ep, h1, h2, _⟩ := p
    exact PySem.W.kia_one PySem.W.kitx_dict I.kIn ⟨o, h1, h2.1⟩ e (fun z => nomatch z) h
  | @dT a kvs ea =>
    cases (show u = Value.ref a from rx)
    obtain ⟨_, _, xs, _, o, es, ep, h1, h2, _⟩ := (show ObjOk X.prog X.w H s.heap a (.dT kvs) from I.hok a _ ea)
    exact PySem.W.kia_one PySem.W.kitx_dict I.kIn ⟨o, h1, h2.1⟩ e (fun z => nomatch z) h
  | @ins a C dx fs ea cl ha hn htk hm =>
    cases (show u = Value.ref a from rx)
    obtain ⟨mA, O, _⟩ := ins_get I.hok ea
    obtain ⟨od, J, _⟩ := O.look
    exact PySem.W.kia_one (PySem.W.kitx_own (cl.get _) cl.hd ha hn htk hm) I.kIn J e (fun z => nomatch z) h
end
end L2
namespace L2
open PySem PySem.Spec PyProof.Rows
structure RoomY (hv : Option Value) (k : Nat) (A : Around) : Prop where
  hd : A.handled = hv
  dp : A.depth + 3 * k + 5 < recursionLimit
  un : A.units + 16 * k + 200 < cLine
noncomputable abbrev Room := RoomY none
private theorem RoomY.mono {hv : Option Value} {j k : Nat} {A : Around} (r : RoomY hv k A) (h : j ≤ k) : RoomY hv j A := ⟨r.hd, by have := r.dp; omega, by have := r.un; omega⟩
private theorem RoomY.deeper {hv : Option Value} {k : Nat} {A : Around} (r : RoomY hv (k + 1) A) (env : Env) : RoomY hv k (A.deeper env) :=
  ⟨r.hd, by have := r.dp; show A.depth + 1 + 3 * k + 5 < _; omega, by have := r.un; show A.units + 3 + 16 * k + 200 < _; omega⟩
private theorem RoomY.depth {hv : Option Value} {k : Nat} {A : Around} (r : RoomY hv k A) : A.depth < recursionLimit := by have := r.dp; omega
noncomputable def tNil : TA := fun _ H Q => Q [] H
noncomputable def tCons (ta : TE) (tr : TA) : TA := fun σ H Q => ta σ H fun x H1 => tr σ H1 fun xs H2 => Q (x :: xs) H2
section
variable {X : Cx} {e : Expr} {es : List Expr} {te : TE} {t : TA} {pos : Pos}
private theorem pa_nil : PA X [] tNil := fun _ _ _ _ H Q I h => Calls.spliced_nil ⟨[], H, I, .nil, h⟩
private theorem pa_cons (ha : PE X e te) (hr : PA X es t) (hs : starEach (e :: es) X.env = (false, eval e X.env) :: starEach es X.env := by rfl) : PA X (e :: es) (tCons te t) := by
  intro pos pins s σ H Q I h
  rw [hs]
  show wpAny _ _ (spliced ((false, eval e X.env) :: backTo pos (starEach es X.env))) _ _ s
  refine Calls.spliced_cons (thn (ha pins s σ H _ I h) fun u s1 zz68 => e23 zz68 fun x H1 I1 r1 q1 => ?_)
  exact thn (hr pos pins s1 σ H1 _ I1 q1) fun us s2 zz69 => e23 zz69 fun xs H2 I2 r2 q2 => ⟨x :: xs, H2, I2, .cons r1 r2, q2⟩
noncomputable def tTup (t : TA) : TE := fun σ H Q => t σ H fun xs H1 => xs.length ≤ sizeLine ∧ ∀ p, H1 p = none → Q (.ref p) (upd H1 p (.tup xs))
noncomputable def tLst (t : TA) : TE := fun σ H Q => t σ H fun xs H1 => xs.length ≤ sizeLine ∧ ∀ p, H1 p = none → Q (.ref p) (upd H1 p (.lst xs))
private theorem pe_tup {x1} (h : PA X es t) : PE X (.Tuple es x1 pos) (tTup t) := by
  intro pins s σ H Q I hq
  refine wpAny_Tuple_spliced (thn (h pos pins s σ H _ I hq) fun us s1 zz70 => e24 zz70 fun xs H1 I1 r z q => ⟨by rw [← r.length]; exact z, ?_⟩)
  have hf : H1 s1.heap.objs.size = none := I1.hok.fresh (Nat.le_refl _)
  refine ⟨.ref s1.heap.objs.size, upd H1 s1.heap.objs.size (.tup xs), I1.laid (t' := s1.toks) (fun b u e => Heap.get?_push_of_some _ e) (Nat.le_refl _) ?_, rfl, q _ hf⟩
  exact ⟨z, us, r, ⟨_, Heap.get?_push_size _ rfl, rfl, _, rfl⟩⟩
private theorem pe_lst (h : PA X es t) : PE X (.List es pos) (tLst t) := by
  intro pins s σ H Q I hq
  refine wpAny_List_spliced (thn (h pos pins s σ H _ I hq) fun us s1 zz71 => e24 zz71 fun xs H1 I1 r z q => ⟨by rw [← r.length]; exact z, ?_⟩)
  have hf : H1 s1.heap.objs.size = none := I1.hok.fresh (Nat.le_refl _)
  refine ⟨.ref s1.heap.objs.size, upd H1 s1.heap.objs.size (.lst xs), I1.laid (t' := s1.toks) (fun b u e => Heap.get?_push_of_some _ e) (Nat.le_refl _) ?_, rfl, q _ hf⟩
  exact ⟨z, us, 0, r, Heap.get?_push_size _ rfl⟩
end
noncomputable abbrev Sp := List V → Hp → VK → XK → Prop
noncomputable abbrev CXT := List Env → Hp → Shared → XK → Value → Shared → Prop
structure Env0 (P : Program) (w : World) (K : PySem.W.Frag) (mg : Str → Option Value) (base : Heap) (A : Around) (outer : List Env) (s : Shared) (H : Hp) : Prop where
  frames : A.frames = some outer
  mod : Mod K mg base
  bs : ∀ b o, base.get? b = some o → s.heap.get? b = some o ∧ H b = none
  bsz : base.objs.size ≤ s.heap.objs.size
  funs : s.heap.FunFrames base outer
  frf : ∀ b ∈ frs outer, H b = none
  hok : HOk P w H s.heap
  bare : AllBare s.gens
noncomputable def CE (outer : List Env) (P : Program) (w : World) (H : Hp) (s : Shared) (Q : VK) (u : Value) (s' : Shared) : Prop :=
  ∃ v H', s'.os = s.os ∧ AllBare s'.gens ∧ Un (frs outer) [] H H' s.heap s'.heap ∧ HOk P w H' s'.heap ∧ RelV v u ∧ Q v H'
noncomputable def CR (CX : CXT) (outer : List Env) (P : Program) (w : World) (H : Hp) (s : Shared) (Q : VK) (E : XK) (r : Result) (s' : Shared) : Prop :=
  match r with
  | .ok (.ret u) => CE outer P w H s Q u s'
  | .ok _ => False
  | .error e => CX outer H s E e s'
structure FnOkY (hv : Option Value) (P : Program) (w : World) (K : PySem.W.Frag) (mg : Str → Option Value) (base : Heap) (CX : CXT) (k : Nat) (f : Addr) (fd : FuncData) (ps : List Str) (sp : Sp) : Prop where
  len : ∀ vs H Q E, sp vs H Q E → vs.length = ps.length
  run : ∀ (A : Around) (outer : List Env) (s : Shared) (H : Hp) (args : Args) (us : List Value) (vs : List V) (Q : VK) (E : XK), RoomY hv k A → Env0 P w K mg base A outer s H → BindsTo s fd args (ps.zip us) → Vals vs us → sp vs H Q E →
    codeAny (model P w) A (.call (.ref f) args) (CR CX outer P w H s Q E) s
noncomputable abbrev FnOk := FnOkY none
private theorem FnOkY.imp {hv : Option Value} {P : Program} {w : World} {K : PySem.W.Frag} {mg : Str → Option Value} {base : Heap} {CX : CXT} {k : Nat} {f : Addr} {fd : FuncData} {ps : List Str} {sp sp' : Sp} (F : FnOkY hv P w K mg base CX k f fd ps sp)
    (h : ∀ vs H Q E, sp' vs H Q E → sp vs H Q E) : FnOkY hv P w K mg base CX k f fd ps sp' :=
  ⟨fun vs H Q E q => F.len vs H Q E (h _ _ _ _ q), fun A outer s H args us vs Q E hr he hb hv hs => F.run A outer s H args us vs Q E hr he hb hv (h _ _ _ _ hs)⟩
section
variable {X : Cx} {pins : List (Addr × Obj)} {σ : St} {H : Hp} {s s' : Shared}
private theorem Inv.env0 (I : Inv X pins σ H s) : Env0 X.prog X.w X.K X.mg X.base X.A X.stack s H :=
  ⟨I.ok.frames, I.ok.mod, I.bs, Nat.le_trans I.ok.bsz I.sz, I.stack, I.stkFree, I.hok, I.bare⟩
private theorem Inv.after {Q : VK} {u : Value} (I : Inv X pins σ H s) (h : CE X.stack X.prog X.w H s Q u s') : EP X pins σ Q u s' := by
  obtain ⟨v, H', os, bare, un, hok, r, q⟩ := h
  obtain ⟨hh, g, d, t, os'⟩ := s'
  obtain rfl : os' = s.os := os
  exact ⟨v, H', I.call (h' := hh) (g' := g) (d' := d) (t' := t) (ch := []) un hok bare (fun b z => absurd z (by simp)), r, q⟩
end
noncomputable def tCall (sp : Sp) (dvs : List V) (E : XK) (t : TA) : TE := fun σ H Q => t σ H fun vs H1 => sp (vs ++ dvs) H1 Q E
noncomputable def Binds (K : PySem.W.Frag) (fd : FuncData) (ps : List Str) (ds : List Value) : Prop :=
  ∀ (s : Shared) (us : List Value), K.In s.heap → (us ++ ds).length = ps.length → BindsTo s fd ⟨us, []⟩ (ps.zip (us ++ ds))
private theorem Binds.all {K : PySem.W.Frag} {fd : FuncData} {ps : List Str} (h : ∀ us : List Value, us.length = ps.length → bindArgs fd ⟨us, []⟩ = pure (ps.zip us)) : Binds K fd ps [] := fun s us _ hl => by
  rw [List.append_nil] at hl ⊢
  exact .of_eq (h us hl)
noncomputable def Passes (CX : CXT) (X : Cx) (E : XK) : Prop := ∀ (pins : List (Addr × Obj)) (σ : St) (H : Hp) (s : Shared) (e : Value) (s' : Shared), Inv X pins σ H s → CX X.stack H s E e s' → X.xe e s'
section
variable {X : Cx} {CX : CXT} {k : Nat} {f C : Addr} {fd : FuncData} {ps : List Str} {sp : Sp} {dvs : List V} {ds : List Value} {E : XK} {x m : Str} {p pos apos : Pos} {e o : Expr} {es : List Expr} {ta : TE} {t : TA}
private theorem run_fn {hv : Option Value} {pins : List (Addr × Obj)} {σ : St} {H : Hp} {s : Shared} {Q : VK} {us : List Value} {vs : List V} (F : FnOkY hv X.prog X.w X.K X.mg X.base CX k f fd ps sp) (hr : RoomY hv k X.A) (hb : Binds X.K fd ps ds) (hd : Vals dvs ds) (hx : Passes CX X E)
    (I : Inv X pins σ H s) (r : Vals vs us) (h : sp (vs ++ dvs) H Q E) : wpAny (model X.prog X.w) X.A (call (.ref f) us) (EP X pins σ Q) X.xe s := by
  have r2 : Vals (vs ++ dvs) (us ++ ds) := r.append hd
  have hl : (us ++ ds).length = ps.length := by rw [← r2.length]; exact F.len _ _ _ _ h
  refine wpAny_call (codeAny_mono (F.run X.A X.stack s H ⟨us, []⟩ (us ++ ds) (vs ++ dvs) Q E hr I.env0 (hb s us I.kIn hl) r2 h) fun r s' hq => ?_)
  cases r with
  | error e => exact hx pins σ H s e s' I hq
  | ok fl =>
    cases fl with
    | ret u => exact I.after hq
    | next => exact False.elim hq
    | brk => exact False.elim hq
    | cont => exact False.elim hq
private theorem pe_call {hv : Option Value} (F : FnOkY hv X.prog X.w X.K X.mg X.base CX k f fd ps sp) (hr : RoomY hv k X.A) (hg : Gl X x) (hm : X.mg x = some (.ref f)) (hk : PySem.W.keepIn X.K (.ref f) = true) (hb : Binds X.K fd ps ds) (hd : Vals dvs ds) (hx : Passes CX X E)
    (ha : PA X (e :: es) t) (hdb : (x == ("__debug__" : Str)) = false := by decide) (he : starEach (e :: es) X.env = (false, eval e X.env) :: starEach es X.env := by rfl) (hpl : (backTo pos (starEach es X.env)).any (·.1) = false := by rfl) :
    PE X (.Call (.Name x p) (e :: es) [] pos) (tCall sp dvs E t) := by
  intro pins s σ H Q I h
  refine wpAny_Call_Name_kw (ld_glob I hg hm ?_ hdb)
  refine PySem.W.callWith_K (h₀ := X.base) I.ok.mod.kin hk (thn (ha pos pins s σ H _ I h) fun us s1 zz72 => e23 zz72 fun vs H1 I1 r q => ⟨I1.kIn, ?_⟩) he hpl
  exact run_fn F hr hb hd hx I1 r q
end
section
variable {X : Cx} {CX : CXT} {k : Nat} {f C : Addr} {fd : FuncData} {ps ks : List Str} {sp : Sp} {E : XK} {x m : Str} {p pos apos kpos : Pos} {e o : Expr} {es : List Expr} {kws : List Keyword} {te ta : TE} {t tk : TA} {nm : Option Str}
variable {g : List Value → List Value → List Value} {gV : List V → List V → List V}
end
structure FnScope (N P : List Str) (sc : Scope) : Prop where
  kind : sc.kind = .function
  co : sc.isCoroutine = false
  gen : sc.isGenerator = false
  nd : N.Nodup
  pre : N.take P.length = P
  par : ∀ x ∈ P, sc.names.lookup x = some .local ∨ sc.names.lookup x = some .cell
  nofree : ∀ y ∈ sc.names, y.2 ≠ .free
private theorem bindL_out {kindOf : Str → Option NameKind} {x : Str} : ∀ {binds : List (Str × Value)} {m : Str → Option Value}, (∀ v, (x, v) ∉ binds) → bindL kindOf binds m x = m x
  | [], _, _ => rfl
  | (n, v) :: r, m, h => by
    unfold bindL
    rw [bindL_out fun w hw => h w (List.mem_cons_of_mem _ hw)]
    split
    · have : x ≠ n := by rintro rfl; exact h v List.mem_cons_self
      simp [this]
    · rfl
private theorem bindC_out {kindOf : Str → Option NameKind} {x : Str} : ∀ {binds : List (Str × Value)} {m : Str → Option Value}, (∀ v, (x, v) ∉ binds) → bindC kindOf binds m x = m x
  | [], _, _ => rfl
  | (n, v) :: r, m, h => by
    unfold bindC
    rw [bindC_out fun w hw => h w (List.mem_cons_of_mem _ hw)]
    split
    · rfl
    · have : x ≠ n := by rintro rfl; exact h v List.mem_cons_self
      simp [this]
private theorem bindL_get {kindOf : Str → Option NameKind} {x : Str} {v : Value} : ∀ {P : List Str} {vs : List Value} {i : Nat} {m : Str → Option Value}, P.Nodup → P[i]? = some x → vs[i]? = some v → kindOf x = some .local →
    bindL kindOf (P.zip vs) m x = some v
  | [], _, _, _, _, h, _, _ => by simp at h
  | _ :: _, [], _, _, _, _, h, _ => by simp at h
  | p :: P, w :: vs, 0, m, nd, h1, h2, hk => by
    simp at h1 h2; subst h1; subst h2
    show bindL kindOf ((p, w) :: P.zip vs) m p = _
    unfold bindL
    rw [bindL_out fun v hv => (List.nodup_cons.mp nd).1 (List.of_mem_zip hv).1, if_pos hk]
    simp
  | p :: P, w :: vs, i + 1, m, nd, h1, h2, hk => by
    show bindL kindOf ((p, w) :: P.zip vs) m x = _
    unfold bindL
    exact bindL_get (i := i) (List.nodup_cons.mp nd).2 (by simpa using h1) (by simpa using h2) hk
private theorem bindC_get {kindOf : Str → Option NameKind} {x : Str} {v : Value} : ∀ {P : List Str} {vs : List Value} {i : Nat} {m : Str → Option Value}, P.Nodup → P[i]? = some x → vs[i]? = some v → kindOf x ≠ some .local →
    bindC kindOf (P.zip vs) m x = some v
  | [], _, _, _, _, h, _, _ => by simp at h
  | _ :: _, [], _, _, _, _, h, _ => by simp at h
  | p :: P, w :: vs, 0, m, nd, h1, h2, hk => by
    simp at h1 h2; subst h1; subst h2
    show bindC kindOf ((p, w) :: P.zip vs) m p = _
    unfold bindC
    rw [bindC_out fun v hv => (List.nodup_cons.mp nd).1 (List.of_mem_zip hv).1, if_neg hk]
    simp
  | p :: P, w :: vs, i + 1, m, nd, h1, h2, hk => by
    show bindC kindOf ((p, w) :: P.zip vs) m x = _
    unfold bindC
    exact bindC_get (i := i) (List.nodup_cons.mp nd).2 (by simpa using h1) (by simpa using h2) hk
noncomputable def start (N : List Str) (vs : List V) : St := vs.map some ++ List.replicate (N.length - vs.length) none
noncomputable def cxOfY (hv : Option Value) (CX : CXT) (P : Program) (w : World) (K : PySem.W.Frag) (mg : Str → Option Value) (base : Heap) (N : List Str) (qual : Str) (scope : Scope) (f : Addr) (cd : Value) (A : Around) (outer : List Env) (s : Shared) (H : Hp) (E : XK) : Cx where
  prog := P
  w := w
  K := K
  mg := mg
  base := base
  A := A.deeper (envOfC qual scope s.heap.objs.size f cd)
  N := N
  s₀ := s
  H₀ := H
  env := envOfC qual scope s.heap.objs.size f cd
  outer := outer
  stack := envOfC qual scope s.heap.objs.size f cd :: outer
  ex := []
  calm := hv.isNone
  fn := fun _ => true
  pn := []
  xe := fun e s' => wpAny (model P w) (A.deeper (envOfC qual scope s.heap.objs.size f cd)) (leaving (envOfC qual scope s.heap.objs.size f cd) e) (fun _ s'' => CX outer H s E e s'') (fun e' s'' => CX outer H s E e' s'') s'
noncomputable abbrev cxOf := cxOfY none
private theorem cell_has {sc : Scope} {n : Nat} {x : Str} (h : sc.names.lookup x = some .cell) : ∃ c, (cellsFrom n sc.names []).lookup x = some c := by
  have q := PySem.W.cellsFrom_some sc.names n [] (.inl h)
  exact Option.isSome_iff_exists.mp q
private theorem inv_start {hv : Option Value} {CX : CXT} {P : Program} {w : World} {K : PySem.W.Frag} {mg : Str → Option Value} {base : Heap} {N ps : List Str} {qual : Str} {scope : Scope} {f : Addr} {cd : Value} {A : Around} {outer : List Env} {s s1 : Shared} {H : Hp} {E : XK} {us : List Value} {vs : List V}
    (S : FnScope N ps scope) (hd : A.handled = hv) (e0 : Env0 P w K mg base A outer s H) (hl : vs.length = ps.length) (r : Vals vs us)
    (x : InCallC s s.heap.objs.size (bindL (envOfC qual scope s.heap.objs.size f cd).kindOf (ps.zip us) fun _ => none) (cellsFrom (s.heap.objs.size + 1) scope.names []) (bindC (envOfC qual scope s.heap.objs.size f cd).kindOf (ps.zip us) fun _ => none) s1) :
    Inv (cxOfY hv CX P w K mg base N qual scope f cd A outer s H E) [] (start N vs) H s1 := by
  have hpl : ps.length ≤ N.length := by have := congrArg List.length S.pre; rw [List.length_take] at this; omega
  obtain ⟨h1, tk, rfl, hk⟩ := x.done
  have noA : ∀ b : Addr, b ∉ (cxOfY hv CX P w K mg base N qual scope f cd A outer s H E).ex := fun b z => absurd (show b ∈ ([] : List Addr) from z) (by simp)
  refine ⟨⟨e0.mod, S.kind, rfl, rfl, Nat.le_refl _, fun y z c h1 h2 => ?_, fun y hy => ?_, fun y c _ h => ?_, fun z => hd.trans (Option.isNone_iff_eq_none.mp z), Around.frames_deeper e0.frames, .inr ⟨rfl, rfl⟩, fun b z => absurd z (noA b), e0.bs, e0.bsz, fun b _ _ => noA b, fun b z => absurd z (noA b), e0.funs, e0.frf⟩,
    rfl, e0.bare, Un.kept hk, ⟨_, x.toInCall.ns, fun i y v h1 h2 h3 => ?_⟩, fun y c h => ⟨_, x.cell y c h⟩, e0.hok.fresh (Nat.le_refl _), fun y c h => ?_, fun p hp => absurd (show p ∈ ([] : List (Addr × Obj)) from hp) (by simp), e0.hok.kept hk, ?_⟩
  · exact name_of_addr x.apart (PySem.mem_of_lookup h1) (PySem.mem_of_lookup h2)
  · have hy : scope.names.lookup y = some .cell ∨ scope.names.lookup y = some .free := hy
    rcases hy with hy | hy
    · exact cell_has hy
    · exact absurd rfl (S.nofree _ (PySem.mem_of_lookup hy))
  · exact Nat.le_of_lt (x.above y c (PySem.mem_of_lookup h))
  · have hi : i < vs.length := by
      unfold start at h2
      by_cases hi : i < vs.length
      · exact hi
      · rw [List.getElem?_append_right (by simpa using hi)] at h2
        rw [List.getElem?_replicate] at h2
        split at h2 <;> cases h2
    have ha : vs[i]? = some v := by
      unfold start at h2
      rw [List.getElem?_append_left (by simpa using hi), List.getElem?_map] at h2
      cases e : vs[i]? with
      | none => rw [e] at h2; cases h2
      | some a => rw [e] at h2; cases h2; rfl
    obtain ⟨u, hu, rv⟩ := r.get ha
    have hp : ps[i]? = some y := by
      rw [← S.pre, List.getElem?_take_of_lt (by omega)]; exact h1
    have ndP : ps.Nodup := by rw [← S.pre]; exact S.nd.sublist (List.take_sublist _ _)
    refine ⟨u, rv, ?_⟩
    rcases S.par y (List.mem_of_getElem? hp) with k | k
    · exact .inl ⟨k, bindL_get ndP hp hu k⟩
    · obtain ⟨c, e⟩ := cell_has (n := s.heap.objs.size + 1) k
      refine .inr ⟨.inl k, c, e, ?_⟩
      have q := x.cell y c e
      rw [bindC_get ndP hp hu (by show scope.names.lookup y ≠ _; rw [k]; decide)] at q
      exact q
  · exact e0.hok.fresh (Nat.le_of_lt (x.above y c (PySem.mem_of_lookup h)))
  · unfold start
    show _ = N.length
    rw [List.length_append, List.length_map, List.length_replicate]
    omega
private theorem fn_of {hv : Option Value} {CX : CXT} {P : Program} {w : World} {K : PySem.W.Frag} {mg : Str → Option Value} {base : Heap} {k : Nat} {f : Addr} {name qual : Str} {params : Arguments} {body : List Stmt} {scope : Scope} {dV kV doc pm cdv ct oc : Value} {an od : Option Addr}
    {osl : Array (Option Value)} {N ps : List Str} {sp : Sp} (lk : K.lookup f = some ⟨oc, od, .func (PySem.W.fnOf name qual params body scope dV kV doc pm an cdv ct), osl⟩) (hcd : PySem.W.codeIn K cdv qual = true) (S : FnScope N ps scope)
    (len : ∀ vs H Q E, sp vs H Q E → vs.length = ps.length)
    (hbody : ∀ (A : Around) (outer : List Env) (s : Shared) (H : Hp) (vs : List V) (Q : VK) (E : XK), RoomY hv k (A.deeper (envOfC qual scope s.heap.objs.size f cdv)) → sp vs H Q E →
      ∃ t, PSs (cxOfY hv CX P w K mg base N qual scope f cdv A outer s H E) body t ∧ t { nx := fun _ H' => Q .non H', rt := Q } (start N vs) H) :
    FnOkY hv P w K mg base CX (k + 1) f (PySem.W.fnOf name qual params body scope dV kV doc pm an cdv ct) ps sp := by
  refine ⟨len, fun A outer s H args us vs Q E hr e0 hb r hsp => ?_⟩
  have hl := len _ _ _ _ hsp
  have KX : K.In s.heap := e0.mod.kin.keeps fun b o e => (e0.bs b o e).1
  have lim : s.heap.NoLimit := e0.mod.nolimit.keeps fun b o e => (e0.bs b o e).1
  have hkind : ∀ y ∈ ps.zip us, scope.names.lookup y.1 = some .local ∨ (scope.names.lookup y.1 = some .cell ∧ ((cellsFrom (s.heap.objs.size + 1) scope.names []).lookup y.1).isSome = true) := fun ⟨n, v⟩ hy => by
    rcases S.par n (List.of_mem_zip hy).1 with q | q
    · exact .inl q
    · exact .inr ⟨q, PySem.W.cellsFrom_some _ _ _ (.inl q)⟩
  refine codeAny_call_function hr.depth (KX _ _ lk) rfl S.co S.gen rfl (PySem.W.codeRec_of KX hcd) (hb _ _ _ _ ?_)
  refine wpAny_newFunctionEnv_cells S.kind hkind fun env he s1 x => ?_
  subst he
  refine ⟨lim.keeps x.toInCall.keep, codeAny_func ?_⟩
  obtain ⟨t, ht, hq⟩ := hbody A outer s H vs Q E (hr.deeper _) hsp
  have I : Inv (cxOfY hv CX P w K mg base N qual scope f cdv A outer s H E) [] (start N vs) H s1 := inv_start S hr.hd e0 hl r x
  refine wpAny_mono (ht [] s1 (start N vs) H _ I hq) (fun fl s' hs => ?_) fun e s' hs => hs
  have fin : ∀ {σ' : St} {H' : Hp} {v : V} {u : Value}, Inv (cxOfY hv CX P w K mg base N qual scope f cdv A outer s H E) [] σ' H' s' → RelV v u → Q v H' → CE outer P w H s Q u s' :=
    fun {σ' H' v u} J rv q => ⟨v, H', J.os, J.bare, J.base, J.hok, rv, q⟩
  cases fl with
  | ret u =>
    obtain ⟨v, σ', H', J, rv, q⟩ := hs
    exact fin J rv q
  | next =>
    obtain ⟨σ', H', J, q⟩ := hs
    exact fin (v := V.non) (u := Value.none) J rfl q
  | brk =>
    obtain ⟨_, _, _, q⟩ := hs
    exact False.elim q
  | cont =>
    obtain ⟨_, _, _, q⟩ := hs
    exact False.elim q
end L2
namespace L2
open PySem PySem.Spec PyProof.Rows
section
variable {X : Cx} {x : Str} {p pos : Pos} {e : Expr} {es : List Expr} {t : TA} {id T : String} {r : List V → Hp → VK → Prop}
noncomputable def tCB (r : List V → Hp → VK → Prop) (t : TA) : TE := fun σ H Q => t σ H fun vs H1 => r vs H1 Q
private theorem pe_callB (hc : CallR X (.builtin id) r) (hg : Gl X x) (hm : X.mg x = none) (hv : bootBuiltins x = some (.builtin id)) (ha : PA X (e :: es) t) (hn : x ≠ "__name__" := by decide) (hdb : (x == ("__debug__" : Str)) = false := by decide)
    (he : starEach (e :: es) X.env = (false, eval e X.env) :: starEach es X.env := by rfl) (hpl : (backTo pos (starEach es X.env)).any (·.1) = false := by rfl) : PE X (.Call (.Name x p) (e :: es) [] pos) (tCB r t) := by
  intro pins s σ H Q I h
  refine wpAny_Call_Name_kw (ld_blt I hg hm hv ?_ hn hdb)
  exact PyProof.Rows.callWith_builtin1 (thn (ha pos pins s σ H _ I h) fun us s1 zz81 => e23 zz81 fun vs H1 I1 r1 q1 => hc pins s1 σ H1 vs us Q I1 r1 q1) he hpl
private theorem pe_callTy (hc : CallR X (.type T) r) (hg : Gl X x) (hm : X.mg x = none) (hv : bootBuiltins x = some (.type T)) (ha : PA X (e :: es) t) (hn : x ≠ "__name__" := by decide) (hdb : (x == ("__debug__" : Str)) = false := by decide)
    (he : starEach (e :: es) X.env = (false, eval e X.env) :: starEach es X.env := by rfl) (hpl : (backTo pos (starEach es X.env)).any (·.1) = false := by rfl) : PE X (.Call (.Name x p) (e :: es) [] pos) (tCB r t) := by
  intro pins s σ H Q I h
  refine wpAny_Call_Name_kw (ld_blt I hg hm hv ?_ hn hdb)
  exact PyProof.Rows.callWith_type1 (thn (ha pos pins s σ H _ I h) fun us s1 zz82 => e23 zz82 fun vs H1 I1 r1 q1 => hc pins s1 σ H1 vs us Q I1 r1 q1) he hpl
end
end L2
namespace HT
open PySem PyProof.Rows
section
open PySem.SeqAt
open PySem.AutoSeq1 (wpAny_loadPart')
open PySem.MeetsSeq PySem.MeetsSeq2 PySem.MeetsSeq3
end
section
variable {prog : Program} {w : World} {A : Around} {E : Value → Shared → Prop} {s : Shared}
noncomputable def sIx (n d : Nat) : Option Int → Nat
  | none => d
  | some v => if v < 0 then (v + (n : Int)).toNat else min v.toNat n
end
end HT
namespace L2
open PySem PySem.Spec PyProof.Rows
noncomputable abbrev TO := St → Hp → (Option Int → Hp → Prop) → Prop
noncomputable def PO (X : Cx) (e : Option Expr) (t : TO) : Prop :=
  ∀ (pins : List (Addr × Obj)) (s : Shared) (σ : St) (H : Hp) (Q : Option Int → Hp → Prop), Inv X pins σ H s → t σ H Q →
    wpAny (model X.prog X.w) X.A (evalPart e X.env) (fun u s' => ∃ o H', Inv X pins σ H' s' ∧ IsPart u o ∧ Q o H') X.xe s
noncomputable def tNoPart : TO := fun _ H Q => Q none H
noncomputable def tPart (t : TE) : TO := fun σ H Q => t σ H fun x H1 => ∃ i, x = .int i ∧ Q (some i) H1
section
variable {X : Cx} {e : Expr} {te : TE} {lo hi : Option Expr} {tl th : TO} {pos p2 : Pos}
private theorem po_none : PO X none tNoPart := by
  intro pins s σ H Q I h
  rw [evalPart_none]
  exact wpAny_pure ⟨none, H, I, .none, h⟩
private theorem po_some (h : PE X e te) : PO X (some e) (tPart te) := by
  intro pins s σ H Q I hw
  rw [evalPart_some]
  refine thn (h pins s σ H _ I hw) fun u s1 zz83 => e23 zz83 fun x H1 I1 r1 q1 => ?_
  obtain ⟨i, rfl, q⟩ := q1
  obtain ⟨t, rfl⟩ := r1
  exact ⟨some i, H1, I1, .int i t, q⟩
noncomputable def SlR (X : Cx) (r : V → Option Int → Option Int → Hp → VK → Prop) : Prop :=
  ∀ (pins : List (Addr × Obj)) (s : Shared) (σ : St) (H : Hp) (x : V) (v vl vu : Value) (lo hi : Option Int) (sl : Addr) (Q : VK), Inv X pins σ H s → RelV x v → s.heap.IsSliceOf sl vl vu .none → IsPart vl lo → IsPart vu hi → r x lo hi H Q →
    ∃ T id, typeLookup (.type T) "__getitem__" = pure (some (.builtin id)) ∧ s.TypeIs v T ∧ wpAny (model X.prog X.w) X.A (getItem v (.ref sl)) (EP X pins σ Q) X.xe s
noncomputable def tSl (r : V → Option Int → Option Int → Hp → VK → Prop) (te : TE) (tl th : TO) : TE := fun σ H Q => te σ H fun x H1 => tl σ H1 fun l H2 => th σ H2 fun u H3 => r x l u H3 Q
private theorem pe_slice {r : V → Option Int → Option Int → Hp → VK → Prop} (hr : SlR X r) (he : PE X e te) (hl : PO X lo tl) (hu : PO X hi th) : PE X (.Subscript e (.Slice lo hi none p2) pos) (tSl r te tl th) := by
  intro pins s σ H Q I h
  refine Subscript_ (thn (he pins s σ H _ I h) fun v s1 zz84 => e23 zz84 fun x H1 I1 r1 q1 => ?_)
  refine wpAny_Slice (thn (hl pins s1 σ H1 _ I1 q1) fun vl s2 zz85 => e23 zz85 fun l H2 I2 pl q2 => thn (hu pins s2 σ H2 _ I2 q2) fun vu s3 zz86 => e23 zz86 fun u H3 I3 pu q3 => ?_)
  rw [evalPart_none]
  refine wpAny_pure ?_
  have I4 : Inv X pins σ H3 { s3 with heap := s3.heap.push { cls := .type "slice", data := .fields #[vl, vu, .none] } } := I3.kept (t' := s3.toks) fun b ob q => Heap.get?_push_of_some _ q
  obtain ⟨T, id, hT, ht, hg⟩ := hr pins { s3 with heap := s3.heap.push { cls := .type "slice", data := .fields #[vl, vu, .none] } } σ H3 x v vl vu l u s3.heap.objs.size Q I4 r1 (Heap.IsSliceOf.new ..) pl pu q3
  show wpAny (model X.prog X.w) X.A (subscriptTail e (.Slice lo hi none p2) v (.ref s3.heap.objs.size)) (EP X pins σ Q) X.xe { s3 with heap := s3.heap.push { cls := .type "slice", data := .fields #[vl, vu, .none] } }
  exact tail_any (ops := [.ref s3.heap.objs.size, v]) ht hT hg (by with_unfolding_all rfl)
noncomputable def cutV (xs : List V) (lo hi : Option Int) : List V := (xs.drop (HT.sIx xs.length 0 lo)).take (HT.sIx xs.length xs.length hi - HT.sIx xs.length 0 lo)
private theorem cutV_length (xs : List V) (lo hi : Option Int) : (cutV xs lo hi).length ≤ xs.length := by
  unfold cutV
  rw [List.length_take, List.length_drop]
  omega
end
end L2
namespace L2
open PySem PySem.Spec PyProof.Rows
noncomputable def ixN (n : Nat) (i : Int) : Option Nat := if 0 ≤ i then (if i < n then some i.toNat else none) else if -(n : Int) ≤ i then some (i + n).toNat else none
noncomputable def atI {α : Type} (xs : List α) (i : Int) : Option α := (ixN xs.length i).bind fun j => xs[j]?
private theorem ixN_seq {n : Nat} {i : Int} {j : Nat} (h : ixN n i = some j) : seqIndex? i n = some j ∧ j < n ∧ -(n : Int) ≤ i ∧ i < n := by
  unfold ixN at h
  by_cases h0 : 0 ≤ i
  · rw [if_pos h0] at h
    by_cases h1 : i < n
    · rw [if_pos h1] at h
      have e : i.toNat = j := Option.some.inj h
      exact ⟨by rw [seqIndex_of h0 h1, e], by omega, by omega, h1⟩
    · rw [if_neg h1] at h; cases h
  · rw [if_neg h0] at h
    by_cases h1 : -(n : Int) ≤ i
    · rw [if_pos h1] at h
      have e : (i + n).toNat = j := Option.some.inj h
      exact ⟨by rw [seqIndex_neg (by omega) h1, e], by omega, h1, by omega⟩
    · rw [if_neg h1] at h; cases h
private theorem atI_get {α : Type} {xs : List α} {i : Int} {v : α} (h : atI xs i = some v) : ∃ j, seqIndex? i xs.length = some j ∧ xs[j]? = some v ∧ j < xs.length ∧ -(xs.length : Int) ≤ i ∧ i < xs.length := by
  unfold atI at h
  cases e : ixN xs.length i with
  | none => rw [e] at h; cases h
  | some j =>
    rw [e] at h
    obtain ⟨h1, h2, h3, h4⟩ := ixN_seq e
    exact ⟨j, h1, h, h2, h3, h4⟩
noncomputable def PlainIx (b : Expr) : Prop := ∀ o i, subscripted b false o i = operate [o, i] (getItem o i)
noncomputable def IxR (X : Cx) (r : R2) : Prop :=
  ∀ (value slice : Expr) (pins : List (Addr × Obj)) (s : Shared) (σ : St) (H : Hp) (x y : V) (v u : Value) (Q : VK), Inv X pins σ H s → RelV x v → RelV y u → r x y H Q →
    subscripted slice false v u = operate [v, u] (getItem v u) → wpAny (model X.prog X.w) X.A (subscriptTail value slice v u) (EP X pins σ Q) X.xe s
noncomputable def MtR (X : Cx) (id : String) (r : V → List V → Hp → VK → Prop) : Prop :=
  ∀ (pins : List (Addr × Obj)) (s : Shared) (σ : St) (H : Hp) (x : V) (xs : List V) (v : Value) (us : List Value) (Q : VK), Inv X pins σ H s → RelV x v → Vals xs us → r x xs H Q →
    wpAny (model X.prog X.w) X.A (call (.builtin id) (v :: us)) (EP X pins σ Q) X.xe s
section
variable {X : Cx} {a b : Expr} {ta tb : TE} {pos : Pos}
private theorem IxR.or {r r' : R2} (h : IxR X r) (h' : IxR X r') : IxR X (fun x y H Q => r x y H Q ∨ r' x y H Q) := by
  intro value slice pins s σ H x y v u Q I rx ry q hs
  rcases q with q | q
  · exact h value slice pins s σ H x y v u Q I rx ry q hs
  · exact h' value slice pins s σ H x y v u Q I rx ry q hs
private theorem pe_ix {r : R2} (hr : IxR X r) (ha : PE X a ta) (hb : PE X b tb) (hs : PlainIx b) : PE X (.Subscript a b pos) (tOp r ta tb) := by
  intro pins s σ H Q I h
  exact Subscript_ (binT ha hb I h fun v u s2 x y H2 I2 rx ry q => hr a b pins s2 σ H2 x y v u Q I2 rx ry q (hs _ _))
noncomputable def rIxL (K : PySem.W.Frag) : R2 := fun x y H Q => ∃ p xs i v, x = .ref p ∧ y = .int i ∧ SqL K H p xs ∧ atI xs i = some v ∧ Q v H
noncomputable def rIxT (K : PySem.W.Frag) : R2 := fun x y H Q => ∃ p xs i v, x = .ref p ∧ y = .int i ∧ SqT K H p xs ∧ atI xs i = some v ∧ Q v H
noncomputable def rIxS : R2 := fun x y H Q => ∃ z i c, x = .str z ∧ y = .int i ∧ z.length ≤ sizeLine ∧ atI z.cps.toList i = some c ∧ Q (.str ⟨#[c]⟩) H
private theorem ix_list : IxR X (rIxL X.K) := by
  intro value slice pins s σ H x y v u Q I rx ry h hs
  obtain ⟨p, xs, i, z, rfl, rfl, hq, he, q⟩ := h
  cases rx
  obtain ⟨t, rfl⟩ := ry
  obtain ⟨its, r, pl, hz⟩ := I.list hq
  obtain ⟨j, h1, h2, h3, h4, h5⟩ := atI_get he
  obtain ⟨w, ew, rw'⟩ := r.get h2
  have hl := r.length
  have hn := line63
  have fin : EP X pins σ Q w s := ⟨z, H, I, rw', q⟩
  by_cases h0 : 0 ≤ i
  · have hj : i.toNat = j := by
      rw [seqIndex_of h0 h5] at h1
      exact Option.some.inj h1
    exact item_listR pl.isList h0 (by omega) (by rw [hj]; simpa using ew) fin hs
  · have hj : (i + (its.toArray.size : Int)).toNat = j := by
      rw [seqIndex_neg (by omega) h4] at h1
      rw [List.size_toArray, ← hl]
      exact Option.some.inj h1
    exact subscriptTail_builtinR (x := w) pl.isList.typeIs slot_list_getitem.lookup
      (wpAny_getItem_list_neg (Q := fun r s' => r = w ∧ EP X pins σ Q r s') pl.isList (by omega) (by rw [List.size_toArray] <;> omega) (by omega) (by rw [hj]; simpa using ew) ⟨rfl, fin⟩) hs
private theorem ix_tup : IxR X (rIxT X.K) := by
  intro value slice pins s σ H x y v u Q I rx ry h hs
  obtain ⟨p, xs, i, z, rfl, rfl, hq, he, q⟩ := h
  cases rx
  obtain ⟨t, rfl⟩ := ry
  obtain ⟨its, r, pl, hz⟩ := I.tuple hq
  obtain ⟨j, h1, h2, h3, h4, h5⟩ := atI_get he
  obtain ⟨w, ew, rw'⟩ := r.get h2
  have hl := r.length
  have hn := line63
  have fin : EP X pins σ Q w s := ⟨z, H, I, rw', q⟩
  exact subscriptTail_builtinR (x := w) pl.typeIs slot_tuple_getitem.lookup
    (getItem_tuple (j := j) (Q := fun r s' => r = w ∧ EP X pins σ Q r s') pl (by omega) (by omega) (by rw [List.size_toArray, ← hl]; exact h1) (by simpa using ew) ⟨rfl, fin⟩) hs
private theorem ix_str : IxR X rIxS := by
  intro value slice pins s σ H x y v u Q I rx ry h hs
  obtain ⟨z, i, c, rfl, rfl, hz, he, q⟩ := h
  obtain ⟨t, rfl⟩ := rx
  obtain ⟨t', rfl⟩ := ry
  obtain ⟨j, h1, h2, h3, h4, h5⟩ := atI_get he
  have hl : z.cps.toList.length = z.length := by simp [Str.length]
  rw [hl] at h1 h4 h5
  have hn := line63
  exact tail_any (typeIs_str s z t) slot_str_getitem.lookup (getItem_str (c := c) (by
    have e1 : decide (i < -(2 ^ 63 : Int)) = false := decide_eq_false (by omega)
    have e2 : decide (i ≥ 2 ^ 63) = false := decide_eq_false (by omega)
    rw [e1, e2, Bool.or_false]) (by rw [h1]; simpa using h2) ⟨.str ⟨#[c]⟩, H, I.tok _, ⟨_, rfl⟩, q⟩) hs
noncomputable def rIx (K : PySem.W.Frag) : R2 := fun x y H Q => rIxL K x y H Q ∨ rIxT K x y H Q ∨ rIxS x y H Q
private theorem ix_seq : IxR X (rIx X.K) := ix_list.or (ix_tup.or ix_str)
private theorem slice_bounds (lo hi : Option Int) (n : Nat) : (sliceBounds lo hi none n).1 = ((HT.sIx n 0 lo : Nat) : Int) ∧ (sliceBounds lo hi none n).2.1 = ((HT.sIx n n hi : Nat) : Int) ∧ (sliceBounds lo hi none n).2.2 = 1 := by
  refine ⟨?_, ?_, rfl⟩
  · cases lo with
    | none => simp [sliceBounds, HT.sIx]
    | some i =>
      simp only [sliceBounds, HT.sIx, Option.getD_none, show (1 : Int) > 0 by decide, if_true]
      by_cases h : i < 0
      · simp only [h, if_true] <;> omega
      · simp only [h, if_false] <;> omega
  · cases hi with
    | none => simp [sliceBounds, HT.sIx]
    | some i =>
      simp only [sliceBounds, HT.sIx, Option.getD_none, show (1 : Int) > 0 by decide, if_true]
      by_cases h : i < 0
      · simp only [h, if_true] <;> omega
      · simp only [h, if_false] <;> omega
private theorem slicePick_cut (its : List Value) (lo hi : Option Int) : slicePick its.toArray lo hi none = ((its.drop (HT.sIx its.length 0 lo)).take (HT.sIx its.length its.length hi - HT.sIx its.length 0 lo)).toArray := by
  obtain ⟨h1, h2, h3⟩ := slice_bounds lo hi its.toArray.size
  unfold slicePick
  rw [h1, h2, h3]
  simp only [sliceRange_one, pick_run, List.size_toArray] <;> rfl
noncomputable def rSlL (K : PySem.W.Frag) : V → Option Int → Option Int → Hp → VK → Prop := fun x lo hi H Q => ∃ a xs, x = .ref a ∧ SqL K H a xs ∧ ∀ p, H p = none → Q (.ref p) (upd H p (.lst (cutV xs lo hi)))
private theorem sl_list : SlR X (rSlL X.K) := by
  intro pins s σ H x v vl vu lo hi sl Q I rx hs pl pu h
  obtain ⟨a, xs, rfl, hx, q⟩ := h
  cases rx
  obtain ⟨its, r, ht, hz⟩ := I.list hx
  have hlen := r.length
  refine ⟨"list", _, slot_list_getitem.lookup, ht.isList.typeIs, ?_⟩
  refine wpAny_getItem_list_slice ht.isList hs pl pu .none (by simp) ?_ (by rw [List.size_toArray] <;> omega)
  rw [slicePick_cut, ← hlen]
  refine ⟨.ref s.heap.objs.size, _, I.laid (t' := s.toks) (o := .lst (cutV xs lo hi)) (fun b ob q => Heap.get?_push_of_some _ q) (Nat.le_refl _) ?_, rfl, q _ (I.hok.fresh (Nat.le_refl _))⟩
  exact ⟨Nat.le_trans (cutV_length xs lo hi) hz, _, 0, (r.drop (HT.sIx xs.length 0 lo)).take (HT.sIx xs.length xs.length hi - HT.sIx xs.length 0 lo), Heap.get?_push_size _ rfl⟩
private theorem call_len_seq : CallR X (.builtin "len") (fun xs H Q => ∃ p ys, xs = [.ref p] ∧ (SqL X.K H p ys ∨ SqT X.K H p ys) ∧ Q (.int ys.length) H) := by
  intro pins s σ H xs us Q I r h
  obtain ⟨p, ys, rfl, hq, q⟩ := h
  obtain ⟨u, rfl, rx⟩ := vals1 r
  cases rx
  have hn := line63
  rcases hq with hq | hq
  · obtain ⟨its, r', pl, hz⟩ := I.list hq
    have hlen := r'.length
    exact Calls.call_len_list pl.isList (by simp only [List.size_toArray] <;> omega) ⟨.int ys.length, H, I.tok _, ⟨s.toks + 1, by rw [List.size_toArray, hlen]⟩, q⟩
  · obtain ⟨its, r', pl, hz⟩ := I.tuple hq
    have hlen := r'.length
    exact len_tuple pl (by simp only [List.size_toArray] <;> omega) ⟨.int ys.length, H, I.tok _, ⟨s.toks + 1, by rw [List.size_toArray, hlen]⟩, q⟩
private theorem call_len_str : CallR X (.builtin "len") (fun xs H Q => ∃ z, xs = [.str z] ∧ z.length ≤ sizeLine ∧ Q (.int z.length) H) := by
  intro pins s σ H xs us Q I r h
  obtain ⟨z, rfl, hz, q⟩ := h
  obtain ⟨u, rfl, t, rfl⟩ := vals1 r
  have hn := line63
  exact len_str (by omega) ⟨.int z.length, H, I.tok _, ⟨_, rfl⟩, q⟩
private theorem call_tuple_of : CallR X (.type "tuple") (fun xs H Q => ∃ p ys, xs = [.ref p] ∧ ((SqL X.K H p ys ∧ ∀ l, H l = none → Q (.ref l) (upd H l (.tup ys))) ∨ (SqT X.K H p ys ∧ Q (.ref p) H))) := by
  intro pins s σ H xs us Q I r h
  obtain ⟨p, ys, rfl, h⟩ := h
  obtain ⟨u, rfl, rx⟩ := vals1 r
  cases rx
  rcases h with ⟨hq, q⟩ | ⟨hq, q⟩
  · obtain ⟨its, r', pl, hz⟩ := I.list hq
    have hlen := r'.length
    refine call_tuple_list pl.isList (fun h' kp => ?_) (by simp only [List.size_toArray] <;> omega)
    have I1 : Inv X pins σ H { s with heap := h' } := I.kept (t' := s.toks) kp
    have I2 : Inv X pins σ (upd H h'.objs.size (.tup ys)) { s with heap := h'.push { cls := .type "tuple", data := .seq its.toArray } } :=
      I1.laid (t' := s.toks) (fun b o e => Heap.get?_push_of_some _ e) (Nat.le_refl _) (show ObjOk X.prog X.w _ _ _ (.tup ys) from ⟨hz, its, r', IsTup.new _ _⟩)
    exact ⟨.ref h'.objs.size, _, I2, rfl, q _ (I1.hok.fresh (Nat.le_refl _))⟩
  · obtain ⟨its, r', pl, hz⟩ := I.tuple hq
    exact call_tuple_same pl ⟨.ref p, H, I, rfl, q⟩
noncomputable def tyV (K : PySem.W.Frag) (T : String) (x : V) (H : Hp) : Prop := match x with
  | .str _ => T = "str"
  | .int _ => T = "int"
  | .ref p => (T = "list" ∧ ∃ xs, SqL K H p xs) ∨ (T = "tuple" ∧ ∃ o, K.lookup p = some o ∧ o.cls = .type "tuple" ∧ o.dict = none) ∨
      (T = "dict" ∧ ((∃ kvs, H p = some (.dK kvs)) ∨ ∃ kvs, H p = some (.dT kvs))) ∨ (T = "set" ∧ ∃ S n, H p = some (.set S n))
  | _ => False
private theorem tyV_is {pins : List (Addr × Obj)} {σ : St} {H : Hp} {s : Shared} {T : String} {x : V} {v : Value} (I : Inv X pins σ H s) (r : RelV x v) (ty : tyV X.K T x H) :
    s.TypeIs v T ∧ ∀ a, v = .ref a → ∃ ob, s.heap.get? a = some ob ∧ ob.dict = none := by
  cases x with
  | str z =>
    obtain ⟨t, rfl⟩ := r
    cases (show T = "str" from ty)
    exact ⟨typeIs_str s z t, fun _ e => nomatch e⟩
  | int i =>
    obtain ⟨t, rfl⟩ := r
    cases (show T = "int" from ty)
    exact ⟨typeIs_int s i t, fun _ e => nomatch e⟩
  | ref p =>
    cases r
    rcases ty with ⟨rfl, xs, hq⟩ | ⟨rfl, o, hk, hc, hd⟩ | ⟨rfl, hk⟩ | ⟨rfl, S, n, hk⟩
    · obtain ⟨its, _, pl, _⟩ := I.list hq
      refine ⟨pl.isList.typeIs, fun a e => ?_⟩
      cases e
      obtain ⟨o, n, e, c, hd, _⟩ := pl
      exact ⟨o, e, hd⟩
    · refine ⟨⟨o, I.kIn p o hk, hc⟩, fun a e => ?_⟩
      cases e
      exact ⟨o, I.kIn _ o hk, hd⟩
    · have z : ∃ o, s.heap.get? p = some o ∧ o.ExactDict := by
        rcases hk with ⟨kvs, hk⟩ | ⟨kvs, hk⟩
        · obtain ⟨_, _, _, _, o, _, _, e, ex, _⟩ := I.hok p _ hk
          exact ⟨o, e, ex⟩
        · obtain ⟨_, _, _, _, o, _, _, e, ex, _⟩ := I.hok p _ hk
          exact ⟨o, e, ex⟩
      obtain ⟨o, e, ex⟩ := z
      refine ⟨⟨o, e, ex.1⟩, fun a e2 => ?_⟩
      cases e2
      exact ⟨o, e, ex.2.1⟩
    · obtain ⟨o, _, _, _, e, ex, _⟩ := I.hok p _ hk
      refine ⟨⟨o, e, ex.1⟩, fun a e2 => ?_⟩
      cases e2
      exact ⟨o, e, ex.2.1⟩
  | _ => exact False.elim ty
noncomputable def tBM (K : PySem.W.Frag) (T : String) (r : V → List V → Hp → VK → Prop) (to : TE) (t : TA) : TE := fun σ H Q => to σ H fun x H1 => tyV K T x H1 ∧ t σ H1 fun xs H2 => r x xs H2 Q
variable {o e : Expr} {es : List Expr} {to : TE} {t : TA} {name : Str} {apos cpos : Pos} {T id : String} {r : V → List V → Hp → VK → Prop}
private theorem pe_bm (pa : PlainAttrs T) (slot : Slot T name id) (hty : typeOf (.builtin id) = pure (.type "method_descriptor")) (hm : MtR X id r) (ho : PE X o to) (ha : PA X (e :: es) t)
    (hbase : attributeBase o name X.env (eval o X.env) = eval o X.env := by rfl)
    (hfew : ((backTo cpos (starEach (e :: es) X.env)).all (fun x => !x.1) && (backToKw cpos (keywordEach [] X.env)).all (fun x => x.1.isSome)
      && decide ((e :: es).length + ([] : List Keyword).length + (if ([] : List Keyword).isEmpty then 0 else 1) < 30)) = true := by rfl)
    (hline : (apos.endLine == cpos.line) = true := by rfl) (hs : starEach (e :: es) X.env = (false, eval e X.env) :: starEach es X.env := by rfl) (hplain : (backTo cpos (starEach es X.env)).any (·.1) = false := by rfl) :
    PE X (.Call (.Attribute o name apos) (e :: es) [] cpos) (tBM X.K T r to t) := by
  intro pins s σ H Q I h
  refine wpAny_Call_method_late hbase hfew hline rfl (thn (ho pins s σ H _ I h) fun v s1 zz88 => e24 zz88 fun x H1 I1 r1 ty q1 => ?_)
  obtain ⟨h1, h2⟩ := tyV_is I1 r1 ty
  refine ⟨T, id, pa, slot, hty, h1, h2, ?_⟩
  have hA := ha cpos pins s1 σ H1 _ I1 q1
  rw [hs] at hA ⊢
  refine Calls.callWith_builtin (by show (false || (backTo cpos (starEach es X.env)).any (·.1)) = false; rw [hplain] <;> rfl) (Calls.evalArgs_plain ?_)
  exact thn hA fun us s2 zz89 => e23 zz89 fun vs H2 I2 r2 q2 => hm pins s2 σ H2 x vs v us Q I2 r1 r2 q2
/- xs.append(e), list.index on a module's tuple .. are MtR facts of 06m -/
end
end L2
namespace L2
open PySem PySem.Spec PyProof.Rows
noncomputable def MtM (X : Cx) (id : String) (r : V → List V → Hp → VK → Prop) : Prop :=
  ∀ (pins : List (Addr × Obj)) (s : Shared) (σ : St) (H : Hp) (x : V) (xs : List V) (v : Value) (us : List Value) (Q : VK), Inv X pins σ H s → RelV x v → Vals xs us → r x xs H Q →
    wpAny (model X.prog X.w) X.A (call (.builtin id) (v :: us)) (EP X pins σ Q) X.xe s
private theorem Vals.one : ∀ {x : V} {us : List Value}, Vals [x] us → ∃ u, us = [u] ∧ RelV x u
  | _, _, .cons r .nil => ⟨_, rfl, r⟩
section
variable {X : Cx} {pins : List (Addr × Obj)} {σ : St} {H : Hp} {s : Shared} {l b : Addr} {xs ys zs : List V}
private theorem Inv.lset {its its' : List Value} {n : Nat} {f : Array Value → Array Value} {t' : Nat} (I : Inv X pins σ H s) (hH : H l = some (.lst xs))
    (e : s.heap.get? l = some { cls := .type "list", data := .seq its.toArray n }) (hf : f its.toArray = its'.toArray) (hv : Vals ys its') (hz : ys.length ≤ sizeLine) :
    Inv X pins σ (upd H l (.lst ys)) { s with heap := s.heap.update l (Obj.mapSeq f), toks := t' } := by
  have q := PySem.IsL.update e f
  rw [hf] at q
  refine I.write (x := l) (e := l) (by rw [hH]; exact trivial) (.inl rfl) (fun b' u hb hu => (Heap.get?_update_other s.heap (Obj.mapSeq f) (Ne.symm hb)).trans hu) ⟨_, q⟩ ?_
  exact ⟨hz, its', _, hv, q⟩
private theorem Inv.lnew {its : List Value} {t' : Nat} (I : Inv X pins σ H s) (hv : Vals ys its) (hz : ys.length ≤ sizeLine) :
    Inv X pins σ (upd H s.heap.objs.size (.lst ys)) { s with heap := s.heap.push { cls := .type "list", data := .seq its.toArray }, toks := t' } :=
  I.laid (fun _ _ q => Heap.get?_push_of_some _ q) (Nat.le_refl _) ⟨hz, its, 0, hv, Heap.get?_push_size _ rfl⟩
private theorem Inv.fresh (I : Inv X pins σ H s) : H s.heap.objs.size = none := I.hok.fresh (Nat.le_refl _)
private theorem Inv.lstM (I : Inv X pins σ H s) (hH : H l = some (.lst xs)) : xs.length ≤ sizeLine ∧ ∃ (its : List Value) (n : Nat), Vals xs its ∧ xs.length = its.length ∧ s.heap.get? l = some { cls := .type "list", data := .seq its.toArray n } := by
  obtain ⟨z, its, n, r, e⟩ := I.hok l _ hH
  exact ⟨z, its, n, r, r.length, e⟩
private theorem notLongL {n : Nat} (h : n ≤ sizeLine) : Builtin.List.listTooLong n = false := by
  unfold Builtin.List.listTooLong
  exact decide_eq_false (by omega)
end
section
variable {X : Cx}
noncomputable def rAppend : V → List V → Hp → VK → Prop := fun x vs H Q => ∃ l xs y, x = .ref l ∧ vs = [y] ∧ H l = some (.lst xs) ∧ xs.length < sizeLine ∧ Q .non (upd H l (.lst (xs ++ [y])))
private theorem mt_append : MtM X "list.append" rAppend := by
  intro pins s σ H x vs v us Q I rx rv h
  obtain ⟨l, xs, y, rfl, rfl, hH, hz, q⟩ := h
  cases rx
  obtain ⟨u, rfl, ru⟩ := rv.one
  obtain ⟨z, its, n, r, hl, e⟩ := I.lstM hH
  refine call_meets F.slot_list_append ⟨_, e, rfl⟩ F.entry_list_append (F.args_list_append_2 _ _) (PySem.list_append l its.toArray n u (by rw [List.size_toArray]; omega)) ⟨e, ?_⟩
  refine ⟨.non, _, I.lset (its' := its ++ [u]) hH e (by simp) (r.append (.cons ru .nil)) ?_, rfl, q⟩
  rw [List.length_append, List.length_singleton]
  omega
noncomputable def rExtend : V → List V → Hp → VK → Prop := fun x vs H Q => ∃ l b xs zs, x = .ref l ∧ vs = [.ref b] ∧ H l = some (.lst xs) ∧ H b = some (.lst zs) ∧ xs.length + zs.length ≤ sizeLine ∧ Q .non (upd H l (.lst (xs ++ zs)))
private theorem mt_extend : MtM X "list.extend" rExtend := by
  intro pins s σ H x vs v us Q I rx rv h
  obtain ⟨l, b, xs, zs, rfl, rfl, hH, hB, hz, q⟩ := h
  cases rx
  obtain ⟨u, rfl, ru⟩ := rv.one
  cases ru
  obtain ⟨z, its, n, r, hl, e⟩ := I.lstM hH
  obtain ⟨z2, its2, n2, r2, hl2, e2⟩ := I.lstM hB
  have hsz : its.toArray.size + its2.toArray.size ≤ sizeLine := by rw [List.size_toArray, List.size_toArray]; omega
  have hlong : ¬ (!its.toArray.isEmpty && Builtin.List.listTooLong (its.toArray.size + its2.toArray.size)) = true := by
    rw [notLongL hsz, Bool.and_false]
    exact Bool.false_ne_true
  refine call_meets F.slot_list_extend ⟨_, e, rfl⟩ F.entry_list_extend (F.args_list_extend_2 _ _)
    (AutoSeq1.list_extend_list_list_0 l its.toArray n b its2.toArray n2 hlong (by rw [List.size_toArray]; omega) (by omega)) ⟨e, e2, ?_⟩
  refine ⟨.non, _, I.lset (its' := its ++ its2) hH e (by simp) (r.append r2) ?_, rfl, q⟩
  rw [List.length_append]
  omega
end
section
variable {prog : Program} {w : World} {A : Around} {E : Value → Shared → Prop} {s : Shared}
private theorem bounds_run {a c n : Nat} (hac : a ≤ c) (hc : c ≤ n) : sliceBounds (some (a : Int)) (some (c : Int)) none n = ((a : Int), (c : Int), 1) := by
  simp only [sliceBounds, Option.getD_none]
  have h1 : ¬ ((a : Int) < 0) := by omega
  have h2 : ¬ ((c : Int) < 0) := by omega
  simp only [h1, h2, if_false, show (1 : Int) > 0 by decide, if_true]
  congr 1
  · omega
  · congr 1; omega
end
section
variable {X : Cx}
end
end L2
namespace Att
open PySem PySem.W PySem.Calls PyProof.Rows
private theorem ints_of_wellAll {P : Params} {h : Heap} : ∀ (ns : List Int) (vs : List Value), WellAll P h vs (ns.map WData.int) → IntsAre vs ns := by
  intro ns
  induction ns with
  | nil =>
    intro vs w
    rw [List.map_nil] at w
    cases w
    exact .nil
  | cons n ns ih =>
    intro vs w
    rw [List.map_cons] at w
    cases w with
    | cons a b =>
      cases a
      exact .cons _ _ (ih _ b)
private theorem script_of {l : OpenLaw} {n : Nat} (hn : l.most = some n) {P : Params} {h : Heap} {args : List WData} {vals : List Value}
    (hpre : l.row.toRowW.claim.pre args = true) (hwl : WellAll P h vals args) :
    ∃ a vs ns, vals = [Value.ref a] ∧ args = [WData.list (ns.map WData.int)] ∧ h.get? a = some { cls := .type "list", data := .seq vs.toArray } ∧ IntsAre vs ns ∧ ns.length ≤ n := by
  have hsh : WShape.hasAll [] args [.list .int] = true := (pre_splitW hpre).1
  have hc : l.pre.holds [] { args := args } = true := (pre_splitW hpre).2
  obtain ⟨d, r, rfl, h1, h2⟩ := hasAllW_cons hsh
  obtain rfl := hasAllW_nil h2
  obtain ⟨xs, rfl, h3⟩ := hasW_list h1
  obtain ⟨ns, rfl⟩ := items_int h3
  have hlen : ns.length ≤ n := by
    unfold OpenLaw.pre at hc
    have h4 : (WTm.not (.lt (.lit (.int (n : Int))) (.len (.arg 0)))).holds [] { args := [.list (ns.map .int)] } = true := by
      have h4 := (holds_andW hc).1
      rw [hn] at h4
      exact h4
    have h5 := condW_of h4 (w_not (w_lt w_lit (w_len_list (w_arg rfl))))
    rw [List.length_map] at h5
    refine Nat.le_of_not_lt fun q => ?_
    have q' : (n : Int) < ((ns.length : Nat) : Int) := by omega
    first
      | (rw [decide_eq_true q'] at h5; exact absurd h5 (by decide))
      | (simp at h5; omega)
  cases hwl with
  | cons w1 w2 =>
    cases w2
    cases w1 with
    | list ho hall => exact ⟨_, _, ns, rfl, rfl, ho, ints_of_wellAll ns _ hall, hlen⟩
private theorem post_true (l : OpenLaw) (args : List WData) : l.row.toRowW.claim.post args (.bool true) args = true :=
  postW_of (r := l.row.toRowW) (X := (true == true))
    (show WShape.has [] (.bool true) .bool = true by first | rfl | decide | simp [WShape.has, WShape.arms, WShape.armsAll])
    (show (WTm.eq .res (.lit (.bool true))).value [] { args := args, res := some (.bool true), after := args } = some (.bool (true == true)) from w_eq_bool (w_res rfl) w_lit) rfl
private theorem attach_call {l : OpenLaw} {n : Nat} {q : Program} {loose : List Str} {XP : (Str → Option Value) → Heap → Prop} {YP : World → Heap → Prop} {d : DefRec}
    (hn : l.most = some n) (hdf : d.params.defaults = [])
    (call : ∀ (w : World) (s₀ s₁ : Shared) (mg mb : Str → Option Value) (fa : Addr) (o : Obj) (pm cd doc : Value) (a : Addr) (vs : List Value) (ns : List Int),
      Ground q loose [] XP w s₀ mg mb s₁.heap → YP w s₁.heap →
      s₁.heap.get? fa = some o → o.data = .func (docDef d.name d.params d.body d.scope pm cd doc) → s₁.heap.CodeRec cd d.name → mg d.name = some (.ref fa) →
      s₁.heap.get? a = some { cls := .type "list", data := .seq vs.toArray } → IntsAre vs ns → ns.length ≤ n → s₁.gens = #[] →
      codeAny (model l.prog w) callerA (.call (.ref fa) ⟨[.ref a], []⟩) (fun r s' => r = .ok (.ret (.bool true)) ∧ OldK s₁.heap s'.heap ∧ s'.os = s₁.os ∧ AllBare s'.gens) s₁) :
    WalkO q loose XP YP l.row.toRowW d [] (fun f vs => PySem.call f vs) := by
  intro w s₀ s₁ mg mb G Y fa o pm cd doc dV kV ho hd hcd hD hmg hg args vals as hpre hlay hrd hwl hlo
  obtain rfl : dV = .none := Dflts.none hD hdf
  obtain rfl : kV = .none := Dflts.noKw hD
  obtain ⟨a, vs, ns, rfl, rfl, hobj, hints, hlen⟩ := script_of hn hpre hwl
  refine enter_call (codeAny_mono (call w s₀ s₁ mg mb fa o pm cd doc a vs ns G Y ho (fd_plain hd) hcd hmg hobj hints hlen hg) fun r s' hq => ?_)
  obtain ⟨rfl, h2, h3, h4⟩ := hq
  exact ⟨.inl ⟨.bool true, .bool true, [], rfl, fun _ => rfl, .bool true, post_true l _, fun _ => ⟨List.Pairwise.nil, fun _ hm => (nomatch hm)⟩⟩, h2, h3, h4⟩
section
variable {prog : Program} {w : World} {A : Around} {E : Value → Shared → Prop} {s : Shared} {K : Frag}
end
end Att
namespace L2
open PySem PySem.Spec PyProof.Rows
private theorem vals_ints : ∀ {vs : List Value} {ns : List Int}, IntsAre vs ns → Vals (ns.map V.int) vs
  | _, _, .nil => .nil
  | _, _, .cons n t h => .cons ⟨t, rfl⟩ (vals_ints h)
noncomputable def Only (H : Hp) : Prop := ∀ b, H b = none ∨ ∃ o xs, H b = some (.frz o (.lst xs))
private theorem law_call {P : Program} {w : World} {K : PySem.W.Frag} {mg mb : Str → Option Value} {CX : CXT} {k : Nat} {fa a : Addr} {fd : FuncData} {x : Str} {sp : Sp} {s₁ : Shared} {vs : List Value} {ns : List Int}
    (KX : K.In s₁.heap) (hns : s₁.heap.Ns mainGlobals mg) (hb : s₁.heap.Ns builtinsNs mb) (hbb : ∀ x : Str, x ≠ "__name__" → mb x = bootBuiltins x) (hlim : s₁.heap.NoLimit) (hg : s₁.gens = #[])
    (ha : s₁.heap.get? a = some { cls := .type "list", data := .seq vs.toArray }) (hi : IntsAre vs ns) (hl : ns.length ≤ sizeLine) (hr : Room k callerA)
    (F : ∀ base : Heap, K.In base → base.Ns mainGlobals mg → FnOk P w K mg base CX k fa fd [x] sp) (hbind : ∀ (s : Shared) (u : Value), BindsTo s fd ⟨[u], []⟩ [(x, u)])
    (hsp : ∀ H : Hp, Only H → SqL K H a (ns.map V.int) → sp [.ref a] H (fun v _ => v = .bl true) fun _ _ _ => False)
    (hCX : ∀ H e s', CX [] H s₁ (fun _ _ _ => False) e s' → False) :
    codeAny (model P w) callerA (.call (.ref fa) ⟨[.ref a], []⟩) (fun r s' => r = .ok (.ret (.bool true)) ∧ OldK s₁.heap s'.heap ∧ s'.os = s₁.os ∧ AllBare s'.gens) s₁ := by
  have rv := vals_ints hi
  have lenV := hi.length
  -- from an abstract heap in which nothing but the script may be tracked
  have core : ∀ H : Hp, Only H → SqL K H a (ns.map V.int) → HOk P w H s₁.heap → (∀ b, H b ≠ none → b = a) → (H a ≠ none → K.lookup a = none) →
      codeAny (model P w) callerA (.call (.ref fa) ⟨[.ref a], []⟩) (fun r s' => r = .ok (.ret (.bool true)) ∧ OldK s₁.heap s'.heap ∧ s'.os = s₁.os ∧ AllBare s'.gens) s₁ := by
    intro H hO hS hok hA hK
    have base_of : ∀ {b : Addr} {o : Obj}, s₁.heap.get? b = some o → H b = none → (hidT s₁.heap H).get? b = some o := fun e n => hidT_get e n
    have noA : ∀ {b : Addr} {o : Obj} {es : Array DictEntry} {ep : Nat}, s₁.heap.get? b = some o → o.data = .dict es ep → H b = none := fun {b o es ep} e d => by
      cases q : H b with
      | none => rfl
      | some u =>
        have e' : b = a := hA b (by rw [q]; simp)
        subst e'
        rw [ha] at e; cases e
        have d' : Data.seq vs.toArray _ = Data.dict es ep := d
        cases d'
    have nsK : ∀ {b : Addr} {m : Str → Option Value}, s₁.heap.Ns b m → (hidT s₁.heap H).Ns b m := fun {b m} ⟨o, es, ep, e, d, r⟩ => ⟨o, es, ep, base_of e (noA e d), d, r⟩
    have hKb : K.In (hidT s₁.heap H) := fun b o e => base_of (KX b o e) (by
      cases q : H b with
      | none => rfl
      | some u =>
        have e' : b = a := hA b (by rw [q]; simp)
        subst e'
        rw [hK (by rw [q]; simp)] at e; cases e)
    have hM : Mod K mg (hidT s₁.heap H) := ⟨hKb, nsK hns, ⟨mb, nsK hb, hbb⟩, let ⟨mc, h1, h2⟩ := hlim; ⟨mc, nsK h1, h2⟩⟩
    have e0 : Env0 P w K mg (hidT s₁.heap H) callerA [] s₁ H := ⟨rfl, hM, fun b o e => of_hidT e, Nat.le_of_eq (hidT_size _ _), trivial, fun b hb => absurd (show b ∈ ([] : List Addr) from hb) (by simp), hok, .of_eq hg⟩
    refine codeAny_mono ((F _ hKb (nsK hns)).run callerA [] s₁ H ⟨[.ref a], []⟩ [.ref a] [.ref a] _ _ hr e0 (hbind s₁ (.ref a)) (.cons rfl .nil) (hsp H hO hS)) fun r s' h => ?_
    cases r with
    | error e => exact (hCX H e s' h).elim
    | ok fl =>
      cases fl with
      | next => exact False.elim h
      | brk => exact False.elim h
      | cont => exact False.elim h
      | ret u =>
        obtain ⟨v, H', os, bare, un, hok', r', q⟩ := h
        have q' : v = .bl true := q
        subst q'
        obtain rfl : u = Value.bool true := r'
        refine ⟨rfl, OldK.of_keep fun b o e => ?_, os, bare⟩
        cases q : H b with
        | none => exact un.keep b o e q (by intro z; exact absurd (show b ∈ ([] : List Addr) from z) (by simp)) (by simp)
        | some u =>
          rcases hO b with z | ⟨ob, xs, z⟩
          · rw [q] at z; cases z
          · have z2 := un.frzs b ob _ z
            obtain ⟨e1, _⟩ := hok b _ z
            obtain ⟨e2, _⟩ := hok' b _ z2
            rw [e] at e1; cases e1
            exact e2
  cases hk : K.lookup a with
  | some o =>
    -- the script is one of the module's own objects
    have e := KX a o hk
    rw [ha] at e
    cases e
    refine core (fun _ => none) (fun _ => .inl rfl) (.inr ⟨_, vs.toArray, _, hk, rfl, rfl, rfl, by rw [List.size_toArray, lenV]; exact hl, by simpa using rv⟩) (fun b u z => by have z' : (none : Option HO) = some u := z; cases z') (fun b z => absurd rfl z) fun z => absurd rfl z
  | none =>
    refine core (fun b => if b = a then some (.frz { cls := .type "list", data := .seq vs.toArray } (.lst (ns.map V.int))) else none) (fun b => ?_) (.inl (.inr ⟨{ cls := .type "list", data := .seq vs.toArray }, if_pos rfl⟩)) (fun b u z => ?_) (fun b z => ?_) fun _ => hk
    · by_cases hb : b = a
      · exact .inr ⟨_, _, if_pos hb⟩
      · exact .inl (if_neg hb)
    · by_cases hb : b = a
      · have z' := (if_pos hb).symm.trans z
        cases z'
        subst hb
        exact ⟨ha, by rw [List.length_map]; exact hl, vs, _, rv, ha⟩
      · have z' := (if_neg hb).symm.trans z
        cases z'
    · by_cases hb : b = a
      · exact hb
      · exact absurd (if_neg hb) z
end L2
namespace L2
open PySem PySem.Spec PyProof.Rows
private theorem walk_of {l : PySem.W.OpenLaw} {n k : Nat} {q : Program} {loose : List Str} {XP : (Str → Option Value) → Heap → Prop} {YP : World → Heap → Prop} {d : DefRec} {K : Params → PySem.W.Frag} {CX : World → CXT} {sp : World → Sp} {x : Str}
    (hn : l.most = some n) (hn2 : n ≤ sizeLine) (hdf : d.params.defaults = []) (hr : Room k callerA)
    (hY : ∀ (w : World) (h : Heap), YP w h → (K w.params).In h)
    (F : ∀ (w : World) (mg : Str → Option Value) (fa : Addr) (h : Heap), (K w.params).In h → h.Ns mainGlobals mg → mg d.name = some (.ref fa) →
      ∃ fd : FuncData, (∀ (s : Shared) (u : Value), BindsTo s fd ⟨[u], []⟩ [(x, u)]) ∧
        ∀ base : Heap, (K w.params).In base → base.Ns mainGlobals mg → FnOk l.prog w (K w.params) mg base (CX w) k fa fd [x] (sp w))
    (hsp : ∀ (w : World) (H : Hp) (a : Addr) (ns : List Int), ns.length ≤ n → Only H → SqL (K w.params) H a (ns.map V.int) → sp w [.ref a] H (fun v _ => v = .bl true) fun _ _ _ => False)
    (hCX : ∀ (w : World) (H : Hp) (s : Shared) (e : Value) (s' : Shared), CX w [] H s (fun _ _ _ => False) e s' → False) :
    PySem.W.WalkO q loose XP YP l.row.toRowW d [] (fun f vs => PySem.call f vs) := by
  refine Att.attach_call hn hdf fun w s₀ s₁ mg mb fa o pm cd doc a vs ns G Y ho hd hcd hmg hobj hints hlen hg => ?_
  have KX := hY w _ Y
  obtain ⟨fd, hb, hF⟩ := F w mg fa _ KX G.T.g hmg
  exact law_call KX G.T.g G.T.b G.T.builtins G.T.nolimit hg hobj hints (Nat.le_trans hlen hn2) hr hF hb (fun H hO hS => hsp w H a ns hlen hO hS) fun H e s' => hCX w H s₁ e s'
end L2
/- THE LAST THEOREM (shape; LID, My.* are yours):
   My.Adr: a structure of the addresses that your layer names (classes, functions); My.Txt K t: a structure (Prop) of the equations over K;
   My.txt_mk : {K} {implicit addresses ..} (e1 : nsIn K mainGlobals "law" = some (some (.ref f))) (e2 : K.lookup f = some ⟨oc, od, .func (fnOf "law" "law" params body scope dV kV doc pm an cdv ct), sl⟩) (e3 : codeIn K cdv "law" = true) .. : ∃ t, My.Txt K t
set_option maxRecDepth 100000 in
set_option maxHeartbeats 0 in
theorem PySem.Challenge.cw_LID_holds : PySem.Challenge.rw_LID.Holds := by
  w_on; o_law; k_head; (case hw => w_witness2)
  k_fill
  refine L2.walk_of (l := PySem.Challenge.rw_LID) (n := 63) (k := 40) (x := "script") (CX := fun w => ..) (sp := fun _ => My.sp_law) rfl (by decide) rfl ⟨rfl, by decide, by decide⟩ (fun w h Y => PySem.W.kIn_of Y) ?F ?S ?C
  case F =>
    intro w mg fa h KX G hmg
    have T : ∃ t, My.Txt (L2.KOf KX) t := by
      dsimp only [L2.KOf]                          -- K must stand as «<heap const> w.params» for k_is
      refine' My.txt_mk ?e1 ?e2 ?e3 ..
      (case e1 => PySem.W.k_is)                    -- in the order: a name -> its address -> its object -> its parts
      (case e2 => PySem.W.k_is)
      ..
    obtain ⟨t, T⟩ := T
    have e0 := hmg.symm.trans (PySem.W.mg_of KX G T.law)
    cases e0                                       -- fa is the law's own address
    exact ⟨_, fun s u => .of_eq rfl, fun base kb nb => My.law_fn T kb nb⟩     -- if «.of_eq rfl» comes too early: refine' ⟨_, ?b, fun base kb nb => My.law_fn T kb nb⟩; exact fun s u => .of_eq rfl
  case S => exact fun w H a ns hl hO hS => ..
  case C => exact ..
(the tactic k_is has no namespace: write k_is) -/
namespace L2
open PySem PySem.Spec PyProof.Rows
noncomputable def defArgs (s : Stmt) : Arguments := match s with
  | .FunctionDef _ a _ _ _ _ _ _ _ _ => a
  | _ => { posonlyargs := [], args := [], vararg := none, kwonlyargs := [], kw_defaults := [], kwarg := none, defaults := [] }
noncomputable def defBody (s : Stmt) : List Stmt := match s with
  | .FunctionDef _ _ b _ _ _ _ _ _ _ => b
  | _ => []
noncomputable def defScope (s : Stmt) : Scope := match s with
  | .FunctionDef _ _ _ _ _ _ sc _ _ _ => sc
  | _ => { kind := .function, names := [], isGenerator := false, isCoroutine := false }
noncomputable abbrev CX0 : CXT := fun _ _ _ _ _ _ => False
noncomputable abbrev E0 : XK := fun _ _ _ => False
private theorem pass0 {X : Cx} : Passes CX0 X E0 := fun _ _ _ _ _ _ _ h => h.elim
structure Fun (K : PySem.W.Frag) (x qual : Str) (st : Stmt) (f : Addr) (fd : FuncData) : Prop where
  ex : ∃ (oc : Value) (od : Option Addr) (kV doc pm : Value) (an : Option Addr) (cdv ct : Value) (osl : Array (Option Value)),
    fd = PySem.W.fnOf x qual (defArgs st) (defBody st) (defScope st) .none kV doc pm an cdv ct ∧ K.lookup f = some ⟨oc, od, .func fd, osl⟩ ∧ PySem.W.codeIn K cdv qual = true
  kp : PySem.W.keepIn K (.ref f) = true
section
variable {P : Program} {w : World} {K : PySem.W.Frag} {mg : Str → Option Value} {base : Heap}
private theorem Fun.ok {hv : Option Value} {x qual : Str} {st : Stmt} {f : Addr} {fd : FuncData} {N ps : List Str} {k : Nat} {sp : Sp} (F : Fun K x qual st f fd) (S : FnScope N ps (defScope st)) (len : ∀ vs H Q E, sp vs H Q E → vs.length = ps.length)
    (hbody : ∀ (cdv : Value) (A : Around) (outer : List Env) (s : Shared) (H : Hp) (vs : List V) (Q : VK) (E : XK), RoomY hv k (A.deeper (envOfC qual (defScope st) s.heap.objs.size f cdv)) → sp vs H Q E →
      ∃ t, PSs (cxOfY hv CX0 P w K mg base N qual (defScope st) f cdv A outer s H E).nox (defBody st) t ∧ t { nx := fun _ H' => Q .non H', rt := Q } (start N vs) H) : FnOkY hv P w K mg base CX0 (k + 1) f fd ps sp := by
  obtain ⟨oc, od, kV, doc, pm, an, cdv, ct, osl, rfl, lk, hcd⟩ := F.ex
  refine fn_of lk hcd S len fun A outer s H vs Q E hr hsp => ?_
  obtain ⟨t, h, q⟩ := hbody cdv A outer s H vs Q E hr hsp
  exact ⟨t, h.nox, q⟩
private theorem Fun.binds {x qual : Str} {st : Stmt} {f : Addr} {fd : FuncData} {ps : List Str} (F : Fun K x qual st f fd)
    (h : ∀ (kV doc pm : Value) (an : Option Addr) (cdv ct : Value) (us : List Value), us.length = ps.length → bindArgs (PySem.W.fnOf x qual (defArgs st) (defBody st) (defScope st) .none kV doc pm an cdv ct) ⟨us, []⟩ = pure (ps.zip us)) : Binds K fd ps [] := by
  obtain ⟨oc, od, kV, doc, pm, an, cdv, ct, osl, rfl, lk, hcd⟩ := F.ex
  exact .all (h kV doc pm an cdv ct)
private theorem fun_mk {x qual : Str} {st : Stmt} {f : Addr} {oc : Value} {od an : Option Addr} {osl : Array (Option Value)} {kV doc pm cdv ct : Value} (l : K.lookup f = some ⟨oc, od, .func (PySem.W.fnOf x qual (defArgs st) (defBody st) (defScope st) .none kV doc pm an cdv ct), osl⟩)
    (c : PySem.W.codeIn K cdv qual = true) (k : PySem.W.keepIn K (.ref f) = true) : Fun K x qual st f (PySem.W.fnOf x qual (defArgs st) (defBody st) (defScope st) .none kV doc pm an cdv ct) := ⟨⟨oc, od, kV, doc, pm, an, cdv, ct, osl, rfl, l, c⟩, k⟩
end
private theorem small1000 {n : Nat} (h : n ≤ 1000) : n < sizeLine := Nat.lt_of_le_of_lt h (by decide)
section
variable {X : Cx}
private theorem pv (i : Nat) {x : Str} {pos : Pos} (hN : X.N[i]? = some x := by rfl) (hv : Vis X.env.scope x := by first | exact Or.inl rfl | exact Or.inr (Or.inl rfl) | exact Or.inr (Or.inr rfl)) (hd : (x == ("__debug__" : Str)) = false := by decide)
    (hcd : (x == ("__classdict__" : Str)) = false := by decide) : PE X (.Name x pos) (tVar i) := pe_var hN hv hd hcd
end
noncomputable def Same (H H' : Hp) : Prop := ∀ b o, H b = some o → H' b = some o
private theorem Same.refl (H : Hp) : Same H H := fun _ _ h => h
private theorem Same.trans {H H1 H2 : Hp} (a : Same H H1) (b : Same H1 H2) : Same H H2 := fun c o h => b c o (a c o h)
end L2

set_option Elab.async false
set_option linter.all false
set_option maxRecDepth 100000
namespace L2
open PySem PySem.Spec PyProof.Rows
section
variable {κ : Type} [DecidableEq κ]
noncomputable def valV (kvs : List (κ × V)) (k : κ) : Option V := (kvs.find? fun kv => decide (kv.1 = k)).map (·.2)
noncomputable def putK (kvs : List (κ × V)) (k : κ) (v : V) : List (κ × V) :=
  if (kvs.any fun kv => decide (kv.1 = k)) = true then kvs.map (fun kv => if kv.1 = k then (kv.1, v) else kv) else kvs ++ [(k, v)]
private theorem valV_pos {p : κ × V} {r : List (κ × V)} {k : κ} (e : p.1 = k) : valV (p :: r) k = some p.2 := by simp [valV, List.find?_cons, e]
private theorem valV_neg {p : κ × V} {r : List (κ × V)} {k : κ} (e : ¬ p.1 = k) : valV (p :: r) k = valV r k := by simp [valV, List.find?_cons, e]
private theorem valV_any (k : κ) : ∀ kvs : List (κ × V), (kvs.any fun kv => decide (kv.1 = k)) = (valV kvs k).isSome
  | [] => rfl
  | p :: r => by
    rw [List.any_cons]
    by_cases e : p.1 = k
    · simp only [valV_pos e, decide_eq_true e, Bool.true_or, Option.isSome_some]
    · rw [valV_neg e, decide_eq_false e, Bool.false_or]; exact valV_any k r
private theorem valV_map (k j : κ) (y : V) : ∀ kvs : List (κ × V), valV (kvs.map fun kv => if kv.1 = k then (kv.1, y) else kv) j = (valV kvs j).map fun x => if j = k then y else x
  | [] => rfl
  | p :: r => by
    have ih := valV_map k j y r
    rw [List.map_cons]
    by_cases h : p.1 = k
    · rw [if_pos h]
      by_cases e : p.1 = j
      · rw [valV_pos (p := (p.1, y)) e, valV_pos e, Option.map_some, if_pos (e.symm.trans h)]
      · rw [valV_neg (p := (p.1, y)) e, valV_neg e, ih]
    · rw [if_neg h]
      by_cases e : p.1 = j
      · rw [valV_pos (p := p) e, valV_pos e, Option.map_some, if_neg (fun z => h (e.trans z))]
      · rw [valV_neg (p := p) e, valV_neg e, ih]
private theorem valV_snoc (k j : κ) (y : V) : ∀ kvs : List (κ × V), valV kvs k = none → valV (kvs ++ [(k, y)]) j = if j = k then some y else valV kvs j
  | [], _ => by
    by_cases e : k = j
    · rw [if_pos e.symm]; exact valV_pos (p := (k, y)) e
    · rw [if_neg (fun z => e z.symm)]; exact valV_neg (p := (k, y)) e
  | p :: r, hn => by
    rw [List.cons_append]
    have hk : ¬ p.1 = k := fun z => by rw [valV_pos z] at hn; cases hn
    rw [valV_neg hk] at hn
    have ih := valV_snoc k j y r hn
    by_cases e : p.1 = j
    · rw [valV_pos e, valV_pos e, if_neg (fun z => hk (e.trans z))]
    · rw [valV_neg e, valV_neg e, ih]
private theorem valV_put (kvs : List (κ × V)) (k j : κ) (y : V) : valV (putK kvs k y) j = if j = k then some y else valV kvs j := by
  unfold putK
  by_cases a : (kvs.any fun kv => decide (kv.1 = k)) = true
  · rw [if_pos a, valV_map]
    rw [valV_any] at a
    by_cases e : j = k
    · obtain ⟨x, hx⟩ := Option.isSome_iff_exists.mp a
      rw [if_pos e, e, hx, Option.map_some, if_pos rfl]
    · rw [if_neg e]
      cases valV kvs j with
      | none => rfl
      | some x => rw [Option.map_some, if_neg e]
  · rw [if_neg a]
    refine valV_snoc k j y kvs ?_
    rw [valV_any] at a
    cases q : valV kvs k with
    | none => rfl
    | some x => rw [q] at a; exact (a rfl).elim
private theorem length_putK (kvs : List (κ × V)) (k : κ) (v : V) : (putK kvs k v).length ≤ kvs.length + 1 := by
  unfold putK
  split
  · rw [List.length_map]; omega
  · rw [List.length_append, List.length_cons, List.length_nil]; omega
private theorem RelO.isSome_eq {o : Option V} {u : Option Value} (r : RelO o u) : o.isSome = u.isSome := by
  cases o with
  | none => cases u with
    | none => rfl
    | some _ => exact (show False from r).elim
  | some _ => cases u with
    | none => exact (show False from r).elim
    | some _ => rfl
private theorem KV.val {kvs : List (κ × V)} {vs : List (κ × Value)} (r : KV kvs vs) (k : κ) : RelO (valV kvs k) (valueAt vs k) := by
  unfold KV at r
  induction r with
  | nil => exact True.intro
  | @cons p q ps qs h t ih =>
    obtain ⟨h1, h2⟩ := h
    by_cases e : p.1 = k
    · have e' : q.1 = k := h1.symm.trans e
      have b : valueAt (q :: qs) k = some q.2 := by simp [valueAt, List.find?_cons, e']
      rw [valV_pos e, b]; exact h2
    · have e' : ¬ q.1 = k := fun z => e (h1.trans z)
      have b : valueAt (q :: qs) k = valueAt qs k := by simp [valueAt, List.find?_cons, e']
      rw [valV_neg e, b]; exact ih
private theorem KV.any {kvs : List (κ × V)} {vs : List (κ × Value)} (r : KV kvs vs) (k : κ) : (kvs.any fun kv => decide (kv.1 = k)) = vs.any fun kv => decide (kv.1 = k) := by
  unfold KV at r
  induction r with
  | nil => rfl
  | cons h t ih => rw [List.any_cons, List.any_cons, ih, h.1]
private theorem KV.repl {kvs : List (κ × V)} {vs : List (κ × Value)} (r : KV kvs vs) (k : κ) {y : V} {u : Value} (ry : RelV y u) :
    KV (kvs.map fun kv => if kv.1 = k then (kv.1, y) else kv) (vs.map fun kv => if kv.1 = k then (kv.1, u) else kv) := by
  unfold KV at r ⊢
  induction r with
  | nil => exact .nil
  | @cons p q ps qs h t ih =>
    rw [List.map_cons, List.map_cons]
    refine .cons ?_ ih
    obtain ⟨h1, h2⟩ := h
    by_cases e : p.1 = k
    · rw [if_pos e, if_pos (h1.symm.trans e)]; exact ⟨h1, ry⟩
    · rw [if_neg e, if_neg (fun z => e (h1.trans z))]; exact ⟨h1, h2⟩
private theorem KV.put {kvs : List (κ × V)} {vs : List (κ × Value)} (r : KV kvs vs) (k : κ) {y : V} {u : Value} (ry : RelV y u) : KV (putK kvs k y) (stored vs k u) := by
  unfold putK stored
  rw [r.any k]
  by_cases e : (vs.any fun kv => decide (kv.1 = k)) = true
  · rw [if_pos e, if_pos e]; exact r.repl k ry
  · rw [if_neg e, if_neg e]; exact Paired.snoc r ⟨rfl, ry⟩
private theorem KV.length {kvs : List (κ × V)} {vs : List (κ × Value)} (r : KV kvs vs) : kvs.length = vs.length := Paired.length r
end
private theorem kV_is {P : Program} {w : World} {k : Key} {u : Value} (r : RelV (kV k) u) : (mixKind P w).is k u = true := by
  cases k with
  | inl i => obtain ⟨t, e⟩ := (show ∃ t, u = Value.int i t from r); subst e; exact mixKind_int P w i t
  | inr x => obtain ⟨t, e⟩ := (show ∃ t, u = Value.str x t from r); subst e; exact mixKind_str P w x t
private theorem items_are {P : Program} {w : World} : ∀ {ks : List Key} {us : List Value}, Vals (ks.map kV) us → ItemsAre (mixKind P w) ks us
  | [], _, r => by rw [List.map_nil] at r; cases r; exact .nil
  | k :: ks, _, r => by
    rw [List.map_cons] at r
    cases r with
    | cons h t => exact .cons (kV_is h) (items_are t)
noncomputable abbrev KT (H : Hp) : List (List Key × V) → List (List Key × Addr × Value) → Prop := Paired fun p q => p.1 = q.1 ∧ H q.2.1 = some (.tup (p.1.map kV)) ∧ RelV p.2 q.2.2
private theorem KT.val {H : Hp} {kvs : List (List Key × V)} {xs : List (List Key × Addr × Value)} (r : KT H kvs xs) (k : List Key) : RelO (valV kvs k) ((atKey xs k).map (·.2)) := by
  induction r with
  | nil => exact True.intro
  | @cons p q ps qs h t ih =>
    obtain ⟨h1, _, h2⟩ := h
    by_cases e : p.1 = k
    · have e' : q.1 = k := h1.symm.trans e
      have b : atKey (q :: qs) k = some q.2 := by simp [atKey, List.find?_cons, e']
      rw [valV_pos e, b]; exact h2
    · have e' : ¬ q.1 = k := fun z => e (h1.trans z)
      have b : atKey (q :: qs) k = atKey qs k := by simp [atKey, List.find?_cons, e']
      rw [valV_neg e, b]; exact ih
private theorem KT.repl {H : Hp} {kvs : List (List Key × V)} {xs : List (List Key × Addr × Value)} (r : KT H kvs xs) (k : List Key) {y : V} {u : Value} (ry : RelV y u) :
    KT H (kvs.map fun kv => if kv.1 = k then (kv.1, y) else kv) (xs.map (putAt k u)) := by
  induction r with
  | nil => exact .nil
  | @cons p q ps qs h t ih =>
    rw [List.map_cons, List.map_cons]
    refine .cons ?_ ih
    obtain ⟨h1, h2, h3⟩ := h
    unfold putAt
    by_cases e : p.1 = k
    · rw [if_pos e, if_pos (h1.symm.trans e)]; exact ⟨h1, h2, ry⟩
    · rw [if_neg e, if_neg (fun z => e (h1.trans z))]; exact ⟨h1, h2, h3⟩
private theorem KT.put {H : Hp} {kvs : List (List Key × V)} {xs : List (List Key × Addr × Value)} (r : KT H kvs xs) (k : List Key) {b : Addr} {y : V} {u : Value} (hb : H b = some (.tup (k.map kV))) (ry : RelV y u) :
    KT H (putK kvs k y) (storedH xs k b u) := by
  have e : (kvs.any fun kv => decide (kv.1 = k)) = (atKey xs k).isSome := by
    rw [valV_any, (r.val k).isSome_eq, Option.isSome_map]
  unfold putK storedH
  rw [e]
  by_cases q : (atKey xs k).isSome = true
  · rw [if_pos q, if_pos q]; exact r.repl k ry
  · rw [if_neg q, if_neg q]; exact Paired.snoc r ⟨rfl, hb, ry⟩
private theorem KT.keeps {H H' : Hp} {kvs : List (List Key × V)} {xs : List (List Key × Addr × Value)} (r : KT H kvs xs) (ht : ∀ b ys, H b = some (.tup ys) → H' b = some (.tup ys)) : KT H' kvs xs :=
  Paired.mapP r fun _ _ z => ⟨z.1, ht _ _ z.2.1, z.2.2⟩
section
variable {P : Program} {w : World} {H : Hp} {h : Heap} {a : Addr}
private theorem rd_of {u : HO} (ok : HOk P w H h) (e : Rd H a u) : ObjOk P w H h a u := e.ok ok
private theorem dk_rd {kvs : List (Key × V)} (ok : HOk P w H h) (e : Rd H a (.dK kvs)) : kvs.length ≤ sizeLine ∧ (a == sysModules) = false ∧ ∃ vs, KV kvs vs ∧ h.DictOf (mixKind P w) a vs :=
  show ObjOk P w H h a (.dK kvs) from rd_of ok e
private theorem dk_of {kvs : List (Key × V)} (ok : HOk P w H h) (e : H a = some (.dK kvs)) : kvs.length ≤ sizeLine ∧ (a == sysModules) = false ∧ ∃ vs, KV kvs vs ∧ h.DictOf (mixKind P w) a vs := dk_rd ok (.inl e)
private theorem key_of {ks : List Key} (ok : HOk P w H h) (e : H a = some (.tup (ks.map kV))) : (tupleKind (mixKind P w)).is h ks a := by
  obtain ⟨_, its, r, o, h1, h2, n, h3⟩ := (show ObjOk P w H h a (.tup (ks.map kV)) from ok a _ e)
  exact ⟨o, its.toArray, n, h1, h2, h3, by simpa using items_are r⟩
private theorem dt_rd {kvs : List (List Key × V)} (ok : HOk P w H h) (e : Rd H a (.dT kvs)) : kvs.length ≤ sizeLine ∧ (a == sysModules) = false ∧
    ∃ xs, KT H kvs xs ∧ h.DictOfH (tupleKind (mixKind P w)) a xs := by
  obtain ⟨z, y, xs, r, o, es, ep, h1, h2, h3, h4, h5⟩ := (show ObjOk P w H h a (.dT kvs) from rd_of ok e)
  refine ⟨z, y, xs, r, o, es, ep, h1, h2, h3, h4, fun x hx => ?_, h5⟩
  have all : ∀ {l : List (List Key × V)} {m : List (List Key × Addr × Value)}, KT H l m → ∀ x ∈ m, (tupleKind (mixKind P w)).is h x.1 x.2.1 := by
    intro l m q
    induction q with
    | nil => intro x hx; exact nomatch hx
    | @cons p q ps qs hq t ih =>
      intro x hx
      rcases List.mem_cons.mp hx with e | hx
      · subst e
        exact key_of ok (by rw [← hq.1]; exact hq.2.1)
      · exact ih x hx
  exact all r x hx
private theorem dt_of {kvs : List (List Key × V)} (ok : HOk P w H h) (e : H a = some (.dT kvs)) : kvs.length ≤ sizeLine ∧ (a == sysModules) = false ∧
    ∃ xs, KT H kvs xs ∧ h.DictOfH (tupleKind (mixKind P w)) a xs := dt_rd ok (.inl e)
end
noncomputable def DGet (H : Hp) (a : Addr) (y : V) (r : Option V) : Prop :=
  (∃ kvs k, Rd H a (.dK kvs) ∧ y = kV k ∧ r = valV kvs k) ∨ ∃ kvs k b, Rd H a (.dT kvs) ∧ y = .ref b ∧ H b = some (.tup (k.map kV)) ∧ r = valV kvs k
noncomputable def DPut (H : Hp) (a : Addr) (y v : V) (H' : Hp) : Prop :=
  (∃ kvs k, H a = some (.dK kvs) ∧ y = kV k ∧ kvs.length < sizeLine ∧ H' = upd H a (.dK (putK kvs k v))) ∨
  ∃ kvs k b, H a = some (.dT kvs) ∧ y = .ref b ∧ H b = some (.tup (k.map kV)) ∧ kvs.length < sizeLine ∧ H' = upd H a (.dT (putK kvs k v))
private theorem DGet.k {H : Hp} {a : Addr} {kvs : List (Key × V)} {k : Key} (e : H a = some (.dK kvs)) : DGet H a (kV k) (valV kvs k) := .inl ⟨kvs, k, .inl e, rfl, rfl⟩
private theorem DPut.k {H : Hp} {a : Addr} {kvs : List (Key × V)} {k : Key} {v : V} (e : H a = some (.dK kvs)) (hl : kvs.length < sizeLine) : DPut H a (kV k) v (upd H a (.dK (putK kvs k v))) := .inl ⟨kvs, k, e, rfl, hl, rfl⟩
section
variable {X : Cx} {pins : List (Addr × Obj)} {σ : St} {H : Hp} {s : Shared} {a : Addr} {y v : V} {u r : Value} {o : Option V} {A : Around} {E : Value → Shared → Prop}
private theorem Inv.big (I : Inv X pins σ H s) : sysModules < s.heap.objs.size := by
  have h : mainGlobals < s.heap.objs.size := (I.mod.glob.keeps I.bk).lt
  exact Nat.lt_trans (by decide) h
private theorem d_getItem {Q : Value → Shared → Prop} (hu : A.units + 1 < cLine) (I : Inv X pins σ H s) (g : DGet H a y (some v)) (ry : RelV y u) (h : ∀ w' s', Inv X pins σ H s' → RelV v w' → Q w' s') :
    wpAny (model X.prog X.w) A (getItem (.ref a) u) Q E s := by
  rcases g with ⟨kvs, k, e, ey, l⟩ | ⟨kvs, k, b, e, ey, eb, l⟩
  · subst ey
    obtain ⟨z, hd, vs, rel, dd⟩ := dk_rd I.hok e
    obtain ⟨w', hw, rw'⟩ := RelO.some_of (v := v) (o := valueAt vs k) (by rw [l]; exact rel.val k)
    exact wpAny_getItem_of (kV_is ry) dd.mapOf hw (h w' _ (I.tok _) rw')
  · subst ey
    cases (show u = Value.ref b from ry)
    obtain ⟨z, hd, xs, rel, dd⟩ := dt_rd I.hok e
    obtain ⟨w', hw, rw'⟩ := RelO.some_of (v := v) (o := (atKey xs k).map (·.2)) (by rw [l]; exact rel.val k)
    obtain ⟨p, hp, hp2⟩ := Option.map_eq_some_iff.mp hw
    refine wpAny_getItem_heap (tupleKind_room_in1 hu) (key_of I.hok eb) dd hp ?_
    rw [hp2]
    exact h w' _ (I.tok _) rw'
private theorem d_write {h' : Heap} {t' : Nat} {ob : HO} (I : Inv X pins σ H s) (mu : Mut (H a)) (hs : Heap.SameBut a s.heap h') (he : ∃ q, h'.get? a = some q) (new : ObjOk X.prog X.w (upd H a ob) h' a ob) :
    Inv X pins σ (upd H a ob) { s with heap := h', toks := t' } :=
  I.write (x := a) (e := a) mu (.inl rfl) (fun b q hb z => (hs.2 b hb).trans z) he new
private theorem dk_new {P : Program} {w : World} {H' : Hp} {h' : Heap} {kvs : List (Key × V)} {vs : List (Key × Value)} (z : kvs.length ≤ sizeLine) (hd : (a == sysModules) = false) (rel : KV kvs vs) (dd : h'.DictOf (mixKind P w) a vs) :
    ObjOk P w H' h' a (.dK kvs) := ⟨z, hd, vs, rel, dd⟩
private theorem d_setItem {H' : Hp} {Q : Unit → Shared → Prop} (hu : A.units + 1 < cLine) (I : Inv X pins σ H s) (g : DPut H a y v H') (ry : RelV y u) (rv : RelV v r) (h : ∀ s', Inv X pins σ H' s' → Q () s') :
    wpAny (model X.prog X.w) A (setItem (.ref a) u r) Q E s := by
  rcases g with ⟨kvs, k, e, ey, l, eH⟩ | ⟨kvs, k, b, e, ey, eb, l, eH⟩
  · subst ey eH
    obtain ⟨z, hd, vs, rel, dd⟩ := dk_of I.hok e
    have hz : vs.length ≤ sizeLine := by rw [← rel.length]; exact z
    have hl : (putK kvs k v).length ≤ sizeLine := by have := length_putK kvs k v; omega
    refine wpAny_setItem_pairs (hsz := hz) (kV_is ry) dd fun h' dd' hs => h _ ?_
    have he : ∃ q, h'.get? a = some q := let ⟨q, _, _, hq, _⟩ := dd'; ⟨q, hq⟩
    exact d_write I (by rw [e]; exact True.intro) hs he (dk_new hl hd (rel.put k rv) dd')
  · subst ey eH
    cases (show u = Value.ref b from ry)
    obtain ⟨z, hd, xs, rel, dd⟩ := dt_of I.hok e
    have hz : xs.length ≤ sizeLine := by rw [← Paired.length rel]; exact z
    have hl : (putK kvs k v).length ≤ sizeLine := by have := length_putK kvs k v; omega
    refine wpAny_setItem_heap (hsz := hz) (tupleKind_room_in1 hu) (key_of I.hok eb) dd fun h' dd' hs => h _ ?_
    obtain ⟨q, es, ep, hq, h2, h3, h4, _, h5⟩ := dd'
    refine d_write I (by rw [e]; exact True.intro) hs ⟨q, hq⟩ ⟨hl, hd, _, (rel.put k eb rv).keeps fun c ys ec => ?_, q, es, ep, hq, h2, h3, h4, h5⟩
    rw [upd_ne (ne_of ec e (fun z => nomatch z))]
    exact ec
end
section
variable {X : Cx} {pins : List (Addr × Obj)} {σ : St} {H : Hp} {s : Shared} {a : Addr} {kvs : List (Key × V)} {k : Key} {u : Value} {A : Around} {E : Value → Shared → Prop}
end
noncomputable def NoSl (i : Expr) : Prop := ∀ ov iv, subscripted i false ov iv = operate [ov, iv] (getItem ov iv)
private theorem subD_of {prog : Program} {w : World} {A : Around} {E : Value → Shared → Prop} {s : Shared} {env : Env} {value slice : Expr} {pos : Pos} {T id : String} {Q : Value → Shared → Prop}
    (hl : typeLookup (.type T) "__getitem__" = pure (some (.builtin id))) (hs : NoSl slice)
    (h : wpAny (model prog w) A (eval value env) (fun o s₁ => wpAny (model prog w) A (eval slice env) (fun i s₂ => s₂.TypeIs o T ∧ wpAny (model prog w) A (getItem o i) Q E s₂) E s₁) E s) :
    wpAny (model prog w) A (eval (.Subscript value slice pos) env) Q E s := by
  refine Subscript_ (wpAny_mono h (fun o s₁ h₁ => wpAny_mono h₁ (fun i s₂ h₂ => ?_) fun _ _ x => x) fun _ _ x => x)
  obtain ⟨hT, h₂⟩ := h₂
  unfold subscriptTail
  refine wpAny_bind ?_
  rw [getitemInPython_of_ne hT.not_modules]
  refine wpAny_bind (wpAny_specialOf hT hl ?_)
  have fin : wpAny (model prog w) A (subscripted slice false o i) (fun r s₃ => wpAny (model prog w) A (letTemporaryGo value o r >>= fun _ => pure r) Q E s₃) E s₂ := by
    rw [hs o i]
    exact wpAny_operating (wpAny_mono h₂ (fun r s₃ h₃ => wpAny_bind (wpAny_letTemporaryGo (wpAny_pure h₃))) fun _ _ x => x)
  first
    | exact wpAny_pure (wpAny_bind fin)
    | exact wpAny_bind (wpAny_pure (wpAny_bind fin))
    | exact wpAny_bind fin
private theorem dict_typeIs {X : Cx} {pins : List (Addr × Obj)} {σ : St} {H : Hp} {s : Shared} {a : Addr} {y : V} {o : Option V} (I : Inv X pins σ H s) (g : DGet H a y o) : s.TypeIs (.ref a) "dict" := by
  rcases g with ⟨kvs, k, e, _, _⟩ | ⟨kvs, k, b, e, _, _, _⟩
  · obtain ⟨_, _, vs, _, dd⟩ := dk_rd I.hok e
    exact dd.typeIs
  · obtain ⟨_, _, xs, _, dd⟩ := dt_rd I.hok e
    exact dd.typeIs
noncomputable def tDGet (td ty : TE) : TE := fun σ H Q => td σ H fun x H1 => ty σ H1 fun y H2 => ∃ a v, x = .ref a ∧ DGet H2 a y (some v) ∧ Q v H2
noncomputable def sDPut (td ty tv : TE) : TS := fun D σ H => tv σ H fun v H1 => td σ H1 fun x H2 => ty σ H2 fun y H3 => ∃ a H4, x = .ref a ∧ DPut H3 a y v H4 ∧ D.nx σ H4
section
variable {X : Cx} {o i e value : Expr} {pos pos' tpos : Pos} {td ty tv : TE}
private theorem pe_dget (hu : X.A.units + 1 < cLine) (ho : PE X o td) (hi : PE X i ty) (hs : NoSl i) : PE X (.Subscript o i pos) (tDGet td ty) := by
  intro pins s σ H Q I h
  refine subD_of PySem.F.slot_dict_getitem.lookup hs (thn (ho pins s σ H _ I h) fun u s1 ⟨x, H1, I1, rx, q1⟩ => thn (hi pins s1 σ H1 _ I1 q1) fun iv s2 ⟨y, H2, I2, ry, a, v, ex, g, q2⟩ => ?_)
  subst ex
  obtain rfl : u = Value.ref a := rx
  exact ⟨dict_typeIs I2 g, d_getItem hu I2 g ry fun w' s3 I3 rw' => ⟨v, H2, I3, rw', q2⟩⟩
private theorem ps_dput (hu : X.A.units + 1 < cLine) (ho : PE X o td) (hi : PE X i ty) (hv : PE X value tv) (hs : swapsWith value (some (.Subscript o i pos')) pos.line X.env = pure false) :
    PS X (.Assign [.Subscript o i pos'] value pos) (sDPut td ty tv) := by
  intro pins s σ H D I h
  refine wpAny_Assign_Subscript (thn (hv pins s σ H _ I h) fun r s1 ⟨v, H1, I1, rv, q1⟩ => thn (ho pins s1 σ H1 _ I1 q1) fun u s2 ⟨x, H2, I2, rx, q2⟩ => thn (hi pins s2 σ H2 _ I2 q2) fun iv s3 ⟨y, H3, I3, ry, a, H4, ex, g, q3⟩ => ?_) hs
  subst ex
  obtain rfl : u = Value.ref a := rx
  exact d_setItem hu I3 g ry rv fun s4 I4 => ⟨σ, H4, I4, q3⟩
end
private theorem dk_empty {P : Program} {w : World} {H : Hp} (h : Heap) (hb : sysModules < h.objs.size) : ObjOk P w H (h.push { cls := .type "dict", data := .dict #[] }) h.objs.size (.dK []) :=
  ⟨Nat.zero_le _, beq_eq_false_iff_ne.mpr (Ne.symm (Nat.ne_of_lt hb)), [], .nil, Heap.DictOf.new h⟩
section
variable {X : Cx} {pos : Pos}
end
noncomputable def tPairs : List (TE × TE) → St → Hp → (List (V × V) → Hp → Prop) → Prop
  | [], _, H, Q => Q [] H
  | (tk, tv) :: r, σ, H, Q => tk σ H fun x H1 => tv σ H1 fun y H2 => tPairs r σ H2 fun ps H3 => Q ((x, y) :: ps) H3
noncomputable abbrev VV : List (V × V) → List (Value × Value) → Prop := Paired fun p q => RelV p.1 q.1 ∧ RelV p.2 q.2
noncomputable def PPs (X : Cx) (pos : Pos) (keys : List (Option Expr)) (values : List Expr) (trs : List (TE × TE)) : Prop :=
  ∀ (pins : List (Addr × Obj)) (s : Shared) (σ : St) (H : Hp) (Q : List (V × V) → Hp → Prop), Inv X pins σ H s → tPairs trs σ H Q →
    wpAny (model X.prog X.w) X.A (evalPairs (pairTrees keys values X.env pos)) (fun vs s' => ∃ ps H', Inv X pins σ H' s' ∧ VV ps vs ∧ Q ps H') X.xe s
private theorem pps_nil {X : Cx} {pos : Pos} : PPs X pos [] [] [] := fun pins s σ H Q I h => pairTrees_nil_walk ⟨[], H, I, .nil, h⟩
private theorem pps_cons {X : Cx} {pos : Pos} {k v : Expr} {ks : List (Option Expr)} {vs : List Expr} {tk tv : TE} {trs : List (TE × TE)} (hk : PE X k tk) (hv : PE X v tv) (hr : PPs X pos ks vs trs) :
    PPs X pos (some k :: ks) (v :: vs) ((tk, tv) :: trs) := fun pins s σ H Q I h =>
  pairTrees_cons_walk (thn (hk pins s σ H _ I h) fun u s1 ⟨x, H1, I1, rx, q1⟩ => thn (hv pins s1 σ H1 _ I1 q1) fun w2 s2 ⟨y, H2, I2, ry, q2⟩ =>
    thn (hr pins s2 σ H2 _ I2 q2) fun ws s3 ⟨ps, H3, I3, rel, q3⟩ => ⟨(x, y) :: ps, H3, I3, .cons ⟨rx, ry⟩ rel, q3⟩)
noncomputable def mergeK (kvs more : List (Key × V)) : List (Key × V) := more.foldl (fun acc kv => putK acc kv.1 kv.2) kvs
private theorem KV.merge : ∀ {more : List (Key × V)} {rs : List (Key × Value)} {kvs : List (Key × V)} {vs : List (Key × Value)}, KV more rs → KV kvs vs → KV (mergeK kvs more) (merged vs rs) := by
  intro more rs kvs vs r
  unfold KV at r
  induction r generalizing kvs vs with
  | nil => intro q; exact q
  | @cons p q ps qs h t ih =>
    intro r0
    have e : KV (putK kvs p.1 p.2) (stored vs q.1 q.2) := by
      have := r0.put p.1 h.2
      rw [← h.1]; exact this
    exact ih e
private theorem length_mergeK : ∀ (more kvs : List (Key × V)), (mergeK kvs more).length ≤ kvs.length + more.length
  | [], kvs => by show kvs.length ≤ kvs.length + 0; omega
  | p :: r, kvs => by
    have h1 := length_mergeK r (putK kvs p.1 p.2)
    have h2 := length_putK kvs p.1 p.2
    show (mergeK (putK kvs p.1 p.2) r).length ≤ _
    rw [List.length_cons]; omega
private theorem carries_of {P : Program} {w : World} : ∀ {kvs : List (Key × V)} {ws : List (Value × Value)}, VV (kvs.map fun kv => (kV kv.1, kv.2)) ws → ∃ rs, Carries (mixKind P w) ws rs ∧ KV kvs rs
  | [], _, r => by rw [List.map_nil] at r; cases r; exact ⟨[], True.intro, .nil⟩
  | p :: kvs, _, r => by
    rw [List.map_cons] at r
    cases r with
    | @cons a b as bs h t =>
      obtain ⟨rs, c, q⟩ := carries_of (P := P) (w := w) t
      obtain ⟨b1, b2⟩ := b
      exact ⟨(p.1, b2) :: rs, ⟨kV_is h.1, rfl, c⟩, .cons ⟨rfl, h.2⟩ q⟩
noncomputable def tDisp (trs : List (TE × TE)) : TE := fun σ H Q => ∀ p, H p = none → tPairs trs σ (upd H p (.dK [])) fun ps H2 => H2 p = some (.dK []) ∧ ∃ kvs : List (Key × V), ps = kvs.map (fun kv => (kV kv.1, kv.2)) ∧ kvs.length ≤ 15 ∧ Q (.ref p) (upd H2 p (.dK (mergeK [] kvs)))
private theorem pe_disp {X : Cx} {pos : Pos} {keys : List (Option Expr)} {values : List Expr} {trs : List (TE × TE)} (h : PPs X pos keys values trs) (hall : keys.all (·.isSome) = true) (hl : keys.length = values.length) (h0 : keys ≠ [])
    (h15 : keys.length ≤ 15) : PE X (.Dict keys values pos) (tDisp trs) := by
  intro pins s σ H Q I q
  have hn := I.hok.fresh (Nat.le_refl s.heap.objs.size)
  have I1 := I.laid (a := s.heap.objs.size) (o := .dK []) (h' := s.heap.push { cls := .type "dict", data := .dict #[] }) (t' := s.toks) (fun _ _ q => Heap.get?_push_of_some _ q) (Nat.le_refl _) (dk_empty s.heap I.big)
  refine wpAny_Dict_walk (knd := mixKind X.prog X.w) hall hl h0 h15 (thn (h pins _ σ _ _ I1 (q _ hn)) fun ws s2 ⟨ps, H2, I2, rel, e, kvs, ep, lk, q2⟩ => ?_)
  subst ep
  obtain ⟨rs, c, rk⟩ := carries_of (P := X.prog) (w := X.w) rel
  obtain ⟨z, hd, vs0, r0, dd⟩ := dk_of I2.hok e
  cases r0
  refine ⟨rs, c, dd, fun h' dd' hs => ⟨.ref s.heap.objs.size, _, ?_, rfl, q2⟩⟩
  have hz : (mergeK [] kvs).length ≤ sizeLine := by
    have h1 := length_mergeK kvs []
    rw [List.length_nil] at h1
    rw [sizeLine_eq]; omega
  have he : ∃ q, h'.get? s.heap.objs.size = some q := let ⟨q, _, _, hq, _⟩ := dd'; ⟨q, hq⟩
  exact d_write I2 (by rw [e]; exact True.intro) hs he (dk_new hz hd (rk.merge .nil) dd')
structure M1 (X : Cx) (o : Expr) (m : Str) (apos : Pos) (e : Expr) (cpos : Pos) : Prop where
  base : attributeBase o m X.env (eval o X.env) = eval o X.env
  few : ((backTo cpos (starEach [e] X.env)).all (fun x => !x.1) && (backToKw cpos (keywordEach [] X.env)).all (fun x => x.1.isSome)
    && decide (([e] : List Expr).length + ([] : List Keyword).length + (if ([] : List Keyword).isEmpty then 0 else 1) < 30)) = true
  line : (apos.endLine == cpos.line) = true
  trees : backTo cpos (starEach [e] X.env) = [(false, eval e X.env)]
section
variable {X : Cx} {pins : List (Addr × Obj)} {σ : St} {H : Hp} {s : Shared} {a : Addr} {y d : V} {u r : Value} {o : Option V} {A : Around} {E : Value → Shared → Prop}
end
section
variable {X : Cx} {o e f : Expr} {apos cpos : Pos} {td ty tx : TE}
end
section
variable {X : Cx} {pins : List (Addr × Obj)} {σ : St} {H : Hp} {s : Shared} {a : Addr} {kvs : List (Key × V)} {A : Around} {E : Value → Shared → Prop}
end
section
variable {X : Cx} {pins : List (Addr × Obj)} {σ : St} {H : Hp} {s : Shared} {a : Addr} {y : V} {u : Value} {A : Around} {E : Value → Shared → Prop}
end
end L2

set_option Elab.async false
set_option linter.all false
set_option maxRecDepth 100000
namespace L3
open PySem PySem.Spec PyProof.Rows L2
noncomputable def Sm (n : Nat) (i : Int) : Prop := i.natAbs < 2 ^ n
private theorem Sm.mono {a b : Nat} {i : Int} (h : Sm a i) (k : a ≤ b) : Sm b i := Nat.lt_of_lt_of_le h (Nat.pow_le_pow_right (by decide) k)
private theorem Sm.add {a : Nat} {i j : Int} (h : Sm a i) (k : Sm a j) : Sm (a + 1) (i + j) := by
  unfold Sm at *
  have := Int.natAbs_add_le i j
  rw [Nat.pow_succ]
  omega
private theorem Sm.mul {a b : Nat} {i j : Int} (h : Sm a i) (k : Sm b j) : Sm (a + b) (i * j) := by
  unfold Sm at *
  rw [Int.natAbs_mul, Nat.pow_add]
  exact Nat.mul_lt_mul'' h k
private theorem Sm.le {a : Nat} {i j : Int} (h : Sm a i) (k : j.natAbs ≤ i.natAbs) : Sm a j := Nat.lt_of_le_of_lt k h
private theorem Sm.bits {n : Nat} {i : Int} (h : Sm n i) : Builtin.Int.intBits i ≤ n := by
  unfold Builtin.Int.intBits
  split
  · exact Nat.zero_le _
  · rename_i z
    have nz : i.natAbs ≠ 0 := by
      intro e
      apply z
      rw [Int.natAbs_eq_zero] at e
      subst e
      rfl
    have := (Nat.log2_lt nz (k := n)).mpr h
    omega
private theorem Sm.log {n : Nat} {i : Int} (h : Sm n i) (k : 0 < n) : i.natAbs.log2 < n := by
  by_cases z : i.natAbs = 0
  · rw [z]; simpa using k
  · exact (Nat.log2_lt z).mpr h
noncomputable def CMulS (i j : Int) : Prop := ∃ a b, a + b ≤ 100000000 ∧ Sm a i ∧ Sm b j
private theorem CMulS.ok {i j : Int} (h : CMulS i j) : IntMulOk i j := by
  obtain ⟨a, b, ab, hi, hj⟩ := h
  have h1 := hi.bits
  have h2 := hj.bits
  unfold IntMulOk
  intro z
  rw [Bool.and_eq_true] at z
  have z2 := z.2
  unfold Builtin.Int.intTooBig at z2
  have z3 := of_decide_eq_true z2
  have e : (bitsLine : Int) = 134217728 := by decide
  rw [e] at z3
  omega
noncomputable def CDivS (_i j : Int) : Prop := j ≠ 0 ∧ Sm 9000 j
section
variable {X : Cx}
private theorem op_mulS : OpR X (binaryOp .Mult) (rI CMulS fun i j => .int (i * j)) := opI fun _ _ _ _ _ _ _ hc q => mul_int q hc.ok
private theorem op_fdivS : OpR X (binaryOp .FloorDiv) (rI CDivS fun i j => .int (i.fdiv j)) := opI fun _ _ _ _ _ _ _ hc q => floordiv_int hc.1 q (.inl (PyProof.noPylong_of_log2 (hc.2.log (by decide))))
end
section
variable {X : Cx}
end
inductive D where
  | non | bl (b : Bool) | int (i : Int) | str (x : Str) | tup (xs : List D) | lst (xs : List D)
noncomputable def b2n (b : Bool) : Int := if b then 1 else 0
mutual
noncomputable def peq : D → D → Bool
  | .non, e => match e with | .non => true | _ => false
  | .bl a, e => match e with | .bl b => a == b | .int i => b2n a == i | _ => false
  | .int i, e => match e with | .bl b => i == b2n b | .int j => i == j | _ => false
  | .str x, e => match e with | .str y => x == y | _ => false
  | .tup ds, e => match e with | .tup es => peqs ds es | _ => false
  | .lst ds, e => match e with | .lst es => peqs ds es | _ => false
noncomputable def peqs : List D → List D → Bool
  | [], e => match e with | [] => true | _ => false
  | d :: ds, e => match e with | e :: es => peq d e && peqs ds es | [] => false
end
mutual
noncomputable def dep : D → Nat
  | .tup ds => deps ds + 1
  | .lst ds => deps ds + 1
  | _ => 0
noncomputable def deps : List D → Nat
  | [] => 0
  | d :: ds => max (dep d) (deps ds)
end
private theorem dep_le {d : D} : ∀ {ds : List D} {i : Nat}, ds[i]? = some d → dep d ≤ deps ds
  | [], i, h => by simp at h
  | e :: ds, 0, h => by simp at h; subst h; rw [deps]; exact Nat.le_max_left _ _
  | e :: ds, i + 1, h => by
    rw [deps]
    exact Nat.le_trans (dep_le (ds := ds) (i := i) (by simpa using h)) (Nat.le_max_right _ _)
mutual
private theorem peq_refl : ∀ d : D, peq d d = true
  | .non => by rw [peq]
  | .bl b => by simp only [peq]; simp
  | .int b => by simp only [peq]; simp
  | .str b => by simp only [peq]; simp
  | .tup ds => by simp only [peq]; exact peqs_refl ds
  | .lst ds => by simp only [peq]; exact peqs_refl ds
private theorem peqs_refl : ∀ d : List D, peqs d d = true
  | [] => by rw [peqs]
  | d :: ds => by rw [peqs]; simp [peq_refl d, peqs_refl ds]
end
private theorem peqs_all : ∀ (ds es : List D), ds.length = es.length → peqs ds es = (List.range ds.length).all fun i => peq (ds.getD i .non) (es.getD i .non)
  | [], [], _ => by rw [peqs]; rfl
  | d :: ds, e :: es, h => by
    rw [peqs, peqs_all ds es (by simpa using h), List.length_cons, List.range_succ_eq_map]
    simp [List.all_map, Function.comp_def]
  | [], _ :: _, h => by simp at h
  | _ :: _, [], h => by simp at h
private theorem peqs_len : ∀ (ds es : List D), ds.length ≠ es.length → peqs ds es = false
  | [], [], h => absurd rfl h
  | d :: ds, e :: es, h => by rw [peqs, peqs_len ds es (by simpa using h)]; simp
  | [], _ :: _, h => by simp only [peqs]
  | _ :: _, [], h => by simp only [peqs]
open SeqAt
section
variable {X : Cx} {pins : List (Addr × Obj)} {σ : L2.St} {H : Hp} {s : Shared}
private theorem in1_units {A : Around} : A.in1.units = A.units + 1 := rfl
private theorem seq_bool {ds es : List D} {us ts : List Value} (l1 : ds.length = us.length) (l2 : es.length = ts.length) :
    ((List.range (min us.toArray.size ts.toArray.size)).all (fun j => peq (ds.getD j .non) (es.getD j .non)) && us.toArray.size == ts.toArray.size) = peqs ds es := by
  by_cases h : ds.length = es.length
  · have e : us.toArray.size = ds.length := by simp [l1]
    have e2 : ts.toArray.size = ds.length := by simp [h, l2]
    rw [e, e2, peqs_all ds es h, Nat.min_self]
    simp
  · rw [peqs_len ds es h]
    have : (us.toArray.size == ts.toArray.size) = false := by
      rw [beq_eq_false_iff_ne]
      simp only [List.size_toArray, ← l1, ← l2]
      exact h
    rw [this, Bool.and_false]
end
section
variable {X : Cx}
end
private theorem Room.u60 {hv : Option Value} {k : Nat} {A : Around} (r : RoomY hv k A) : A.units + 60 < cLine := by have := r.un; omega
end L3
set_option Elab.async false
set_option linter.all false
set_option maxRecDepth 100000
namespace L3
open PySem PySem.Spec PyProof.Rows L2
noncomputable abbrev S := L2.St
private theorem comp_loop {prog : Program} {w : World} {A : Around} {R : Result → Shared → Prop} {s : Shared} {elt target iter : Expr} {ifs : List Expr} {scope : Scope} {pos : Pos} {it acc : Value} {env : Env} (J : Nat → Shared → Prop)
    (turn : ∀ n s, J n s → wpAny (model prog w) A (pyNext it) (fun r s1 => match r with
      | none => R (.ok .next) s1
      | some v => wpAny (model prog w) A (letOwnedTupleGo target it v) (fun _ s2 => wpAny (model prog w) A (assign target env v) (fun _ s3 =>
          wpAny (model prog w) A (forIn ifs true fun c r => if r = true then do let ok ← isTrue c env (eval c env); pure (ForInStep.yield ok) else pure (ForInStep.yield r)) (fun ok s4 =>
            if ok = true then wpAny (model prog w) A (eval elt env) (fun x s5 => wpAny (model prog w) A (call (.builtin "list.append") [acc, x]) (fun _ s6 => ∃ m, m < n ∧ J m s6) (fun _ _ => False) s5) (fun _ _ => False) s4
            else ∃ m, m < n ∧ J m s4) (fun _ _ => False) s3) (fun _ _ => False) s2) (fun _ _ => False) s1) (fun _ _ => False) s)
    (n : Nat) (h : J n s) : codeAny (model prog w) A (.compLoop (.ListComp elt [⟨target, iter, ifs, 0⟩] scope pos) 0 it acc env) R s := by
  refine codeAny_loop rfl J (fun n s hJ => ?_) n h
  show wpAny (model prog w) A ((compTurn (.ListComp elt [⟨target, iter, ifs, 0⟩] scope pos) 0 it acc env).onRaise (fun x => do noteFrame x env; theTreesLotGoes x)) _ _ s
  refine wpAny_noted ?_
  rw [compTurn_list]
  refine wpAny_bind (wpAny_standAt (wpAny_bind (wpAny_mono (turn n s hJ) (fun r s1 h1 => ?_) fun _ _ z => z.elim)))
  cases r with
  | none => exact wpAny_pure h1
  | some v =>
    refine wpAny_bind (wpAny_mono h1 (fun _ s2 h2 => wpAny_bind (wpAny_mono h2 (fun _ s3 h3 => wpAny_bind (wpAny_mono h3 (fun ok s4 h4 => ?_) fun _ _ z => z.elim)) fun _ _ z => z.elim)) fun _ _ z => z.elim)
    cases ok with
    | false => exact wpAny_pure ⟨rfl, h4⟩
    | true => exact wpAny_bind (wpAny_bind (wpAny_mono h4 (fun x s5 h5 => wpAny_bind (wpAny_mono h5 (fun _ s6 h6 => wpAny_pure (wpAny_pure ⟨rfl, h6⟩)) fun _ _ z => z.elim)) fun _ _ z => z.elim))
noncomputable def clOf (env : Env) : List (Str × NameKind) → List (Str × Addr) → List (Str × Addr)
  | [], acc => acc
  | (n, k) :: r, acc => if k == .free then clOf env r ((n, (env.cells.lookup n).getD 0) :: acc) else clOf env r acc
private theorem closure_forIn {env : Env} : ∀ (names : List (Str × NameKind)) (acc : List (Str × Addr)), (names.all fun y => y.2 != .free || (env.cells.lookup y.1).isSome) = true →
    (forIn names acc (fun (x : Str × NameKind) (cs : List (Str × Addr)) => match x with | (name, kind) => if (kind == NameKind.free) = true then do let a ← cellOf env name; pure (ForInStep.yield ((name, a) :: cs)) else pure (ForInStep.yield cs)) : Sem (List (Str × Addr))) = pure (clOf env names acc)
  | [], acc, _ => rfl
  | (n, k) :: r, acc, h => by
    rw [List.all_cons, Bool.and_eq_true] at h
    rw [List.forIn_cons]
    dsimp only
    by_cases hk : (k == NameKind.free) = true
    · rw [if_pos hk]
      have h1 := h.1
      have e : k = .free := by simpa using hk
      subst e
      simp only [bne_self_eq_false, Bool.false_or] at h1
      obtain ⟨a, ha⟩ := Option.isSome_iff_exists.mp h1
      have : cellOf env n = pure a := by unfold cellOf; rw [ha]
      rw [this, pure_bind, pure_bind]
      dsimp only
      rw [closure_forIn r _ h.2, clOf, if_pos hk, ha]
      rfl
    · rw [if_neg hk, pure_bind]
      dsimp only
      rw [closure_forIn r _ h.2, clOf, if_neg hk]
private theorem closure_of {scope : Scope} {env : Env} (h : (scope.names.all fun y => y.2 != .free || (env.cells.lookup y.1).isSome) = true) : closureFor scope env = pure (clOf env scope.names []) := by
  unfold closureFor
  show (forIn scope.names [] _ >>= fun r => pure r) = _
  rw [bind_pure]
  exact closure_forIn scope.names [] h
private theorem clOf_lookup {env : Env} {x : Str} {c : Addr} : ∀ (names : List (Str × NameKind)) (acc : List (Str × Addr)), (names.all fun y => y.2 != .free || (env.cells.lookup y.1).isSome) = true →
    (∀ c, acc.lookup x = some c → env.cells.lookup x = some c) → (clOf env names acc).lookup x = some c → env.cells.lookup x = some c
  | [], acc, _, ha, h => ha c h
  | (n, k) :: r, acc, hall, ha, h => by
    rw [List.all_cons, Bool.and_eq_true] at hall
    rw [clOf] at h
    by_cases hk : (k == NameKind.free) = true
    · rw [if_pos hk] at h
      refine clOf_lookup r _ hall.2 (fun c hc => ?_) h
      rw [List.lookup_cons] at hc
      split at hc
      · rename_i hx
        have hx' : x = n := by simpa using hx
        subst hx'
        have h1 := hall.1
        have e : k = .free := by simpa using hk
        subst e
        simp only [bne_self_eq_false, Bool.false_or] at h1
        obtain ⟨a, ha'⟩ := Option.isSome_iff_exists.mp h1
        rw [ha'] at hc ⊢
        exact hc
      · exact ha c hc
    · rw [if_neg hk] at h
      exact clOf_lookup r acc hall.2 ha h
private theorem clOf_acc {env : Env} {x : Str} : ∀ (names : List (Str × NameKind)) (acc : List (Str × Addr)), (∃ c, acc.lookup x = some c) → ∃ c, (clOf env names acc).lookup x = some c
  | [], acc, h => h
  | (n, k) :: r, acc, h => by
    rw [clOf]
    split
    · refine clOf_acc r _ ?_
      rw [List.lookup_cons]
      split
      · exact ⟨_, rfl⟩
      · exact h
    · exact clOf_acc r acc h
private theorem clOf_has {env : Env} {x : Str} : ∀ (names : List (Str × NameKind)) (acc : List (Str × Addr)), (x, NameKind.free) ∈ names → ∃ c, (clOf env names acc).lookup x = some c
  | [], _, h => nomatch h
  | (n, k) :: r, acc, h => by
    rw [clOf]
    rcases List.mem_cons.mp h with e | h
    · cases e
      rw [if_pos (by rfl)]
      exact clOf_acc r _ ⟨(env.cells.lookup x).getD 0, by rw [List.lookup_cons]; simp⟩
    · split
      · exact clOf_has r _ h
      · exact clOf_has r acc h
private theorem relabel_mem {scope : Scope} {env : Env} {x : Str} {k : NameKind} (hc : ∀ y ∈ scope.names, y.2 ≠ .cell) (hk : k = .cell ∨ k = .free) (h : (relabel scope env).names.lookup x = some k) : (x, NameKind.free) ∈ scope.names := by
  have h1 := PySem.mem_of_lookup h
  unfold relabel at h1
  obtain ⟨⟨n, k'⟩, hm, e⟩ := List.mem_map.mp h1
  dsimp only at e
  split at e
  · rename_i hq
    cases e
    rw [Bool.and_eq_true, Bool.and_eq_true] at hq
    have : k' = .free := by simpa using hq.1.1
    subst this
    exact hm
  · cases e
    rcases hk with rfl | rfl
    · exact absurd rfl (hc _ hm)
    · exact hm
noncomputable def cxComp (X : Cx) (pins : List (Addr × Obj)) (s2 : Shared) (H2 : Hp) (N : List Str) (scope : Scope) (C : Addr) (fp : List Addr) : Cx :=
  { X with N := N, s₀ := s2, H₀ := H2, env := compEnvC scope (clOf X.env scope.names []) C X.env, outer := X.stack, stack := X.stack, ex := fp, fn := fun _ => false, pn := X.pn ++ pins, xe := fun _ _ => False }
noncomputable def ini (src : List (Option Nat)) (σ : S) : S := src.map fun o => o.bind fun j => (σ[j]?).join
structure CompOk (X : Cx) (scope : Scope) (N : List Str) (src : List (Option Nat)) : Prop where
  kind : scope.kind = .function
  names : ∀ x ∈ scope.names, x.2 = .local → scope.names.lookup x.1 = some .local
  ncell : ∀ y ∈ scope.names, y.2 ≠ .cell
  clos : (scope.names.all fun y => y.2 != .free || (X.env.cells.lookup y.1).isSome) = true
  len : src.length = N.length
  free : ∀ (i : Nat) (x : Str) (j : Nat), N[i]? = some x → src[i]? = some (some j) → X.N[j]? = some x ∧ Vis X.env.scope x ∧ X.env.scope.names.lookup x ≠ some .local ∧
    ((relabel scope X.env).names.lookup x = some .cell ∨ (relabel scope X.env).names.lookup x = some .free)
private theorem fpOk_stk {X : Cx} {pins : List (Addr × Obj)} {σ : S} {H H' : Hp} {s : Shared} {b : Addr} (I : Inv X pins σ H s) (h : FpOk X pins H' b) : b ∉ frs X.stack := fun z => by
  rcases List.mem_cons.mp (I.stkSub b z) with e | e
  · exact h.2.1 e
  · exact h.2.2.1 e
private theorem comp_inv {X : Cx} {pins : List (Addr × Obj)} {σ : S} {H : Hp} {s2 : Shared} {scope : Scope} {N : List Str} {src : List (Option Nat)} {fp : List Addr} (I : Inv X pins σ H s2) (ok : CompOk X scope N src) (hf : ∀ b ∈ fp, FpOk X pins H b) (hfo : ∀ b ∈ fp, ∃ o, s2.heap.get? b = some o)
    {D C : Addr} {h' : Heap} {t : Nat} (hD : s2.heap.objs.size ≤ D) (hC : s2.heap.objs.size ≤ C) (hCD : C ≠ D) (keep : ∀ b o, s2.heap.get? b = some o → h'.get? b = some o) (hns : h'.Ns C (fun _ => none)) (hnew : h'.get? D = some { cls := .type "list", data := .seq #[] }) :
    Inv (cxComp X pins s2 H N scope C fp) [] (ini src σ) (upd H D (.lst [])) { s2 with heap := h', toks := t } := by
  have hH : ∀ a, s2.heap.objs.size ≤ a → H a = none := fun a ha => I.hok.fresh ha
  have lt : ∀ {b : Addr} {o : Obj}, s2.heap.get? b = some o → b < s2.heap.objs.size := fun e => Heap.lt_size e
  have cl_of : ∀ x c, (clOf X.env scope.names []).lookup x = some c → X.env.cells.lookup x = some c := fun x c e => clOf_lookup scope.names [] ok.clos (fun c z => by simp at z) e
  have hlk : HOk X.prog X.w (upd H D (.lst [])) h' := I.hok.laid keep hD ⟨Nat.zero_le _, [], 0, .nil, hnew⟩
  have un : Un (frs X.stack) fp H (upd H D (.lst [])) s2.heap h' := Un.laid keep hD (hH D hD)
  obtain ⟨m0, hn0, hl0⟩ := I.loc
  refine ⟨⟨I.ok.mod, ?_, I.ok.glob, I.ok.blt, hC, fun x y c e1 e2 => I.ok.inj x y c (cl_of x c e1) (cl_of y c e2), fun x hx => ?_, fun x c z => ?_, I.ok.hd, I.ok.frames, .inl rfl, fun b hb => ⟨?_, fun x c e => ?_⟩, I.bs, Nat.le_trans I.ok.bsz I.sz, fun b o e hb => ?_, fun b hb => fpOk_stk I (hf b hb), I.stack, I.stkFree⟩,
    rfl, I.bare, un, ⟨_, hns, fun i x v e1 e2 e3 => ?_⟩, fun x c e => ?_, ?_, fun x c e => ?_, fun p hp => ?_, hlk, ?_⟩
  · exact ok.kind
  · obtain ⟨k, hk, hx⟩ : ∃ k, (k = NameKind.cell ∨ k = .free) ∧ (relabel scope X.env).names.lookup x = some k := by
      rcases hx with hx | hx
      · exact ⟨_, .inl rfl, hx⟩
      · exact ⟨_, .inr rfl, hx⟩
    exact clOf_has _ _ (relabel_mem ok.ncell hk hx)
  · exact absurd z (by simp [cxComp])
  · obtain ⟨o, e⟩ := hfo b hb
    intro z
    have z' : b = C := z
    subst z'
    exact Nat.lt_irrefl _ (Nat.lt_of_lt_of_le (lt e) hC)
  · intro z
    exact (hf b hb).2.2.2.2.1 x c (cl_of x c e) z
  · obtain ⟨f0, f1, f2, f3, f4, f5⟩ := hf b hb
    rcases f3 with z | z
    · exact I.ok.noex b o e z
    · exact absurd (Nat.lt_of_lt_of_le (Heap.lt_size (I.ok.bs b o e).1) z) (Nat.lt_irrefl _)
  · have hj : ∃ j, src[i]? = some (some j) ∧ σ[j]? = some (some v) := by
      unfold ini at e2
      rw [List.getElem?_map] at e2
      cases q : src[i]? with
      | none => rw [q] at e2; simp at e2
      | some oj =>
        cases oj with
        | none => rw [q] at e2; simp at e2
        | some j =>
          rw [q] at e2
          simp only [Option.map_some, Option.bind_some, Option.some.injEq] at e2
          refine ⟨j, rfl, ?_⟩
          cases q2 : σ[j]? with
          | none => rw [q2] at e2; simp at e2
          | some ov => rw [q2] at e2; simp only [Option.join_some] at e2; rw [e2]
    obtain ⟨j, hj1, hj2⟩ := hj
    obtain ⟨g1, g2, g3, g4⟩ := ok.free i x j e1 hj1
    obtain ⟨u, ru, lk⟩ := hl0 j x v g1 hj2 g2
    refine ⟨u, ru, ?_⟩
    rcases lk with ⟨hk, _⟩ | ⟨hk, c, hc, hcell⟩
    · exact absurd hk g3
    · obtain ⟨k, hk1, hk2⟩ : ∃ k, (k = NameKind.cell ∨ k = .free) ∧ (relabel scope X.env).names.lookup x = some k := by
        rcases g4 with hx | hx
        · exact ⟨_, .inl rfl, hx⟩
        · exact ⟨_, .inr rfl, hx⟩
      obtain ⟨c', hc'⟩ := clOf_has (env := X.env) scope.names [] (relabel_mem ok.ncell hk1 hk2)
      have ec := cl_of x c' hc'
      rw [hc] at ec
      cases ec
      refine .inr ⟨?_, c, hc', ?_⟩
      · rcases g4 with hx | hx
        · exact .inl hx
        · exact .inr hx
      · obtain ⟨o, ho, hd⟩ := hcell
        exact ⟨o, keep c o ho, hd⟩
  · obtain ⟨v, o, ho, hd⟩ := I.cell x c (cl_of x c e)
    exact ⟨v, o, keep c o ho, hd⟩
  · show upd H D (.lst []) C = none
    rw [upd_ne hCD]
    exact hH C hC
  · obtain ⟨v, o, ho, hd⟩ := I.cell x c (cl_of x c e)
    rw [upd_ne (Nat.ne_of_lt (Nat.lt_of_lt_of_le (lt ho) hD))]
    exact I.freeC x c (cl_of x c e)
  · have hp' : p ∈ X.pn ++ pins := by
      have : p ∈ (X.pn ++ pins) ++ [] := hp
      simpa using this
    obtain ⟨q1, q2, q3, q4, q5⟩ := I.pin p hp'
    refine ⟨keep _ _ q1, ?_, ?_, fun z => ?_, q5⟩
    · rw [upd_ne (Nat.ne_of_lt (Nat.lt_of_lt_of_le (lt q1) hD))]; exact q2
    · show p.1 ≠ C
      exact Nat.ne_of_lt (Nat.lt_of_lt_of_le (lt q1) hC)
    · have z' : p.1 ∈ frs X.stack := z
      rcases List.mem_cons.mp (I.stkSub _ z') with e | e
      · exact q3 e
      · exact q4 e
  · show (ini src σ).length = N.length
    unfold ini
    rw [List.length_map]
    exact ok.len
private theorem fp_sub {X : Cx} {pins : List (Addr × Obj)} {σ : S} {H Hc : Hp} {s2 : Shared} {scope : Scope} {N : List Str} {C : Addr} {fp : List Addr} (I : Inv X pins σ H s2) (hf : ∀ b ∈ fp, FpOk X pins H b) (hfo : ∀ b ∈ fp, ∃ o, s2.heap.get? b = some o) (hC : s2.heap.objs.size ≤ C)
    (clos : (scope.names.all fun y => y.2 != .free || (X.env.cells.lookup y.1).isSome) = true) (hn : ∀ b ∈ fp, Hc b = none) : ∀ b ∈ fp, FpOk (cxComp X pins s2 H N scope C fp) [] Hc b := fun b hb => by
  obtain ⟨o, e⟩ := hfo b hb
  refine ⟨hn b hb, Nat.ne_of_lt (Nat.lt_of_lt_of_le (Heap.lt_size e) hC), fpOk_stk I (hf b hb), .inl hb, fun x c q => ?_, fun p hp => ?_⟩
  · exact (hf b hb).2.2.2.2.1 x c (clOf_lookup scope.names [] clos (fun c z => by simp at z) q)
  · have hp' : p ∈ X.pn ++ pins := by
      have : p ∈ (X.pn ++ pins) ++ [] := hp
      simpa using this
    exact (hf b hb).2.2.2.2.2 p hp'
private theorem comp_out {X : Cx} {pins : List (Addr × Obj)} {σ σc : S} {H Hc : Hp} {s2 s' : Shared} {scope : Scope} {N : List Str} {C : Addr} {fp : List Addr} {pl : List (Addr × Obj)} (I : Inv X pins σ H s2) (hf : ∀ b ∈ fp, FpOk X pins H b)
    (J : Inv (cxComp X pins s2 H N scope C fp) pl σc Hc s') : Inv X pins σ Hc s' :=
  I.call' (ch := fp) J.os J.base J.hok J.bare fun b hb => by
    obtain ⟨f0, f1, f2, f3, f4, f5⟩ := hf b hb
    exact ⟨f3, f1, f4, f5⟩
noncomputable def CompG (J : It) (g : TG) (tc : TT) (te : TE) (D : Addr) (σ : S) (H : Hp) (R : Hp → Prop) : Prop := ∃ W : Nat → Nat → S → Hp → Prop, (∃ m, W 0 m σ H) ∧ ∀ i m σ2 H2, W i m σ2 H2 →
  (J.stop i H2 ∧ R H2) ∨ (J.go i H2 ∧ ∃ N : S → Hp → Prop, (∀ σ' H', N σ' H' → ∃ m', m' < m ∧ W (i + 1) m' σ' H') ∧ ∀ x H3, J.yld i H2 x H3 → g x σ2 H3 fun σ4 H4 => tc σ4 H4 fun b H5 =>
    if b = true then te σ4 H5 fun y H6 => ∃ ys, H6 D = some (.lst ys) ∧ ys.length < sizeLine ∧ N σ4 (upd H6 D (.lst (ys ++ [y]))) else N σ4 H5)
noncomputable def tComp (wi : TI) (g : TG) (tc : TT) (te : TE) (src : List (Option Nat)) : TE := fun σ H Q => wi σ H fun J H1 => ∀ D, H1 D = none → CompG J g tc te D (ini src σ) (upd H1 D (.lst [])) (Q (.ref D))
noncomputable def tYes : TT := fun _ H Q => Q true H
noncomputable def PIfs (X : Cx) (ifs : List Expr) (t : TT) : Prop :=
  ∀ (pins : List (Addr × Obj)) (s : Shared) (σ : S) (H : Hp) (Q : Bool → Hp → Prop), Inv X pins σ H s → t σ H Q →
    wpAny (model X.prog X.w) X.A (forIn ifs true fun c r => if r = true then do let ok ← isTrue c X.env (eval c X.env); pure (ForInStep.yield ok) else pure (ForInStep.yield r)) (TP X pins σ Q) X.xe s
private theorem ifs_nil {X : Cx} : PIfs X [] tYes := fun _ _ _ H _ I h => wpAny_tests_nil ⟨H, I, h⟩
private theorem ifs_one {X : Cx} {c : Expr} {t : TT} (h : PT X c t) : PIfs X [c] t := fun pins s σ H Q I q => wpAny_tests_one (h pins s σ H Q I q)
private theorem comp_core {Y : Cx → Prop} {X : Cx} {pins : List (Addr × Obj)} {σ : S} {H2 : Hp} {s2 : Shared} {scope : Scope} {N : List Str} {src : List (Option Nat)} {fp : List Addr} {it : Addr} {tn : Nat → Heap → Prop} {J : It} {tg elt iter : Expr} {ifs : List Expr} {pos : Pos} {g : TG} {tc : TT} {te : TE} {Q : VK}
    {E : Value → Shared → Prop} {RR : Value → Addr → Result → Shared → Prop}
    (ok : CompOk X scope N src) (hY : ∀ C, Y (cxComp X pins s2 H2 N scope C fp)) (I : Inv X pins σ H2 s2) (T : TurnY Y X.prog X.w X.K tg J fp it tn) (st : tn 0 s2.heap) (hf : ∀ b ∈ fp, FpOk X pins H2 b)
    (hg : ∀ C, PG (cxComp X pins s2 H2 N scope C fp) tg g) (hc : ∀ C, PIfs (cxComp X pins s2 H2 N scope C fp) ifs tc) (he : ∀ C, PE (cxComp X pins s2 H2 N scope C fp) elt te)
    (h : ∀ D, H2 D = none → CompG J g tc te D (ini src σ) (upd H2 D (.lst [])) (Q (.ref D)))
    (hRR : ∀ D C s' H', FpOk X pins H' C → (∃ m, s'.heap.Ns C m) → Inv X pins σ H' s' → Q (.ref D) H' → RR (.ref D) C (.ok .next) s') :
    wpAny (model X.prog X.w) X.A (newList []) (fun acc s3 => wpAny (model X.prog X.w) X.A (newFunctionEnv scope X.env.globals (clOf X.env scope.names []) [] X.env.qual none .none (some X.env)) (fun cenv s4 =>
      codeAny (model X.prog X.w) X.A (.compStart (.ListComp elt [⟨tg, iter, ifs, 0⟩] scope pos) 0 (.ref it) acc { cenv with scope := relabel scope X.env }) (RR acc cenv.locals) s4) E s3) E s2 := by
  refine wpAny_newObj_type (wpAny_newFunctionEnv ok.ncell (by intro y hy; simp at hy) (fun h1 hns1 hsb1 => ?_) ok.kind)
  have hfo : ∀ b ∈ fp, ∃ o, s2.heap.get? b = some o := fun b hb => let ⟨o, e, _⟩ := T.obj 0 _ st b hb; ⟨o, e⟩
  have hpush : (s2.heap.push { cls := .type "list", dict := none, data := .seq ([] : List Value).toArray }).objs.size = s2.heap.objs.size + 1 := Heap.size_push ..
  generalize hH : s2.heap.push { cls := .type "list", dict := none, data := .seq ([] : List Value).toArray } = hp at hns1 hsb1 hpush ⊢
  dsimp only at hns1 hsb1 ⊢
  have hD : s2.heap.objs.size ≤ s2.heap.objs.size := Nat.le_refl _
  have hC : s2.heap.objs.size ≤ hp.objs.size := by rw [hpush]; exact Nat.le_succ _
  have hCD : hp.objs.size ≠ s2.heap.objs.size := by rw [hpush]; exact Nat.succ_ne_self _
  have keep : ∀ b o, s2.heap.get? b = some o → h1.get? b = some o := fun b o e =>
    hsb1.extBut b o (Nat.ne_of_lt (Nat.lt_of_lt_of_le (Heap.lt_size e) hC)) (Heap.get?_push_of_some _ (hH ▸ Heap.get?_push_of_some _ e))
  have hnew : h1.get? s2.heap.objs.size = some { cls := .type "list", data := .seq #[] } :=
    hsb1.extBut _ _ (Ne.symm hCD) (Heap.get?_push_of_some _ (hH ▸ Heap.get?_push_size _ rfl))
  have hHD : H2 s2.heap.objs.size = none := I.hok.fresh hD
  obtain ⟨W, ⟨m0, w0⟩, turn⟩ := h _ hHD
  have I0 := comp_inv (t := s2.toks + ([] : List (Str × Value)).length) I ok hf hfo hD hC hCD keep hns1 hnew
  have f0 : ∀ b ∈ fp, upd H2 s2.heap.objs.size (.lst []) b = none := fun b hb => by
    obtain ⟨o, e⟩ := hfo b hb
    rw [upd_ne (Nat.ne_of_lt (Heap.lt_size e))]
    exact (hf b hb).1
  have st0 : tn 0 h1 := T.keep 0 _ _ st fun b _ o e => keep b o e
  have loop : codeAny (model X.prog X.w) X.A (.compLoop (.ListComp elt [⟨tg, iter, ifs, 0⟩] scope pos) 0 (.ref it) (.ref s2.heap.objs.size) (compEnvC scope (clOf X.env scope.names []) hp.objs.size X.env))
      (RR (.ref s2.heap.objs.size) hp.objs.size) { s2 with heap := h1, toks := s2.toks + ([] : List (Str × Value)).length } := by
    refine comp_loop (fun n s => ∃ i σc Hc, Inv (cxComp X pins s2 H2 N scope hp.objs.size fp) [] σc Hc s ∧ tn i s.heap ∧ (∀ b ∈ fp, Hc b = none) ∧ W i n σc Hc) ?_ m0 ⟨0, _, _, I0, st0, f0, w0⟩
    rintro n s3 ⟨i, σ3, H3, I3, st3, fr3, w3⟩
    have fps := fun {Hc : Hp} (hn : ∀ b ∈ fp, Hc b = none) => fp_sub (N := N) I hf hfo hC ok.clos hn
    rcases turn i n σ3 H3 w3 with ⟨stop, qn⟩ | ⟨go, NN, hNN, step⟩
    · refine wpAny_mono (T.done (cxComp X pins s2 H2 N scope hp.objs.size fp) rfl rfl rfl (hY _) i [] s3 σ3 H3 (fun _ _ => False) I3 (fps fr3) st3 stop) (fun r s4 h4 => ?_) fun _ _ z => z
      obtain ⟨rfl, I4⟩ := h4
      have J4 := comp_out I hf I4
      obtain ⟨m4, n4, _⟩ := I4.loc
      exact hRR _ _ s4 H3 (I.fpOk hC I4.free) ⟨m4, n4⟩ J4 qn
    · refine wpAny_mono (T.item (cxComp X pins s2 H2 N scope hp.objs.size fp) rfl rfl rfl (hY _) i [] s3 σ3 H3 (fun _ _ => False) I3 (fps fr3) st3 go) (fun r s4 h4 => ?_) fun _ _ z => z
      obtain ⟨u, rfl, h4⟩ := h4
      refine wpAny_mono h4 (fun _ s5 h5 => ?_) fun _ _ z => z
      obtain ⟨x, H5, I5, r5, y5, st5, fr5⟩ := h5
      have I5' := I5.pinned (fps fr5) (T.obj _ _ st5)
      refine wpAny_mono (hg hp.objs.size _ s5 σ3 H5 x u _ I5' r5 (step x H5 y5)) (fun _ s6 h6 => ?_) fun _ _ z => z
      obtain ⟨σ6, H6, I6, q6⟩ := h6
      refine wpAny_mono (hc hp.objs.size _ s6 σ6 H6 _ I6 q6) (fun b s7 h7 => ?_) fun _ _ z => z
      obtain ⟨H7, I7, q7⟩ := h7
      have again : ∀ {s8 : Shared} {H8 : Hp}, Inv (cxComp X pins s2 H2 N scope hp.objs.size fp) ([] ++ pinsAt fp s5.heap) σ6 H8 s8 → NN σ6 H8 → ∃ m, m < n ∧ ∃ i σc Hc, Inv (cxComp X pins s2 H2 N scope hp.objs.size fp) [] σc Hc s8 ∧ tn i s8.heap ∧ (∀ b ∈ fp, Hc b = none) ∧ W i m σc Hc := fun {s8 H8} I8 q8 => by
        obtain ⟨m', hm, w8⟩ := hNN _ _ q8
        refine ⟨m', hm, i + 1, σ6, H8, I8.unpinned, T.keep _ _ _ st5 fun b hb o e => (I8.pin (b, o) (List.mem_append_right _ (List.mem_append_right _ (mem_pinsAt hb e)))).1, fun b hb => ?_, w8⟩
        obtain ⟨o, e, d⟩ := T.obj _ _ st5 b hb
        exact (I8.pin (b, o) (List.mem_append_right _ (List.mem_append_right _ (mem_pinsAt hb e)))).2.1
      cases b with
      | false =>
        rw [if_neg Bool.false_ne_true] at q7 ⊢
        exact again I7 q7
      | true =>
        rw [if_pos rfl] at q7 ⊢
        refine wpAny_mono (he hp.objs.size _ s7 σ6 H7 _ I7 q7) (fun yv s8 h8 => ?_) fun _ _ z => z
        obtain ⟨y, H8, I8, r8, ys, hys, hz, q8⟩ := h8
        refine wpAny_mono (mt_append (X := cxComp X pins s2 H2 N scope hp.objs.size fp) _ s8 σ6 H8 (.ref s2.heap.objs.size) [y] _ [yv] (fun _ H9 => NN σ6 H9) I8 rfl (.cons r8 .nil) ⟨_, ys, y, rfl, rfl, hys, hz, q8⟩) (fun _ s9 h9 => ?_) fun _ _ z => z
        obtain ⟨_, H9, I9, _, q9⟩ := h9
        exact again I9 q9
  exact codeAny_compStart_list loop (T.self _ _ _ _ _ st0 loop)
private theorem pe_comp {Y : Cx → Prop} {X : Cx} {scope : Scope} {tg elt iter : Expr} {ifs : List Expr} {pos : Pos} {wi : TI} {g : TG} {tc : TT} {te : TE} (N : List Str) (src : List (Option Nat)) (ok : CompOk X scope N src) (hY : ∀ pins s2 H2 C fp, Y (cxComp X pins s2 H2 N scope C fp)) (hi : PIY Y X tg iter wi)
    (hg : ∀ pins s2 H2 C fp, PG (cxComp X pins s2 H2 N scope C fp) tg g) (hc : ∀ pins s2 H2 C fp, PIfs (cxComp X pins s2 H2 N scope C fp) ifs tc) (he : ∀ pins s2 H2 C fp, PE (cxComp X pins s2 H2 N scope C fp) elt te)
    (hs : ∀ x, foldedSetIterable iter X.env x = pure x := by intro _; rfl) : PE X (.ListComp elt [⟨tg, iter, ifs, 0⟩] scope pos) (tComp wi g tc te src) := by
  intro pins s σ H Q I h
  rw [eval_ListComp]
  refine wpAny_comprehension_free (use := none) rfl hs (closure_of ok.clos) ok.kind ok.names (wpAny_mono (hi pins s σ H _ I h) (fun xv s1 h1 => wpAny_mono h1 (fun itv s2 h2 => ?_) fun _ _ e => e) fun _ _ e => e)
  obtain ⟨it, fp, tn, J, H2, rfl, I2, T, st2, f2, hh⟩ := h2
  refine comp_core (RR := fun acc C => compPost (model X.prog X.w) X.A X.xe none (EP X pins σ Q) acc C) ok (hY _ _ _ · _) I2 T st2 f2 (fun C => hg pins s2 H2 C fp) (fun C => hc pins s2 H2 C fp) (fun C => he pins s2 H2 C fp) hh ?_
  intro D C s' H' fC hns I' q
  obtain ⟨m, hm⟩ := hns
  refine ⟨m, hm, fun h' hs' => ?_⟩
  obtain ⟨f0, f1, f2, f3, f4, f5⟩ := fC
  exact ⟨.ref D, H', I'.turned (t' := s'.toks) (fun b o hb e => hs'.extBut b o hb e) f0 f1 f3 f4 f5, rfl, q⟩
private theorem ps_setComp {X : Cx} {scope : Scope} {tg elt iter : Expr} {ifs : List Expr} {pos cpos pos' : Pos} {wi : TI} {g : TG} {tc : TT} {te : TE} {k : Nat} {x : Str} (hN : X.N.Nodup) (hk : X.N[k]? = some x) (hx : Loc X.env.scope x) (N : List Str) (src : List (Option Nat)) (ok : CompOk X scope N src) (hcalm : X.calm = true) (hi : PI X tg iter wi)
    (hg : ∀ pins s2 H2 C fp, PG (cxComp X pins s2 H2 N scope C fp) tg g) (hc : ∀ pins s2 H2 C fp, PIfs (cxComp X pins s2 H2 N scope C fp) ifs tc) (he : ∀ pins s2 H2 C fp, PE (cxComp X pins s2 H2 N scope C fp) elt te)
    (hsw : swapsWith (.ListComp elt [⟨tg, iter, ifs, 0⟩] scope cpos) (some (.Name x pos')) pos.line X.env = pure true := by rfl)
    (hs : ∀ x, foldedSetIterable iter X.env x = pure x := by intro _; rfl) (hfn : X.fn x = true ∨ X.env.scope.names.lookup x = some .local := by first | exact .inl rfl | exact .inr rfl | assumption) :
    PS X (.Assign [.Name x pos'] (.ListComp elt [⟨tg, iter, ifs, 0⟩] scope cpos) pos) (tAsg (tComp wi g tc te src) (gName k)) := by
  intro pins s σ H D I h
  rw [exec_Assign_Name_used _ _ _ _ hsw]
  refine wpAny_bind (wpAny_standAt (wpAny_bind ?_))
  show wpAny _ X.A (do let _ ← comprehension (.ListComp elt [⟨tg, iter, ifs, 0⟩] scope cpos) scope X.env _ (newList []) false (eval iter X.env) (some (assign (.Name x pos') X.env))) _ _ s
  refine wpAny_bind (wpAny_mono (wpAny_comprehension_free (use := some (assign (.Name x pos') X.env)) (Q := fun _ s' => SP X pins D .next s') rfl hs (closure_of ok.clos) ok.kind ok.names
    (wpAny_mono (hi pins s σ H _ I h) (fun xv s1 h1 => wpAny_mono h1 (fun itv s2 h2 => ?_) fun _ _ e => e) fun _ _ e => e)) (fun _ s' hq => wpAny_pure (wpAny_pure hq)) fun _ _ e => e)
  obtain ⟨it, fp, tn, J, H2, rfl, I2, T, st2, f2, hh⟩ := h2
  refine comp_core (Q := fun v H' => D.nx (σ.set k (some v)) H') (RR := fun acc C => compPost (model X.prog X.w) X.A X.xe (some (assign (.Name x pos') X.env)) (fun _ s' => SP X pins D .next s') acc C) ok (fun _ => hcalm) I2 T st2 f2 (fun C => hg pins s2 H2 C fp) (fun C => hc pins s2 H2 C fp) (fun C => he pins s2 H2 C fp) hh ?_
  intro D' C s' H' fC hns I' q
  obtain ⟨m, hm⟩ := hns
  show wpAny _ X.A (assign (.Name x pos') X.env (.ref D')) _ _ _
  refine wpAny_assign_Name (store_ok2 I' hN hk hx (v := .ref D') rfl (fun s'' I'' ⟨a, hsa, ha⟩ => ?_) hfn)
  obtain ⟨f0, f1, f2, f3, f4, f5⟩ := fC
  have hCa : C ≠ a := by
    rcases ha with e | e
    · rw [e]; exact f1
    · exact Ne.symm (f4 x a e)
  refine ⟨m, hm.sameBut hsa hCa, fun h' hs' => ?_⟩
  exact ⟨_, H', I''.turned (t' := s''.toks) (fun b o hb e => hs'.extBut b o hb e) f0 f1 f3 f4 f5, q⟩
end L3
set_option Elab.async false
set_option linter.all false
set_option maxRecDepth 100000
namespace L3
open PySem PySem.Spec PyProof.Rows L2
structure HasY (hv : Option Value) (P : Program) (w : World) (K : PySem.W.Frag) (mg : Str → Option Value) (base : Heap) (CX : CXT) (k : Nat) (x : Str) (ps : List Str) (sp : Sp) : Prop where
  ex : ∃ f fd, FnOkY hv P w K mg base CX k f fd ps sp ∧ Binds K fd ps [] ∧ PySem.W.keepIn K (.ref f) = true ∧ mg x = some (.ref f)
noncomputable abbrev Has := HasY none
structure Def (K : PySem.W.Frag) (mg : Str → Option Value) (x : Str) (st : Stmt) (ps : List Str) : Prop where
  ex : ∃ f fd, Fun K x x st f fd ∧ Binds K fd ps [] ∧ mg x = some (.ref f)
private theorem Def.has {hv : Option Value} {P : Program} {w : World} {K : PySem.W.Frag} {mg : Str → Option Value} {base : Heap} {k : Nat} {x : Str} {st : Stmt} {N ps : List Str} {sp : Sp} (F : Def K mg x st ps) (sc : FnScope N ps (defScope st)) (len : ∀ vs H Q E, sp vs H Q E → vs.length = ps.length)
    (hbody : ∀ (f : Addr) (cdv : Value) (A : Around) (outer : List Env) (s : Shared) (H : Hp) (vs : List V) (Q : VK) (E : XK), RoomY hv k (A.deeper (envOfC x (defScope st) s.heap.objs.size f cdv)) → sp vs H Q E →
      ∃ t, PSs (cxOfY hv CX0 P w K mg base N x (defScope st) f cdv A outer s H E).nox (defBody st) t ∧ t { nx := fun _ H' => Q .non H', rt := Q } (start N vs) H) : HasY hv P w K mg base CX0 (k + 1) x ps sp := by
  obtain ⟨f, fd, F1, b, m⟩ := F.ex
  exact ⟨f, fd, F1.ok sc len (fun cdv A outer s H vs Q E hr h => hbody f cdv A outer s H vs Q E hr h), b, F1.kp, m⟩
section
variable {X : Cx} {CX : CXT} {k : Nat} {ps : List Str} {sp : Sp} {E : XK} {x : Str} {p pos : Pos} {e : Expr} {es : List Expr} {t : TA}
private theorem pe_h {hv : Option Value} (F : HasY hv X.prog X.w X.K X.mg X.base CX k x ps sp) (hr : RoomY hv k X.A) (hg : Gl X x) (hx : Passes CX X E) (ha : PA X (e :: es) t) (hdb : (x == ("__debug__" : Str)) = false := by decide) (he : starEach (e :: es) X.env = (false, eval e X.env) :: starEach es X.env := by rfl) (hpl : (backTo pos (starEach es X.env)).any (·.1) = false := by rfl) :
    PE X (.Call (.Name x p) (e :: es) [] pos) (tCall sp [] E t) := by
  obtain ⟨f, fd, F1, b, kp, m⟩ := F.ex
  exact pe_call F1 hr hg m kp b .nil hx ha hdb he hpl
end
structure Bl (mg : Str → Option Value) : Prop where
  len : mg "len" = none
  abs : mg "abs" = none
  isinstance : mg "isinstance" = none
  tuple : mg "tuple" = none
  list : mg "list" = none
  int : mg "int" = none
  bool : mg "bool" = none
  str : mg "str" = none
  range : mg "range" = none
  zip : mg "zip" = none
  all : mg "all" = none
  any : mg "any" = none
  ValueError : mg "ValueError" = none
private theorem Same.new {H : Hp} {p : Addr} {o : HO} (h : H p = none) : Same H (upd H p o) := fun b u q => by rw [upd_ne (ne_of_none q h)]; exact q
noncomputable def frD (q : Rat) : D := .tup [.int q.num, .int (q.den : Int)]
noncomputable def SmR (n : Nat) (q : Rat) : Prop := Sm n q.num ∧ Sm n (q.den : Int)
private theorem den_ne (q : Rat) : (q.den : Int) ≠ 0 := by have := q.den_nz; omega
private theorem fr_num {a b : Int} (hb : b ≠ 0) : (Rat.divInt a b).num = a.fdiv (if b < 0 then -(Int.gcd a b : Int) else (Int.gcd a b : Int)) := by
  have h1 : (Int.gcd a b : Int) ∣ a := Int.gcd_dvd_left a b
  rw [Rat.num_divInt, Int.gcd_comm b a]
  split
  · rename_i h
    rw [Int.fdiv_eq_ediv_of_dvd (Int.neg_dvd.mpr h1), Int.ediv_neg, Int.sign_eq_neg_one_of_neg h, Int.neg_mul, Int.one_mul, Int.neg_ediv_of_dvd h1]
  · rename_i h
    rw [Int.fdiv_eq_ediv_of_dvd h1, Int.sign_eq_one_of_pos (by omega), Int.one_mul]
private theorem fr_den {a b : Int} (hb : b ≠ 0) : (((Rat.divInt a b).den : Nat) : Int) = b.fdiv (if b < 0 then -(Int.gcd a b : Int) else (Int.gcd a b : Int)) := by
  have h1 : (Int.gcd a b : Int) ∣ b := Int.gcd_dvd_right a b
  rw [Rat.den_divInt, if_neg hb, Int.gcd_comm b a]
  split
  · rename_i h
    rw [Int.fdiv_eq_ediv_of_dvd (Int.neg_dvd.mpr h1), Int.ediv_neg, Int.natCast_ediv, ← Int.neg_ediv_of_dvd h1]
    congr 1
    omega
  · rename_i h
    rw [Int.fdiv_eq_ediv_of_dvd h1, Int.natCast_ediv]
    congr 1
    omega
private theorem fr_den_le {a b : Int} (hb : b ≠ 0) : (Rat.divInt a b).den ≤ b.natAbs := by
  rw [Rat.den_divInt, if_neg hb]
  exact Nat.div_le_self _ _
private theorem fr_num_le {a b : Int} (hb : b ≠ 0) : (Rat.divInt a b).num.natAbs ≤ a.natAbs := by
  rw [Rat.num_divInt]
  have := Int.natAbs_ediv_le_natAbs (b.sign * a) (b.gcd a : Int)
  rw [Int.natAbs_mul] at this
  have h2 : b.sign.natAbs = 1 := by
    rw [Int.natAbs_sign]
    rw [if_neg hb]
  rw [h2, Nat.one_mul] at this
  exact this
private theorem fr_sm {n : Nat} {a b : Int} (hb : b ≠ 0) (ha : Sm n a) (hb' : Sm n b) : SmR n (Rat.divInt a b) :=
  ⟨ha.le (fr_num_le hb), hb'.le (by have := fr_den_le (a := a) hb; simpa using this)⟩
private theorem gcd_step (a b : Int) : Int.gcd b (a.fmod b) = Int.gcd a b := by
  rw [Int.fmod_def, Int.gcd_comm a b]
  have := Int.gcd_sub_mul_right_right b a (a.fdiv b)
  rw [Int.mul_comm] at this
  exact this
private theorem fmod_small {a b : Int} (h : b ≠ 0) : (a.fmod b).natAbs < b.natAbs := by
  by_cases hb : 0 < b
  · have h1 := Int.fmod_lt_of_pos a hb
    have h2 := Int.fmod_nonneg_of_pos a hb
    omega
  · have hb' : b < 0 := by omega
    have e : a.fmod b = -((-a).fmod (-b)) := by
      rw [Int.neg_fmod_neg]; omega
    have h1 := Int.fmod_lt_of_pos (-a) (b := -b) (by omega)
    have h2 := Int.fmod_nonneg_of_pos (-a) (b := -b) (by omega)
    omega
private theorem gcd_pos {a b : Int} (h : b ≠ 0) : 0 < Int.gcd a b := Int.gcd_pos_of_ne_zero_right a h
private theorem gcd_sm {n : Nat} {a b : Int} (hb : b ≠ 0) (h : Sm n b) : Sm n (Int.gcd a b : Int) := by
  refine h.le ?_
  have := Int.gcd_le_natAbs_right a hb
  simpa using this
private theorem iteN {c : Bool} {A B : Prop} (h : c = false) (k : B) : if c = true then A else B := by subst h; rw [if_neg Bool.false_ne_true]; exact k
private theorem iteY {c : Bool} {A B : Prop} (h : c = true) (k : A) : if c = true then A else B := by subst h; rw [if_pos rfl]; exact k
private theorem iteB {c : Bool} {A B : Prop} (h1 : c = true → A) (h2 : c = false → B) : if c = true then A else B := by
  cases c with
  | true => exact iteY rfl (h1 rfl)
  | false => exact iteN rfl (h2 rfl)
private theorem r_add (q r : Rat) : Rat.divInt (q.num * (r.den : Int) + r.num * (q.den : Int)) ((q.den : Int) * (r.den : Int)) = q + r := by
  rw [Rat.add_def', ← Int.natCast_mul]; rfl
private theorem r_lt (q r : Rat) : decide (q.num * (r.den : Int) < r.num * (q.den : Int)) = decide (q < r) := by
  congr 1
  rw [Rat.lt_iff]
private theorem sm_of {n : Nat} {i : Int} (h1 : -(2 ^ n : Int) < i) (h2 : i < (2 ^ n : Int)) : Sm n i := by
  unfold Sm
  have e : ((2 ^ n : Nat) : Int) = (2 ^ n : Int) := by simp
  omega
section
variable {X : Cx} {K : PySem.W.Frag}
end
end L3
set_option Elab.async false
set_option linter.all false
set_option maxRecDepth 100000
namespace L3
open PySem PySem.Spec PyProof.Rows L2
noncomputable def isCF : Option NameKind → Bool
  | some .cell => true
  | some .free => true
  | _ => false
private theorem isCF_or {o : Option NameKind} (h : isCF o = true) : o = some .cell ∨ o = some .free := by
  unfold isCF at h
  split at h
  · exact .inl rfl
  · exact .inr rfl
  · cases h
noncomputable def freeB (X : Cx) (scope : Scope) : List Str → List (Option Nat) → Bool
  | x :: N, o :: src => (match o with
      | none => true
      | some j => decide (X.N[j]? = some x) && isCF (X.env.scope.names.lookup x) && isCF ((relabel scope X.env).names.lookup x)) && freeB X scope N src
  | _, _ => true
private theorem free_of {X : Cx} {scope : Scope} : ∀ {N : List Str} {src : List (Option Nat)}, freeB X scope N src = true → ∀ (i : Nat) (x : Str) (j : Nat), N[i]? = some x → src[i]? = some (some j) → X.N[j]? = some x ∧ Vis X.env.scope x ∧ X.env.scope.names.lookup x ≠ some .local ∧
    ((relabel scope X.env).names.lookup x = some .cell ∨ (relabel scope X.env).names.lookup x = some .free)
  | [], _, _, i, x, j, h1, _ => by simp at h1
  | _ :: _, [], _, i, x, j, _, h2 => by simp at h2
  | y :: N, o :: src, h, 0, x, j, h1, h2 => by
    simp only [List.getElem?_cons_zero, Option.some.injEq] at h1 h2
    subst h1 h2
    rw [freeB, Bool.and_eq_true, Bool.and_eq_true, Bool.and_eq_true] at h
    obtain ⟨⟨⟨a, b⟩, c⟩, _⟩ := h
    refine ⟨of_decide_eq_true a, ?_, ?_, isCF_or c⟩
    · rcases isCF_or b with e | e
      · exact .inr (.inl e)
      · exact .inr (.inr e)
    · rcases isCF_or b with e | e <;> rw [e] <;> simp
  | y :: N, o :: src, h, i + 1, x, j, h1, h2 => by
    have h' : (_ && freeB X scope N src) = true := h
    rw [Bool.and_eq_true] at h'
    exact free_of h'.2 i x j (by simpa using h1) (by simpa using h2)
private theorem vals_bools : ∀ {bs : List Bool} {us : List Value}, Vals (bs.map V.bl) us → us = bs.map Value.bool
  | [], _, h => by cases h; rfl
  | b :: bs, _, h => by
    cases h with
    | cons r rr => cases r; rw [vals_bools rr]; rfl
private theorem smr_add {a b : Nat} {q r : Rat} (h : SmR a q) (k : SmR b r) : SmR (a + b + 1) (q + r) := by
  rw [← r_add]
  refine fr_sm (Int.mul_ne_zero (den_ne q) (den_ne r)) ?_ ?_
  · exact (h.1.mul k.2).add ((k.1.mul h.2).mono (by omega))
  · exact (h.2.mul k.2).mono (by omega)
end L3
set_option Elab.async false
set_option linter.all false
set_option maxRecDepth 100000
namespace L3
open PySem PySem.Spec PyProof.Rows L2
section
variable {X : Cx}
private theorem vals_get_bl {bs : List Bool} {i : Nat} {v : Value} (h : (bs.map Value.bool)[i]? = some v) : ∃ b, bs[i]? = some b ∧ v = .bool b := by
  rw [List.getElem?_map] at h
  cases e : bs[i]? with
  | none => rw [e] at h; cases h
  | some b => rw [e] at h; injection h with h; exact ⟨b, rfl, h.symm⟩
noncomputable def rAll (K : PySem.W.Frag) : List V → Hp → VK → Prop := fun xs H Q => ∃ (p : Addr) (bs : List Bool), xs = [.ref p] ∧ SqL K H p (bs.map V.bl) ∧ Q (.bl (bs.all id)) H
private theorem call_all (hc : X.calm = true) : CallR X (.builtin "all") (rAll X.K) := by
  intro pins s σ H xs us Q I r h
  obtain ⟨p, bs, rfl, hq, q⟩ := h
  obtain ⟨u, rfl, rx⟩ := vals1 r
  cases rx
  obtain ⟨its, rv, pl, hz⟩ := I.list hq
  have hb := vals_bools rv
  subst hb
  have hl := pl.isList
  have hlt : p < s.heap.objs.size := by obtain ⟨_, e, _⟩ := hl; exact Heap.lt_size e
  refine call_all_walk (wpAny_pyIter_list hl ?_)
  refine ⟨s.heap.objs.size, [s.heap.objs.size, p], [s.heap.objs.size], (bs.map Value.bool).toArray.size, _, _, fun i => (bs[i]?).getD true, rfl, Walks.list (A := X.A.in1) (I.ok.hd hc) _ p (Nat.ne_of_lt hlt) (bs.map Value.bool).toArray,
    ⟨⟨_, Heap.get?_push_size _ rfl, rfl, rfl⟩, hl.push _⟩, fun i v s' Q' E' hP hQ => ?_, fun h' tk hk => ?_⟩
  · obtain ⟨b, e, rfl⟩ := vals_get_bl (bs := bs) (i := i) (v := v) (by simpa using hP)
    simp only [e, Option.getD_some] at hQ
    exact wpAny_truthy_bool hQ
  · have e : ((List.range (bs.map Value.bool).toArray.size).all fun i => (bs[i]?).getD true) = bs.all id := by
      rw [List.size_toArray, List.length_map]; exact LSm.range_all bs
    rw [e]
    exact ⟨.bl (bs.all id), H, I.kept (t' := tk) (LSm.kept_iter hk), rfl, q⟩
end
noncomputable def tyN : D → String
  | .non => "NoneType"
  | .bl _ => "bool"
  | .int _ => "int"
  | .str _ => "str"
  | .tup _ => "tuple"
  | .lst _ => "list"
noncomputable def isInt : D → Bool
  | .int _ => true
  | .bl _ => true
  | _ => false
noncomputable def isBl : D → Bool
  | .bl _ => true
  | _ => false
noncomputable def isTup : D → Bool
  | .tup _ => true
  | _ => false
noncomputable def isLst : D → Bool
  | .lst _ => true
  | _ => false
section
variable {K : PySem.W.Frag}
private theorem kitInt (d : D) : PySem.W.kitOne K (.type (tyN d)) (.type "int") = some (isInt d) := by cases d <;> first | rfl | with_unfolding_all rfl
private theorem kitBl (d : D) : PySem.W.kitOne K (.type (tyN d)) (.type "bool") = some (isBl d) := by cases d <;> first | rfl | with_unfolding_all rfl
private theorem kitTup (d : D) : PySem.W.kitOne K (.type (tyN d)) (.type "tuple") = some (isTup d) := by cases d <;> first | rfl | with_unfolding_all rfl
private theorem kitLst (d : D) : PySem.W.kitOne K (.type (tyN d)) (.type "list") = some (isLst d) := by cases d <;> first | rfl | with_unfolding_all rfl
end
noncomputable def cutD {α : Type} (xs : List α) (lo hi : Option Int) : List α := (xs.drop (HT.sIx xs.length 0 lo)).take (HT.sIx xs.length xs.length hi - HT.sIx xs.length 0 lo)
section
variable {X : Cx} {pos : Pos} {es : List Expr} {t : TA}
noncomputable def tLstN (t : TA) : TE := fun σ H Q => t σ H fun xs H1 => xs.length ≤ sizeLine ∧ ∀ p H', H1 p = none → Same H1 H' → H' p = some (.lst xs) → Q (.ref p) H'
private theorem pe_lstN (h : PA X es t) : PE X (.List es pos) (tLstN t) := by
  intro pins s σ H Q I hq
  refine wpAny_List_spliced (thn (h pos pins s σ H _ I hq) fun us s1 ⟨xs, H1, I1, r, z, q⟩ => ⟨by rw [← r.length]; exact z, ?_⟩)
  have hf : H1 s1.heap.objs.size = none := I1.hok.fresh (Nat.le_refl _)
  exact ⟨.ref s1.heap.objs.size, upd H1 s1.heap.objs.size (.lst xs), I1.laid (t' := s1.toks) (fun b u e => Heap.get?_push_of_some _ e) (Nat.le_refl _) ⟨z, us, 0, r, Heap.get?_push_size _ rfl⟩, rfl, q _ _ hf (Same.new hf) upd_same⟩
end
end L3
set_option Elab.async false
set_option linter.all false
set_option maxRecDepth 100000
namespace L3
open PySem PySem.Spec PyProof.Rows L2
section
variable {X : Cx} {pins : List (Addr × Obj)} {σ : S} {H : Hp} {s : Shared} {h' : Heap}
end
section
variable {X : Cx} {tg : Expr}
end
end L3
set_option Elab.async false
set_option linter.all false
set_option maxRecDepth 100000
namespace L3
open PySem PySem.Spec PyProof.Rows L2
section
variable {prog : Program} {w : World} {A : Around} {E : Value → Shared → Prop} {s : Shared}
end
section
variable {prog : Program} {w : World} {A : Around} {E : Value → Shared → Prop} {s : Shared} {a b z TI TO i1 i2 S : Addr} {xs ys : Array Value} {i : Nat} {h h' : Heap}
end
end L3
set_option Elab.async false
set_option linter.all false
set_option maxRecDepth 100000
namespace L3
open PySem PySem.Spec PyProof.Rows L2
section
variable {K : PySem.W.Frag} {a D0 : Addr} {te : TE} {σ : S} {H0 : Hp} {R : Hp → Prop} {xs : List V}
end
end L3
set_option linter.all false
namespace M
namespace Q
open PySem PySem.Spec PyProof.Rows L2 L3
section
variable {X : Cx} {CX : CXT} {k : Nat} {ps : List Str} {sp : Sp} {E : XK} {x : Str} {p pos : Pos} {e a b o tg : Expr} {es : List Expr} {te ta tb to : TE} {t : TA} {st : Stmt} {rest body : List Stmt} {s u : TS}
end
end Q
end M
set_option Elab.async false
set_option linter.all false
set_option maxRecDepth 100000
namespace L3
open PySem PySem.Spec PyProof.Rows L2
section
variable {prog : Program} {w : World} {A : Around} {E : Value → Shared → Prop} {K : PySem.W.Frag} {x C : Addr} {ox : Obj}
structure XCls (K : PySem.W.Frag) (C : Addr) : Prop where
  ga : PySem.W.findIn K (.ref C) "__getattribute__" = some (some (.builtin "BaseException.__getattribute__"))
  hk : PySem.W.findIn K (.ref C) "__getattr__" = some none
  ha : PySem.W.findIn K (.ref C) "__class__" = some (some (.builtin "object.__class__"))
  hn : PySem.W.specialIn K (.builtin "object.__class__") "__get__" = some (some (.builtin "getset_descriptor.__get__"))
  ht : PySem.W.takesIn K (.builtin "object.__class__") = some true
  mo : PySem.W.mroIn K C (.type "object") = some true
  mb : PySem.W.mroIn K C (.type "BaseException") = some true
  ty : PySem.W.typeIn K (.ref C) = some (.type "type")
  sb : PySem.W.subIn K (.ref C) (.type "BaseException") = some true
private theorem XCls.cl (c : XCls K C) : (PySem.W.clsIn K C).isSome = true := by
  have h := c.mo
  unfold PySem.W.mroIn at h
  cases e : PySem.W.clsIn K C with
  | none => rw [e] at h; cases h
  | some _ => rfl
private theorem exm_sub {N : Addr} {b : Bool} (c : XCls K C) (h : PySem.W.subIn K (.ref N) (.ref C) = some b) : PySem.W.exmOne K (.ref N) (.ref C) = some b := by
  unfold PySem.W.exmOne
  rw [c.sb, if_pos (beq_self_eq_true _)]
  unfold PySem.W.kitCls
  simp only [c.cl, c.ty, Bool.true_and, beq_self_eq_true, if_true]
  exact h
end
end L3
namespace L3
open PySem PySem.Spec PyProof.Rows L2
structure Flies (h : Heap) (e C : Addr) (tb : Option Addr) : Prop where
  ob : ∃ oe vs, h.get? e = some oe ∧ oe.cls = .ref C ∧ oe.dict = none ∧ oe.data = .fields vs ∧ vs[1]? = some (match tb with | none => Value.none | some T => .ref T) ∧ vs[2]? = some .none
  tr : ∀ T, tb = some T → T ≠ e ∧ ∃ oT ts, h.get? T = some oT ∧ oT.data = .fields ts ∧ 3 < ts.size
private theorem mapF_dict (f : Array Value → Array Value) (o : Obj) : (o.mapFields f).dict = o.dict := by
  obtain ⟨c, d, dt, sl⟩ := o
  cases dt <;> rfl
structure Kp (S : List Addr) (e : Addr) (tb : Option Addr) (h h' : Heap) : Prop where
  keep : ∀ b o, b ≠ e → tb ≠ some b → b ∉ S → h.get? b = some o → h'.get? b = some o
  slot : ∀ b o, b ≠ e → tb ≠ some b → h.get? b = some o → ∃ sl, h'.get? b = some { o with slots := sl }
  size : h.objs.size ≤ h'.objs.size
section
variable {M : Model} {A : Around} {E : Value → Shared → Prop} {s : Shared} {base : Heap} {env : Env} {outer : List Env} {L e C : Addr}
private theorem entry_ok {oe : Obj} {vs : Array Value} {head : Value} {hadNext : Bool} {Q : Unit → Shared → Prop}
    (hfr : A.frames = some (env :: outer)) (hl : s.heap.FunFrames base (env :: outer)) (hf : env.frame = some L)
    (he : s.heap.get? e = some oe) (hcl : oe.cls = .ref C) (hdi : oe.dict = none) (hd : oe.data = .fields vs) (hz : 1 < vs.size) (h2 : vs[2]? = some .none)
    (h : ∀ h' T, s.heap.objs.size ≤ T → Flies h' e C (some T) → Kp (frs (env :: outer)) e none s.heap h' → Q () { s with heap := h' }) :
    wpAny M A (do
        let a ← frameOf env
        let pl ← entryPlaceOf L hadNext
        let b ← EntryCells.newEntry head a .none (rawInt L) .none pl
        setField (.ref e) 1 b) Q E s := by
  have hne : e ∉ frs (env :: outer) := by
    intro hm
    obtain ⟨_, o, ho, hn⟩ := hl.mem hm
    rw [he] at ho
    cases ho
    exact hn vs hd
  refine wpAny_bind (wpAny_frameOf_fun hfr hl hf fun g1 so => wpAny_bind (wpAny_entryPlaceOf fun pl hpl => ?_))
  have e1 : g1.get? e = some oe := (so.2.1 e hne).trans he
  unfold EntryCells.newEntry newFields
  refine wpAny_bind (wpAny_newObj_type ?_ (hpl.sizeOk5 _ _ _ _ _))
  generalize hT : ({ cls := .type "traceback", dict := none, data := .fields ([head, .ref L, .none, rawInt L, .none] ++ (if pl.isEmpty then List.replicate 6 Value.none else pl)).toArray } : Obj) = oT
  have dT : oT.data = .fields ([head, .ref L, .none, rawInt L, .none] ++ (if pl.isEmpty then List.replicate 6 Value.none else pl)).toArray := by rw [← hT]
  have zT : 3 < (([head, .ref L, .none, rawInt L, .none] ++ (if pl.isEmpty then List.replicate 6 Value.none else pl)).toArray).size := by simp
  generalize hts : ([head, .ref L, .none, rawInt L, .none] ++ (if pl.isEmpty then List.replicate 6 Value.none else pl)).toArray = ts at dT zT
  have e2 : (g1.push oT).get? e = some oe := Heap.get?_push_of_some oT e1
  have n1 : g1.objs.size ≠ e := Nat.ne_of_gt (Heap.lt_size e1)
  have d3 := Obj.data_mapFields hd (·.setIfInBounds 1 (Value.ref g1.objs.size))
  have e3 := Heap.get?_update_self (Obj.mapFields (·.setIfInBounds 1 (Value.ref g1.objs.size))) e2 (Obj.isFreed_of_fields d3)
  have t3 : ((g1.push oT).update e (Obj.mapFields (·.setIfInBounds 1 (Value.ref g1.objs.size)))).get? g1.objs.size = some oT :=
    (Heap.get?_update_other _ _ (Ne.symm n1)).trans (Heap.get?_push_size g1 (by rw [← hT]; rfl))
  refine wpAny_setField e2 hd hz (h _ g1.objs.size ?_ ⟨⟨_, _, e3, ?_, ?_, d3, by simp [hz], by simp [h2]⟩, fun T hTT => ?_⟩ ⟨fun b o hb _ hS q => ?_, fun b o hb _ q => ?_, ?_⟩)
  · exact Nat.le_of_eq so.1.symm
  · rw [Obj.cls_mapFields]; exact hcl
  · rw [mapF_dict]; exact hdi
  · cases hTT
    exact ⟨n1, _, _, t3, dT, zT⟩
  · have q1 := (so.2.1 b hS).trans q
    rw [Heap.get?_update_other _ _ (Ne.symm hb)]
    exact Heap.get?_push_of_some _ q1
  · obtain ⟨sl, q1⟩ := so.2.2 b o q
    refine ⟨sl, ?_⟩
    rw [Heap.get?_update_other _ _ (Ne.symm hb)]
    exact Heap.get?_push_of_some _ q1
  · have := so.1
    simp
    omega
private theorem note1 {tb : Option Addr} {Q : Unit → Shared → Prop}
    (hfr : A.frames = some (env :: outer)) (hl : s.heap.FunFrames base (env :: outer)) (hf : env.frame = some L) (fl : Flies s.heap e C tb)
    (h : ∀ h' T, (s.heap.objs.size ≤ T ∨ tb = some T) → Flies h' e C (some T) → Kp (frs (env :: outer)) e tb s.heap h' → Q () { s with heap := h' }) :
    wpAny M A (noteFrame (.ref e) env) Q E s := by
  obtain ⟨⟨oe, vs, he, hcl, hdi, hd, h1, h2⟩, tr⟩ := id fl
  have hz : 1 < vs.size := (Array.getElem?_eq_some_iff.mp h1).1
  unfold noteFrame
  simp only [hf]
  refine wpAny_bind (wpAny_field he hd h1 ?_)
  cases tb with
  | none =>
    rw [if_neg (by decide)]
    exact entry_ok hfr hl hf he hcl hdi hd hz h2 fun h' T hT fl' kp => h h' T (.inl hT) fl' kp
  | some T =>
    obtain ⟨n1, oT, ts, hT, dT, zT⟩ := tr T rfl
    have h3 : ts[3]? = some ts[3] := Array.getElem?_eq_getElem zT
    simp only
    rw [if_pos (by simp)]
    refine wpAny_bind (wpAny_field hT dT h3 ?_)
    by_cases hv : (ts[3] == rawInt (L : Int)) = true
    · rw [if_pos hv]
      exact wpAny_pure (h _ T (.inr rfl) fl ⟨fun b o _ _ _ q => q, fun b o _ _ q => ⟨o.slots, q⟩, Nat.le_refl _⟩)
    rw [if_neg hv]
    refine wpAny_bind (wpAny_setField hT dT zT ?_)
    have oth : ∀ b, b ≠ T → (s.heap.update T (Obj.mapFields (·.setIfInBounds 3 Value.none))).get? b = s.heap.get? b := fun b hb => Heap.get?_update_other _ _ (Ne.symm hb)
    have zs : (s.heap.update T (Obj.mapFields (·.setIfInBounds 3 Value.none))).objs.size = s.heap.objs.size := Heap.size_after_update ..
    have nrec : ∀ b o, s.heap.get? b = some o → (∀ ws, o.data ≠ .fields ws) → b ≠ T := fun b o q hn z => by
      rw [z, hT] at q
      cases q
      exact hn ts dT
    refine entry_ok (hfr := hfr) (hl.of_keeps fun b o q hn => ⟨o, (oth b (nrec b o q hn)).trans q, rfl⟩) hf ((oth e (Ne.symm n1)).trans he) hcl hdi hd hz h2 fun h' T' hT' fl' kp => ?_
    have nT' : s.heap.objs.size ≤ T' := by rw [← zs]; exact hT'
    refine h h' T' (.inl nT') fl' ⟨fun b o hb hbT hS q => ?_, fun b o hb hbT q => ?_, ?_⟩
    · exact kp.keep b o hb (fun z => nomatch z) hS ((oth b fun z => hbT (by rw [z])).trans q)
    · exact kp.slot b o hb (fun z => nomatch z) ((oth b fun z => hbT (by rw [z])).trans q)
    · rw [← zs]; exact kp.size
private theorem flight_ok {T : Addr} {fr : Option Addr} {Q : Unit → Shared → Prop} (fl : Flies s.heap e C (some T)) (h : ∀ h', Flies h' e C (some T) → (∀ b o, b ≠ T → s.heap.get? b = some o → h'.get? b = some o) → h'.objs.size = s.heap.objs.size → Q () { s with heap := h' }) :
    wpAny M A (setFlight (.ref e) fr) Q E s := by
  obtain ⟨⟨oe, vs, he, hcl, hdi, hd, h1, h2⟩, tr⟩ := fl
  obtain ⟨n1, oT, ts, hT, dT, zT⟩ := tr T rfl
  have oth : ∀ b, b ≠ T → (s.heap.update T (Obj.mapFields (·.setIfInBounds 3 (fr.elim Value.none fun f => rawInt f)))).get? b = s.heap.get? b := fun b hb => Heap.get?_update_other _ _ (Ne.symm hb)
  unfold setFlight
  refine wpAny_bind (wpAny_field he hd h1 ?_)
  simp only
  rw [if_pos (by simp)]
  refine wpAny_setField hT dT zT (h _ ⟨⟨oe, vs, (oth e (Ne.symm n1)).trans he, hcl, hdi, hd, h1, h2⟩, fun T' z => ?_⟩ (fun b o hb q => (oth b hb).trans q) (Heap.size_after_update ..))
  cases z
  exact ⟨n1, _, _, Heap.get?_update_self _ hT (Obj.isFreed_of_fields (Obj.data_mapFields dT _)), Obj.data_mapFields dT _, by simp [zT]⟩
private theorem land_ok {T : Addr} {Q : Unit → Shared → Prop} (fl : Flies s.heap e C (some T)) (h : ∀ h', Flies h' e C (some T) → (∀ b o, b ≠ T → s.heap.get? b = some o → h'.get? b = some o) → h'.objs.size = s.heap.objs.size → Q () { s with heap := h' }) :
    wpAny M A (setFlight (.ref e) none) Q E s := flight_ok fl h
private theorem note_ok {tb : Option Addr} {Q : Unit → Shared → Prop}
    (hfr : A.frames = some (env :: outer)) (hl : s.heap.FunFrames base (env :: outer)) (hf : env.frame = some L) (fl : Flies s.heap e C tb)
    (h : ∀ h' T, (s.heap.objs.size ≤ T ∨ tb = some T) → Flies h' e C (some T) → Kp (frs (env :: outer)) e tb s.heap h' → Q () { s with heap := h' }) :
    wpAny M A (noteFrame (.ref e) env) (fun _ s' => wpAny M A (setFlight (.ref e) none) Q E s') E s :=
  note1 hfr hl hf fl fun h' T hT fl' kp => land_ok (s := { s with heap := h' }) fl' fun h2 fl2 k2 z2 => h h2 T hT fl2 (by
    have tn : ∀ b o, tb ≠ some b → s.heap.get? b = some o → b ≠ T := fun b o hb q z => by
      rcases hT with hT | hT
      · rw [z] at q; exact Nat.lt_irrefl _ (Nat.lt_of_lt_of_le (Heap.lt_size q) hT)
      · exact hb (by rw [z]; exact hT)
    refine ⟨fun b o hb hbT hS q => k2 b o (tn b o hbT q) (kp.keep b o hb hbT hS q), fun b o hb hbT q => ?_, by rw [z2]; exact kp.size⟩
    obtain ⟨sl, q1⟩ := kp.slot b o hb hbT q
    exact ⟨sl, k2 b _ (tn b o hbT q) q1⟩)
end
end L3
namespace L3
open PySem PySem.Spec PyProof.Rows L2
structure Lay (P : Program) (w : World) (st : List Env) (H H' : Hp) (s s' : Shared) (a C : Addr) (tb : Option Addr) : Prop where
  os : s'.os = s.os
  bare : AllBare s'.gens
  un : Un (frs st) [] H H' s.heap s'.heap
  hok : HOk P w H' s'.heap
  na : H' a = none
  nT : ∀ T, tb = some T → H' T = none ∧ s.heap.get? T = none
  fa : s.heap.get? a = none
  fl : Flies s'.heap a C tb
  nS : ∀ T, tb = some T → ∀ b o, s.heap.get? b = some o → b < T
noncomputable def CX1 (P : Program) (w : World) : CXT := fun outer H s E e s' => ∃ (a C T : Addr) (H' : Hp), e = .ref a ∧ Lay P w outer H H' s s' a C (some T) ∧ E (.ref C) (some a) H'
noncomputable def Arr (X : Cx) (R : L2.St → XK) : Prop := ∀ (pins : List (Addr × Obj)) (σ : L2.St) (H H' : Hp) (s s' : Shared) (a C : Addr) (tb : Option Addr), Inv X pins σ H s → Lay X.prog X.w X.stack H H' s s' a C tb → R σ (.ref C) (some a) H' → X.xe (.ref a) s'
private theorem funs_of {base : Heap} {h h' : Heap} : ∀ {l : List Env}, h.FunFrames base l → (∀ b ∈ frs l, ∀ o, h.get? b = some o → ∃ sl, h'.get? b = some { o with slots := sl }) → h'.FunFrames base l
  | [], _, _ => True.intro
  | env :: r, ⟨hk, ⟨L, o, hf, hn, ho, hd⟩, hr⟩, k => by
    have hL : L ∈ frs (env :: r) := by unfold frs; rw [List.filterMap_cons, hf]; exact List.mem_cons_self
    obtain ⟨sl, e⟩ := k L hL o ho
    exact ⟨hk, ⟨L, _, hf, hn, e, hd⟩, funs_of hr fun b hb => k b (by unfold frs; rw [List.filterMap_cons, hf]; exact List.mem_cons_of_mem _ hb)⟩
section
variable {X : Cx} {pins : List (Addr × Obj)} {σ : L2.St} {H H' : Hp} {s s' : Shared} {a C : Addr} {tb : Option Addr} {P : Program} {w : World}
private theorem Lay.frN {st : List Env} (y : Lay P w st H H' s s' a C tb) {base : Heap} (fu : s.heap.FunFrames base st) (fr : ∀ b ∈ frs st, H b = none) : ∀ b ∈ frs st, H' b = none := fun b hb => by
  obtain ⟨_, o, ho, _⟩ := fu.mem hb
  exact y.un.free b o ho (fr b hb) (by simp)
private theorem Lay.funs {st : List Env} (y : Lay P w st H H' s s' a C tb) {base : Heap} (fu : s.heap.FunFrames base st) (fr : ∀ b ∈ frs st, H b = none) : s'.heap.FunFrames base st :=
  funs_of fu fun b hb o ho => y.un.slot b o ho (fr b hb) hb (by simp)
private theorem Lay.noted {st : List Env} {h' : Heap} {T : Addr} (y : Lay P w st H H' s s' a C tb) {base : Heap} (fu : s.heap.FunFrames base st) (fr : ∀ b ∈ frs st, H b = none) (hT : s'.heap.objs.size ≤ T ∨ tb = some T) (fl : Flies h' a C (some T)) (kp : Kp (frs st) a tb s'.heap h') :
    Lay P w st H H' s { s' with heap := h' } a C (some T) := by
  have no : ∀ b o, s.heap.get? b = some o → b ≠ a ∧ tb ≠ some b := fun b o q => ⟨fun z => (by rw [z, y.fa] at q; cases q), fun z => (by rw [(y.nT b z).2] at q; cases q)⟩
  have nfr := y.frN fu fr
  refine ⟨y.os, y.bare, ⟨fun b o q n hb hx => ?_, fun b o q n hb hx => ?_, y.un.free, fun b o q hx => ?_, y.un.tups, y.un.frzs, y.un.tbls⟩, fun b o q => ?_, y.na, fun T' z => ?_, y.fa, fl, fun T' z b o q => ?_⟩
  · exact kp.keep b o (no b o q).1 (no b o q).2 hb (y.un.keep b o q n hb hx)
  · obtain ⟨sl, q1⟩ := y.un.slot b o q n hb hx
    obtain ⟨sl', q2⟩ := kp.slot b _ (no b o q).1 (no b o q).2 q1
    exact ⟨sl', q2⟩
  · obtain ⟨o1, q1⟩ := y.un.there b o q hx
    obtain ⟨sl', q2⟩ := kp.slot b _ (no b o q).1 (no b o q).2 q1
    exact ⟨_, q2⟩
  · have tr : ∀ c u, H' c = some u → c ≠ a ∧ tb ≠ some c ∧ c ∉ frs st := fun c u z =>
      ⟨fun x => (by rw [x, y.na] at z; cases z), fun x => (by rw [(y.nT c x).1] at z; cases z), fun x => (by rw [nfr c x] at z; cases z)⟩
    refine (y.hok b o q).stay (fun c u hc z => ?_) (fun _ z => z) fun _ _ z => z
    have : ∃ u', H' c = some u' := by
      rcases hc with rfl | hc
      · exact ⟨o, q⟩
      · exact ⟨_, hc⟩
    obtain ⟨u', hu⟩ := this
    obtain ⟨t1, t2, t3⟩ := tr c u' hu
    exact kp.keep c u t1 t2 t3 z
  · cases z
    rcases hT with hT | hT
    · refine ⟨y.hok.fresh hT, ?_⟩
      cases q : s.heap.get? T with
      | none => rfl
      | some o =>
        obtain ⟨o', q'⟩ := y.un.there T o q (by simp)
        exact absurd (Nat.lt_of_lt_of_le (Heap.lt_size q') hT) (Nat.lt_irrefl _)
    · exact y.nT T hT
  · cases z
    rcases hT with hT | hT
    · obtain ⟨o', q'⟩ := y.un.there b o q (by simp)
      exact Nat.lt_of_lt_of_le (Heap.lt_size q') hT
    · exact y.nS T hT b o q
end
section
variable {P : Program} {w : World} {K : PySem.W.Frag} {mg : Str → Option Value} {base : Heap} {N : List Str} {qual : Str} {scope : Scope} {f : Addr} {cd : Value} {A : Around} {outer : List Env} {s₀ : Shared} {H₀ : Hp} {E : XK}
private theorem arr_cx : Arr (cxOf (CX1 P w) P w K mg base N qual scope f cd A outer s₀ H₀ E) fun _ => E := by
  intro pins σ H H' s s' a C tb I y hE
  show wpAny _ _ (leaving _ _) _ _ _
  unfold leaving
  refine wpAny_bind (note_ok I.ok.frames (y.funs I.stack I.stkFree) rfl y.fl fun h' T hT fl kp => ?_)
  have y' := y.noted I.stack I.stkFree hT fl kp
  have ab : ∀ b o, s₀.heap.get? b = some o → b ≠ s₀.heap.objs.size := fun b o q => Nat.ne_of_lt (Heap.lt_size q)
  have nin : ∀ b o, s₀.heap.get? b = some o → b ∉ frs outer → b ∉ frs (envOfC qual scope s₀.heap.objs.size f cd :: outer) := fun b o q h1 h2 => by
    have : b ∈ s₀.heap.objs.size :: frs outer := h2
    rcases List.mem_cons.mp this with z | z
    · exact ab b o q z
    · exact h1 z
  have yin : ∀ b, b ∈ frs outer → b ∈ frs (envOfC qual scope s₀.heap.objs.size f cd :: outer) := fun b h1 => by
    show b ∈ s₀.heap.objs.size :: frs outer
    exact List.mem_cons_of_mem _ h1
  have bk : ∀ b o, s₀.heap.get? b = some o → ∃ o', s.heap.get? b = some o' := fun b o q => I.base.there b o q (by simp [cxOf, cxOfY])
  refine ⟨a, C, T, H', rfl, ⟨y'.os.trans I.os, y'.bare, ⟨fun b o q n hb hx => ?_, fun b o q n hb hx => ?_, fun b o q n hx => ?_, fun b o q hx => ?_, fun b xs q => y'.un.tups b xs (I.base.tups b xs q), fun b o u q => y'.un.frzs b o u (I.base.frzs b o u q), fun b ps q => ?_⟩, y'.hok, y'.na, fun T' z => ⟨(y'.nT T' z).1, ?_⟩, ?_, y'.fl, fun T' z b o q => ?_⟩, hE⟩
  · exact y'.un.keep b o (I.base.keep b o q n hb (by simp [cxOf, cxOfY])) (I.base.free b o q n (by simp [cxOf, cxOfY])) (nin b o q hb) hx
  · obtain ⟨sl, q1⟩ := I.base.slot b o q n hb (by simp [cxOf, cxOfY])
    obtain ⟨sl', q2⟩ := y'.un.slot b _ q1 (I.base.free b o q n (by simp [cxOf, cxOfY])) (yin b hb) hx
    exact ⟨sl', q2⟩
  · obtain ⟨o', q1⟩ := bk b o q
    exact y'.un.free b o' q1 (I.base.free b o q n (by simp [cxOf, cxOfY])) hx
  · obtain ⟨o', q1⟩ := bk b o q
    exact y'.un.there b o' q1 hx
  · obtain ⟨m1, e1⟩ := I.base.tbls b ps q
    obtain ⟨m2, e2⟩ := y'.un.tbls b _ e1
    exact ⟨m1 ++ m2, by rw [e2, Array.append_assoc]⟩
  · cases q : s₀.heap.get? T' with
    | none => rfl
    | some o =>
      obtain ⟨o', q1⟩ := bk T' o q
      rw [(y'.nT T' z).2] at q1
      cases q1
  · cases q : s₀.heap.get? a with
    | none => rfl
    | some o =>
      obtain ⟨o', q1⟩ := bk a o q
      rw [y'.fa] at q1
      cases q1
  · obtain ⟨o', q1⟩ := bk b o q
    exact y'.nS T' z b o' q1
end
end L3
namespace L3
open PySem PySem.Spec PyProof.Rows L2
private theorem obj_there {P : Program} {w : World} {H : Hp} {h : Heap} {a : Addr} {o : HO} (x : ObjOk P w H h a o) : ∃ u, h.get? a = some u := by
  induction o with
  | lst xs => obtain ⟨_, _, _, _, e⟩ := x; exact ⟨_, e⟩
  | tup xs => obtain ⟨_, _, _, o, e, _⟩ := x; exact ⟨_, e⟩
  | dK kvs => obtain ⟨_, _, _, _, o, _, _, e, _⟩ := x; exact ⟨_, e⟩
  | dT kvs => obtain ⟨_, _, _, _, o, _, _, e, _⟩ := x; exact ⟨_, e⟩
  | set S n => obtain ⟨o, _, _, _, e, _⟩ := x; exact ⟨_, e⟩
  | ins C dx fs => obtain ⟨_, _, _, e, _⟩ := x; exact ⟨_, e⟩
  | own y => exact x
  | xd fs => obtain ⟨_, ⟨_, _, _, e, _⟩, _⟩ := x; exact ⟨_, e⟩
  | rng lo hi => obtain ⟨_, _, _, e⟩ := x; exact ⟨_, e⟩
  | frz ob u ih => exact ⟨_, x.1⟩
  | tbl ps => exact ⟨_, x⟩
  | met f y => exact ⟨_, x⟩
  | ext φ => exact x.2.1
private theorem hok_none {P : Program} {w : World} {H : Hp} {h : Heap} {a : Addr} (x : HOk P w H h) (e : h.get? a = none) : H a = none := by
  cases q : H a with
  | none => rfl
  | some o =>
    obtain ⟨u, z⟩ := obj_there (x a o q)
    rw [e] at z
    cases z
abbrev mroVE : List Value := [.type "ValueError", .type "Exception", .type "BaseException", .type "object"]
private theorem own_of {K : PySem.W.Frag} {h : Heap} {C : Addr} {bmB : List Value} {newId : String} (X : K.In h) (q : PySem.W.excIn K C bmB newId = true) :
    ∃ tl N nm qn bs hd sn sub ab col dd k0 k1 k2 k3 k5 mN, h.get? C = some (excClassObj nm qn C N bs tl hd sn sub ab col dd k0 k1 k2 k3 k5 newId) ∧ h.Ns N mN ∧ mN "__init__" = none ∧ OwnTail h bmB tl := by
  unfold PySem.W.excIn at q
  split at q
  · rename_i dd cd sl ho
    split at q
    · rename_i C' bm k0 k1 k2 k3 nn k5 hmr hsl
      simp only [Bool.and_eq_true, beq_iff_eq, Bool.not_eq_true'] at q
      obtain ⟨⟨⟨⟨⟨e1, e2⟩, e3⟩, e4⟩, e5⟩, e6⟩ := q
      subst e1 e2
      obtain ⟨nm, bs, mro, ns, qn, hd, sn, sub, ab, col, del⟩ := cd
      simp only at hmr e3 e5 e6
      subst hmr e3
      have z : sl = #[k0, k1, k2, k3, some (.builtin nn), k5] := by
        cases sl
        simpa using hsl
      subst z
      exact ⟨bm, ns, nm, qn, bs, hd, sn, sub, ab, col, dd, k0, k1, k2, k3, k5, _, X _ _ ho, .of_isNs (PySem.W.isNs_of_in X e5), PySem.W.nsMap_none_of_in X e5 e6, PySem.W.tail_of_in X e4⟩
    · cases q
  · cases q
section
variable {X : Cx} {R : L2.St → XK} {x : Str} {C : Addr} {e : Expr} {es : List Expr} {t : TA} {np cpos pos : Pos}
noncomputable def tRaise (C : Addr) (R : L2.St → XK) (t : TA) : TS := fun _ σ H => t σ H fun vs H1 => vs.length ≤ sizeLine ∧ ∀ a, H1 a = none → R σ (.ref C) (some a) H1
private theorem ps_raise (hg : Gl X x) (hm : X.mg x = some (.ref C)) (q : PySem.W.excIn X.K C mroVE "ValueError.__new__" = true) (ar : Arr X R) (ha : PA X (e :: es) t) (hc : X.calm = true := by rfl)
    (hdb : (x == ("__debug__" : Str)) = false := by decide) (he : starEach (e :: es) X.env = (false, eval e X.env) :: starEach es X.env := by rfl) (hpl : (backTo cpos (starEach es X.env)).any (·.1) = false := by rfl) :
    PS X (.Raise (some (.Call (.Name x np) (e :: es) [] cpos)) none pos) (tRaise C R t) := by
  intro pins s σ H D I h
  obtain ⟨tl, N, nm, qn, bs, hd, sn, sub, ab, col, dd, k0, k1, k2, k3, k5, mN, hC, hNs, hni, T⟩ := own_of I.mod.kin q
  refine wpAny_Raise_call_subU (C := C) (nm := nm) (q := qn) (N := N) (bs := bs) (bm := tl) (hdct := hd) (sn := sn) (sub := sub) (ab := ab) (col := col) (dd := dd) (k0 := k0) (k1 := k1) (k2 := k2) (k3 := k3) (k5 := k5) (mN := mN)
    F.excBase_ValueError (by decide +kernel) F.excBase_ValueError (T.hasType F.excBase_ValueError.hasBase) (I.ok.hd hc) ?_ hni (ld_glob I hg hm ⟨rfl, ?_⟩ hdb)
  · rw [he]
    show (false || (backTo cpos (starEach es X.env)).any (·.1)) = false
    rw [hpl]; rfl
  · have h2 := ha cpos pins s σ H _ I h
    rw [he] at h2 ⊢
    refine Calls.evalArgs_plain (wpAny_mono h2 (fun us s2 y => ?_) fun _ _ y => y)
    obtain ⟨vs, H1, I1, r, z, k⟩ := y
    refine ⟨rfl, by rw [← r.length]; exact z, I1.bk _ _ hC, hNs.keeps I1.bk, T.keeps I1.bk, fun h' a m => ?_⟩
    obtain ⟨tt, m1, _⟩ := m.there
    have na : H1 a = none := hok_none I1.hok m.new
    refine ar pins σ H1 H1 s2 { s2 with heap := h' } a C none I1 ⟨rfl, I1.bare, Un.kept m.keeps, I1.hok.kept m.keeps, na, fun T z => (nomatch z), m.new, ⟨⟨_, _, m1, rfl, rfl, rfl, rfl, rfl⟩, fun T z => (nomatch z)⟩, fun T z => (nomatch z)⟩ (k a na)
end
private theorem arr_passes {X : Cx} {R : L2.St → XK} (ar : Arr X R) {pins : List (Addr × Obj)} {σ : L2.St} {H : Hp} {s s' : Shared} {e : Value} (I : Inv X pins σ H s) (h : CX1 X.prog X.w X.stack H s (R σ) e s') : X.xe e s' := by
  obtain ⟨a, C, T, H', rfl, y, r⟩ := h
  exact ar pins σ H H' s s' a C (some T) I y r
section
variable {X : Cx} {R : L2.St → XK} {k : Nat} {ps : List Str} {sp : Sp} {x : Str} {p pos : Pos} {e : Expr} {es : List Expr} {t : TA}
noncomputable def tCallX (sp : Sp) (R : L2.St → XK) (t : TA) : TE := fun σ H Q => t σ H fun vs H1 => sp vs H1 Q (R σ)
private theorem pe_hX (F : Has X.prog X.w X.K X.mg X.base (CX1 X.prog X.w) k x ps sp) (hr : Room k X.A) (hg : Gl X x) (ar : Arr X R) (ha : PA X (e :: es) t) (hdb : (x == ("__debug__" : Str)) = false := by decide) (he : starEach (e :: es) X.env = (false, eval e X.env) :: starEach es X.env := by rfl) (hpl : (backTo pos (starEach es X.env)).any (·.1) = false := by rfl) :
    PE X (.Call (.Name x p) (e :: es) [] pos) (tCallX sp R t) := by
  obtain ⟨f, fd, F1, hb, kp, hm⟩ := F.ex
  intro pins s σ H Q I h
  refine wpAny_Call_Name_kw (ld_glob I hg hm ?_ hdb)
  refine PySem.W.callWith_K (h₀ := X.base) I.ok.mod.kin kp (thn (ha pos pins s σ H _ I h) fun us s1 ⟨vs, H1, I1, r, q⟩ => ⟨I1.kIn, ?_⟩) he hpl
  have r2 : Vals (vs ++ []) (us ++ []) := r.append .nil
  have hl : (us ++ []).length = ps.length := by rw [← r2.length]; exact F1.len _ _ _ _ (by rw [List.append_nil]; exact q)
  refine wpAny_call (codeAny_mono (F1.run X.A X.stack s1 H1 ⟨us, []⟩ (us ++ []) (vs ++ []) Q (R σ) hr I1.env0 (hb s1 us I1.kIn hl) r2 (by rw [List.append_nil]; exact q)) fun r s' hq => ?_)
  cases r with
  | error e => exact arr_passes ar I1 hq
  | ok fl =>
    cases fl with
    | ret u => exact I1.after hq
    | next => exact False.elim hq
    | brk => exact False.elim hq
    | cont => exact False.elim hq
end
private theorem Def.hasX {P : Program} {w : World} {K : PySem.W.Frag} {mg : Str → Option Value} {base : Heap} {k : Nat} {x : Str} {st : Stmt} {N ps : List Str} {sp : Sp} (F : Def K mg x st ps) (sc : FnScope N ps (defScope st)) (len : ∀ vs H Q E, sp vs H Q E → vs.length = ps.length)
    (hbody : ∀ (f : Addr) (cdv : Value) (A : Around) (outer : List Env) (s : Shared) (H : Hp) (vs : List V) (Q : VK) (E : XK), Room k (A.deeper (envOfC x (defScope st) s.heap.objs.size f cdv)) → sp vs H Q E →
      ∃ t, PSs (cxOf (CX1 P w) P w K mg base N x (defScope st) f cdv A outer s H E) (defBody st) t ∧ t { nx := fun _ H' => Q .non H', rt := Q } (start N vs) H) : Has P w K mg base (CX1 P w) (k + 1) x ps sp := by
  obtain ⟨f, fd, F1, b, m⟩ := F.ex
  obtain ⟨oc, od, kV, doc, pm, an, cdv, ct, osl, rfl, lk, hcd⟩ := F1.ex
  exact ⟨f, _, fn_of lk hcd sc len fun A outer s H vs Q E hr hsp => hbody f cdv A outer s H vs Q E hr hsp, b, F1.kp, m⟩
section
variable {X : Cx} {pins : List (Addr × Obj)} {σ : L2.St} {H : Hp} {s : Shared}
noncomputable abbrev Cx.tr (X : Cx) (pn : List (Addr × Obj)) (xe : Value → Shared → Prop) : Cx := { X with pn := pn, xe := xe }
noncomputable abbrev Cx.mk' (X : Cx) (e : Addr) : Cx := { X with A := X.A.mark (some (.ref e)), calm := false, xe := fun _ _ => False }
private theorem ok_tr {pn : List (Addr × Obj)} {xe : Value → Shared → Prop} (ok : X.Ok) : (Cx.tr X pn xe).Ok := ⟨ok.mod, ok.kind, ok.glob, ok.blt, ok.above, ok.inj, ok.has, ok.cab, ok.hd, ok.frames, ok.stk, ok.exf, ok.bs, ok.bsz, ok.noex, ok.exfs, ok.funs, ok.frf⟩
private theorem ok_untr {pn : List (Addr × Obj)} {xe : Value → Shared → Prop} (ok : (Cx.tr X pn xe).Ok) : X.Ok := ⟨ok.mod, ok.kind, ok.glob, ok.blt, ok.above, ok.inj, ok.has, ok.cab, ok.hd, ok.frames, ok.stk, ok.exf, ok.bs, ok.bsz, ok.noex, ok.exfs, ok.funs, ok.frf⟩
private theorem inv_tr {xe : Value → Shared → Prop} (I : Inv X pins σ H s) : Inv (Cx.tr X (X.pn ++ pins) xe) [] σ H s :=
  ⟨ok_tr I.ok, I.os, I.bare, I.base, I.loc, I.cell, I.free, I.freeC, fun p hp => I.pin p (by simpa using hp), I.hok, I.len⟩
private theorem inv_untr {xe : Value → Shared → Prop} {pins' : List (Addr × Obj)} (I : Inv (Cx.tr X (X.pn ++ pins) xe) pins' σ H s) : Inv X pins σ H s :=
  ⟨ok_untr I.ok, I.os, I.bare, I.base, I.loc, I.cell, I.free, I.freeC, fun p hp => I.pin p (List.mem_append_left _ hp), I.hok, I.len⟩
private theorem inv_mark {e : Addr} (I : Inv X pins σ H s) : Inv (Cx.mk' X e) pins σ H s :=
  ⟨⟨I.ok.mod, I.ok.kind, I.ok.glob, I.ok.blt, I.ok.above, I.ok.inj, I.ok.has, I.ok.cab, fun z => (nomatch z), I.ok.frames, I.ok.stk, I.ok.exf, I.ok.bs, I.ok.bsz, I.ok.noex, I.ok.exfs, I.ok.funs, I.ok.frf⟩, I.os, I.bare, I.base, I.loc, I.cell, I.free, I.freeC, I.pin, I.hok, I.len⟩
private theorem inv_unmark {e : Addr} (hd : X.calm = true → X.A.handled = none) (I : Inv (Cx.mk' X e) pins σ H s) : Inv X pins σ H s :=
  ⟨⟨I.ok.mod, I.ok.kind, I.ok.glob, I.ok.blt, I.ok.above, I.ok.inj, I.ok.has, I.ok.cab, hd, I.ok.frames, I.ok.stk, I.ok.exf, I.ok.bs, I.ok.bsz, I.ok.noex, I.ok.exfs, I.ok.funs, I.ok.frf⟩, I.os, I.bare, I.base, I.loc, I.cell, I.free, I.freeC, I.pin, I.hok, I.len⟩
noncomputable def IsX (a C : Addr) : Heap → Prop := fun h => ∃ ox, PySem.W.InstAt h a ox C none ∧ ∃ vs, ox.data = .fields vs ∧ vs[2]? = some .none
private theorem isX_ok {P : Program} {w : World} {H : Hp} {h : Heap} {a C : Addr} {tb : Option Addr} (fl : Flies h a C tb) : ObjOk P w H h a (.ext (IsX a C)) := by
  obtain ⟨oe, vs, he, hc, hd, hf, _, h2⟩ := fl.ob
  refine ⟨⟨oe, ⟨he, hc, ?_, ?_⟩, vs, hf, h2⟩, ⟨oe, he⟩, fun h1 h2 q k => ?_⟩
  · unfold PySem.W.notCls; rw [hf]
  · rw [hd]; trivial
  · obtain ⟨ox, ⟨q1, q2, q3, q4⟩, q5⟩ := q
    refine ⟨ox, ⟨k _ q1, q2, q3, ?_⟩, q5⟩
    cases z : ox.dict with
    | none => trivial
    | some y => rw [z] at q4; exact q4.elim
private theorem inv_land {H' : Hp} {s' : Shared} {a C T : Addr} (I : Inv X pins σ H s) (y : Lay X.prog X.w X.stack H H' s s' a C (some T)) : Inv X pins σ (upd H' a (.ext (IsX a C))) s' := by
  have nb : ∀ b o, s.heap.get? b = some o → b ≠ a := fun b o q z => by rw [z, y.fa] at q; cases q
  have nh : ∀ b u, H' b = some u → b ≠ a := fun b u q z => by rw [z, y.na] at q; cases q
  have un : Un (frs X.stack) [] H (upd H' a (.ext (IsX a C))) s.heap s'.heap :=
    ⟨y.un.keep, y.un.slot, fun b o q n hx => by rw [upd_ne (nb b o q)]; exact y.un.free b o q n hx, y.un.there, fun b xs q => by have z := y.un.tups b xs q; rw [upd_ne (nh b _ z)]; exact z,
     fun b o u q => by have z := y.un.frzs b o u q; rw [upd_ne (nh b _ z)]; exact z, fun b ps q => by obtain ⟨m, z⟩ := y.un.tbls b ps q; exact ⟨m, by rw [upd_ne (nh b _ z)]; exact z⟩⟩
  have hok : HOk X.prog X.w (upd H' a (.ext (IsX a C))) s'.heap := fun b o q => by
    by_cases z : b = a
    · subst z
      rw [upd_same] at q
      cases q
      exact isX_ok y.fl
    · rw [upd_ne z] at q
      exact (y.hok b o q).stay (fun _ _ _ e => e) (fun c e => by rw [upd_ne (nh c _ e)]; exact e) fun c xs e => by rw [upd_ne (nh c _ e)]; exact e
  have os := y.os
  have bare := y.bare
  clear y
  obtain ⟨hh, g, d, t, os'⟩ := s'
  obtain rfl : os' = s.os := os
  exact I.call (h' := hh) (g' := g) (d' := d) (t' := t) (ch := []) un hok bare fun b z => absurd z (by simp)
end
end L3
namespace L3
open PySem PySem.Spec PyProof.Rows L2
section
variable {X : Cx} {pins : List (Addr × Obj)} {σ : L2.St} {H : Hp} {s : Shared}
private theorem inv_gone {i : Nat} {n : Str} {m : Str → Option Value} {v : Option Value} {h' : Heap} {t : Nat} (I : Inv X pins σ H s) (hN : X.N.Nodup) (hi : X.N[i]? = some n) (hk : X.env.scope.names.lookup n = some .local)
    (hm : s.heap.Ns X.env.locals m ∧ ∀ (i : Nat) (x : Str) (v : V), X.N[i]? = some x → σ[i]? = some (some v) → Vis X.env.scope x → ∃ u, RelV v u ∧ Look X.env s.heap m x u)
    (hn : h'.Ns X.env.locals (fun x => if x = n then v else m x)) (hs : Heap.SameBut X.env.locals s.heap h') : Inv X pins (σ.set i none) H { s with heap := h', toks := t } := by
  obtain ⟨hn0, hl⟩ := hm
  obtain ⟨oL, _, _, hoL, _⟩ := id hn0
  have hiσ : i < σ.length := by rw [I.len]; exact (List.getElem?_eq_some_iff.mp hi).1
  refine ⟨I.ok, I.os, I.bare, ⟨fun b o e n hb hx => ?_, fun b o e n hb hx => ?_, I.base.free, fun b o e hx => ?_, I.base.tups, I.base.frzs, I.base.tbls⟩, ⟨_, hn, fun j y v' e1 e2 e3 => ?_⟩, fun y c e => ?_, I.free, I.freeC, fun p hp => ?_, fun b ob e => ?_, by simpa using I.len⟩
  · exact (hs.2 b (Nat.ne_of_lt (Nat.lt_of_lt_of_le (Heap.lt_size e) I.ok.above))).trans (I.base.keep b o e n hb hx)
  · obtain ⟨sl, e1⟩ := I.base.slot b o e n hb hx
    exact ⟨sl, (hs.2 b (Nat.ne_of_lt (Nat.lt_of_lt_of_le (Heap.lt_size e) I.ok.above))).trans e1⟩
  · obtain ⟨o', e1⟩ := I.base.there b o e hx
    exact ⟨o', (hs.2 b (Nat.ne_of_lt (Nat.lt_of_lt_of_le (Heap.lt_size e) I.ok.above))).trans e1⟩
  · by_cases hj : j = i
    · subst hj
      rw [List.getElem?_set_self hiσ] at e2
      cases e2
    · rw [List.getElem?_set_ne (Ne.symm hj)] at e2
      obtain ⟨u', r', q⟩ := hl j y v' e1 e2 e3
      refine ⟨u', r', ?_⟩
      rcases q with ⟨k, e⟩ | ⟨k, c, e, z⟩
      · refine .inl ⟨k, ?_⟩
        have : y ≠ n := fun e => hj (nodup_ix hN e1 (e ▸ hi))
        simp [this, e]
      · exact .inr ⟨k, c, e, z.sameBut hs (I.cne y c e)⟩
  · obtain ⟨v', z⟩ := I.cell y c e
    exact ⟨v', z.sameBut hs (I.cne y c e)⟩
  · obtain ⟨e, n', ne, nf, d⟩ := I.pin p hp
    exact ⟨(hs.2 _ ne).trans e, n', ne, nf, d⟩
  · refine (I.hok b ob e).stay (fun c w' hc q => (hs.2 c ?_).trans q) (fun _ q => q) fun _ _ q => q
    have fr := I.free
    rintro rfl
    rcases hc with rfl | hc
    · rw [fr] at e; cases e
    · rw [fr] at hc; cases hc
noncomputable def afterX (D : Ends) (i : Nat) : Ends := ⟨fun σ H => D.nx (σ.set i none) H, D.rt, fun σ H => D.bk (σ.set i none) H, fun σ H => D.ct (σ.set i none) H⟩
noncomputable def trX (K : PySem.W.Frag) (S : Addr) (i : Nat) (ts : Addr → TS) (D : Ends) : L2.St → XK := fun σ' c oa H' => ∃ a C, c = .ref C ∧ oa = some a ∧ PySem.W.exmOne K (.ref C) (.ref S) = some true ∧ ts a (afterX D i) (σ'.set i (some (.ref a))) (upd H' a (.ext (IsX a C)))
noncomputable def tTry (K : PySem.W.Frag) (S : Addr) (i : Nat) (tb : (L2.St → XK) → TS) (ts : Addr → TS) : TS := fun D σ H => tb (trX K S i ts D) D σ H
private theorem ps_try {S : Addr} {i : Nat} {x n : Str} {body suite : List Stmt} {b0 : Stmt} {tb : (L2.St → XK) → TS} {ts : Addr → TS} {np hpos pos : Pos} (hN : X.N.Nodup) (hi : X.N[i]? = some n) (hk : X.env.scope.names.lookup n = some .local) (hg : Gl X x) (hm : X.mg x = some (.ref S))
    (hb : ∀ pn xe R, Arr (Cx.tr X pn xe) R → PSs (Cx.tr X pn xe) body (tb R)) (hs : ∀ a, PSs (Cx.mk' X a) (b0 :: suite) (ts a)) (hst : X.stack = X.env :: X.outer := by rfl) (hf : X.env.frame = some X.env.locals := by rfl)
    (hdb : (x == ("__debug__" : Str)) = false := by decide) :
    PS X (.Try body [.ExceptHandler (some (.Name x np)) (some n) (b0 :: suite) hpos] [] [] pos) (tTry X.K S i tb ts) := by
  intro pins s σ H D I h
  let XE : Value → Shared → Prop := fun e s' => ∃ (σ' : L2.St) (H0 H' : Hp) (s0 : Shared) (a C : Addr) (tb : Option Addr), e = .ref a ∧ Inv X pins σ' H0 s0 ∧ Lay X.prog X.w X.stack H0 H' s0 s' a C tb ∧ trX X.K S i ts D σ' (.ref C) (some a) H'
  have ar : Arr (Cx.tr X (X.pn ++ pins) XE) (trX X.K S i ts D) := fun pins' σ' H0 H' s0 s' a C tb I' y r => ⟨σ', H0, H', s0, a, C, tb, rfl, inv_untr I', y, r⟩
  refine wpAny_Try_except (wpAny_mono (hb (X.pn ++ pins) XE _ ar [] s σ H D (inv_tr I) h) (fun f s1 q => ?_) fun e s1 q => ?_)
  · cases f with
    | next =>
      obtain ⟨σ', H', I', q⟩ := q
      exact wpAny_execs_nil ⟨σ', H', inv_untr I', q⟩
    | brk => obtain ⟨σ', H', I', q⟩ := q; exact ⟨σ', H', inv_untr I', q⟩
    | cont => obtain ⟨σ', H', I', q⟩ := q; exact ⟨σ', H', inv_untr I', q⟩
    | ret u => obtain ⟨v, σ', H', I', r, q⟩ := q; exact ⟨v, σ', H', inv_untr I', r, q⟩
  obtain ⟨σ', H0, H', s0, a, C, tb', rfl, I0, y, a', C', eC, ea, hx, q⟩ := q
  cases eC
  cases ea
  have fu := I0.stack
  have sf := I0.stkFree
  have fr := I0.ok.frames
  have yf := y.funs fu sf
  rw [hst] at fr yf
  refine note_ok fr yf hf y.fl fun h' T hT fl kp => ?_
  rw [← hst] at kp
  have y' := y.noted fu sf hT fl kp
  have J := inv_land I0 y'
  refine wpAny_handleBy_cons (codeAny_handlers_test ?_) (by intro z; cases z)
  refine ld_glob (X := Cx.mk' X a) (inv_mark J) hg hm ?_ hdb
  obtain ⟨ox, ix⟩ := (J.hok a _ upd_same).1
  refine PySem.W.exm_one J.kIn ix.1.type hx _ _ _ _ (fun _ _ z => z) ?_
  refine codeAny_handlers_suite_as ?_
  refine land_ok fl fun h2 fl2 k2 z2 => ?_
  have nT := (y'.nT T rfl).2
  have n0 : ∀ b o, s0.heap.get? b = some o → b ≠ T := fun b o z e => by rw [e, nT] at z; cases z
  obtain ⟨m0, ⟨oL, _, _, hoL, _⟩, _⟩ := id I0.loc
  have hTs : X.s₀.heap.objs.size ≤ T := Nat.le_trans I0.ok.above (Nat.le_of_lt (y'.nS T rfl _ _ hoL))
  have J2 : Inv X pins σ' (upd H' a (.ext (IsX a C))) { s1 with heap := h2 } := by
    refine Inv.turned (s := { s1 with heap := h' }) (h' := h2) (it := T) (t' := s1.toks) J (fun b o hb z => k2 b o hb z) ?_ (fun e => n0 _ _ hoL e.symm) (.inr hTs) (fun x c e z => ?_) fun p hp z => ?_
    · rw [upd_ne (fl.tr T rfl).1]; exact (y'.nT T rfl).1
    · obtain ⟨v, o, ho, _⟩ := I0.cell x c e
      exact n0 _ _ ho z
    · exact n0 _ _ (I0.pin p hp).1 z
  refine store_ok J2 hN hi (.inl hk) (show RelV (.ref a) (.ref a) from rfl) (fun s2 J3 => ?_) (.inr hk)
  refine wpAny_mono (hs a pins s2 _ _ _ (inv_mark J3) q) (fun f s3 z => ?_) fun _ _ z => z.elim
  have hcl : (X.env.scope.kind == .class || (X.env.scope.kind == .module && X.env.locals != X.env.globals)) = false := by rw [I0.ok.kind]; rfl
  have go : ∀ {σ3 : L2.St} {H3 : Hp} {Q : Shared → Prop}, Inv (Cx.mk' X a) pins σ3 H3 s3 → (∀ s4, Inv X pins (σ3.set i none) H3 s4 → Q s4) →
      wpAny (model X.prog X.w) X.A (do bindName X.env n .none; unbindBehindTheSuite X.env n hpos) (fun _ s4 => Q s4) X.xe s3 := fun J4 hQ => by
    have J5 := inv_unmark I0.ok.hd J4
    obtain ⟨m, hn, hl⟩ := id J5.loc
    exact wpAny_nameGoes_keeps hk hn hcl fun h4 v hn4 hs4 => hQ _ (inv_gone J5 hN hi hk ⟨hn, hl⟩ hn4 hs4)
  cases f with
  | next =>
    obtain ⟨σ3, H3, J4, z⟩ := z
    exact go J4 fun s4 J5 => ⟨_, _, J5, z⟩
  | brk =>
    obtain ⟨σ3, H3, J4, z⟩ := z
    exact go J4 fun s4 J5 => ⟨_, _, J5, z⟩
  | cont =>
    obtain ⟨σ3, H3, J4, z⟩ := z
    exact go J4 fun s4 J5 => ⟨_, _, J5, z⟩
  | ret u =>
    obtain ⟨v, σ3, H3, J4, r, z⟩ := z
    exact go J4 fun s4 J5 => ⟨v, _, _, J5, r, z⟩
end
noncomputable def cOf (mg : Str → Option Value) (x : Str) : Addr := match mg x with
  | some (.ref a) => a
  | _ => 0
private theorem cOf_of {mg : Str → Option Value} {x : Str} {C : Addr} (h : mg x = some (.ref C)) : cOf mg x = C := by unfold cOf; rw [h]
structure ExC (K : PySem.W.Frag) (mg : Str → Option Value) (x : Str) : Prop where
  m : mg x = some (.ref (cOf mg x))
  q : PySem.W.excIn K (cOf mg x) mroVE "ValueError.__new__" = true
  c : XCls K (cOf mg x)
private theorem ExC.of {K : PySem.W.Frag} {mg : Str → Option Value} {x : Str} {C : Addr} (m : mg x = some (.ref C)) (q : PySem.W.excIn K C mroVE "ValueError.__new__" = true) (c : XCls K C) : ExC K mg x := by
  have e := cOf_of m
  refine ⟨?_, ?_, ?_⟩
  · rw [e]; exact m
  · rw [e]; exact q
  · rw [e]; exact c
end L3
set_option Elab.async false
set_option linter.all false
set_option maxRecDepth 100000
namespace L3
open PySem PySem.Spec PyProof.Rows L2 PySem.SeqAt
noncomputable instance : DecidableEq D := fun a b => Classical.propDecidable (a = b)
mutual
noncomputable def hashD : D → Int
  | .int i => hashInt i
  | .tup ds => reduceHash (Builtin.Tuple.tupleHashOf (hashDs ds))
  | .non => 0
  | .bl _ => 0
  | .str _ => 0
  | .lst _ => 0
noncomputable def hashDs : List D → List Int
  | [] => []
  | d :: ds => hashD d :: hashDs ds
end
section
variable {prog : Program} {w : World}
end
section
variable {prog : Program} {w : World} {K : Type} [DecidableEq K] {knd : HeapKind prog w K}
end
section
variable {prog : Program} {w : World} {A : Around} {E : Value → Shared → Prop} {s : Shared}
end
noncomputable def entD (x : D × Addr × Value) : DictEntry := ⟨hashD x.1, .ref x.2.1, x.2.2⟩
noncomputable def IsDT (p : Addr) (xs : List (D × Addr × Value)) : Heap → Prop := fun h => (p == sysModules) = false ∧ xs.length ≤ sizeLine ∧ (xs.map (·.1)).Nodup ∧ ∃ o es ep, h.get? p = some o ∧ o.ExactDict ∧ o.data = .dict es ep ∧ es.toList = xs.map entD
section
variable {X : Cx} {o e f : Expr} {es : List Expr} {td : TE} {ta : TA} {apos cpos pos : Pos}
end
end L3
set_option Elab.async false
set_option linter.all false
set_option maxRecDepth 100000
namespace L3
open PySem PySem.Spec PyProof.Rows L2
section
variable {X : Cx} {tg : Expr}
end
section
variable {prog : Program} {w : World} {A : Around} {E : Value → Shared → Prop} {s : Shared}
end
section
variable {X : Cx} {a : Expr} {ta : TA} {p p2 pos pos2 : Pos}
end
end L3
set_option Elab.async false
set_option linter.all false
set_option maxRecDepth 100000
namespace L3
open PySem PySem.Spec PySem.Calls PyProof.Rows L2
section
variable {P : Program} {w : World} {K : PySem.W.Frag} {mg : Str → Option Value} {base : Heap} {A : Around} {outer : List Env} {s : Shared} {H : Hp} {x y qual : Str} {scope : Scope} {f cy c' : Addr} {params : Arguments} {body : Expr} {pm ct u ux : Value} {vx vy : V} {Q : VK}
end
section
variable {X : Cx} {pins : List (Addr × Obj)} {σ : L2.St} {H : Hp} {s : Shared} {l q It S : Addr} {vs : List V} {R : Result → Shared → Prop}
end
noncomputable def CodeX (c : Addr) (q : Str) : Heap → Prop := fun h => h.CodeRec (.ref c) q
noncomputable def TabOk (F : Hp) (pos : Pos) (q : Str) (ps : Array Value) : Prop := TriplesOk ps.toList ∧ (codeAmong pos ps.toList = none ∨ ∃ c, codeAmong pos ps.toList = some (.ref c) ∧ F c = some (.ext (CodeX c q)))
section
variable {X : Cx} {pins : List (Addr × Obj)} {σ : L2.St} {H : Hp} {s : Shared} {c P cy : Addr} {params : Arguments} {body : Expr} {scope : Scope} {pos : Pos} {y : Str} {ps : Array Value} {Q : Value → Shared → Prop} {E : Value → Shared → Prop}
end
section
variable {X : Cx} {e : Expr} {te : TE} {i : Nat} {x y fld : Str} {c P cy C : Addr} {params : Arguments} {scope : Scope} {p pos lpos kp1 kp2 np p1 p2 p3 p4 : Pos}
end
end L3
set_option Elab.async false
set_option linter.all false
set_option maxRecDepth 100000
namespace L4
open PySem PySem.Spec PyProof.Rows L2 L3
private theorem ex5 {α β γ δ ε : Type} {A B C : α → β → γ → δ → ε → Prop} {R : Prop} (h : ∃ z f r m p, A z f r m p ∧ B z f r m p ∧ C z f r m p) (k : ∀ z f r m p, A z f r m p → B z f r m p → C z f r m p → R) : R :=
  h.elim fun z h => h.elim fun f h => h.elim fun r h => h.elim fun m h => h.elim fun p h => k z f r m p h.1 h.2.1 h.2.2
private theorem ex6 {α β γ δ ε ζ : Type} {A B C G : α → β → γ → δ → ε → ζ → Prop} {R : Prop} (h : ∃ z f r m d p, A z f r m d p ∧ B z f r m d p ∧ C z f r m d p ∧ G z f r m d p) (k : ∀ z f r m d p, A z f r m d p → B z f r m d p → C z f r m d p → G z f r m d p → R) : R :=
  h.elim fun z h => h.elim fun f h => h.elim fun r h => h.elim fun m h => h.elim fun d h => h.elim fun p h => k z f r m d p h.1 h.2.1 h.2.2.1 h.2.2.2
mutual
noncomputable def Rp (K : PySem.W.Frag) (F : Hp) : D → V → Prop
  | .non, v => v = .non
  | .bl b, v => v = .bl b
  | .int i, v => v = .int i
  | .str x, v => v = .str x
  | .tup ds, v => ∃ a vs, v = .ref a ∧ SqT K F a vs ∧ Rps K F ds vs
  | .lst ds, v => ∃ a vs, v = .ref a ∧ Rd F a (.lst vs) ∧ Rps K F ds vs
noncomputable def Rps (K : PySem.W.Frag) (F : Hp) : List D → List V → Prop
  | [], vs => vs = []
  | d :: ds, vs => ∃ v r, vs = v :: r ∧ Rp K F d v ∧ Rps K F ds r
end
section
variable {K : PySem.W.Frag} {F F' H : Hp}
private theorem rd_same {a : Addr} {u : HO} (e : Same F F') (h : Rd F a u) : Rd F' a u := by
  rcases h with h | ⟨o, h⟩
  · exact .inl (e _ _ h)
  · exact .inr ⟨o, e _ _ h⟩
private theorem sqT_same {a : Addr} {vs : List V} (e : Same F F') (h : SqT K F a vs) : SqT K F' a vs := h.imp (rd_same e) id
mutual
private theorem Rp.same (e : Same F F') : ∀ {d : D} {v : V}, Rp K F d v → Rp K F' d v
  | .non, _, h => by rw [Rp] at *; exact h
  | .bl _, _, h => by rw [Rp] at *; exact h
  | .int _, _, h => by rw [Rp] at *; exact h
  | .str _, _, h => by rw [Rp] at *; exact h
  | .tup ds, _, h => by
    rw [Rp] at *
    obtain ⟨a, vs, h1, h2, h3⟩ := h
    exact ⟨a, vs, h1, sqT_same e h2, Rps.same e h3⟩
  | .lst ds, _, h => by
    rw [Rp] at *
    obtain ⟨a, vs, h1, h2, h3⟩ := h
    exact ⟨a, vs, h1, rd_same e h2, Rps.same e h3⟩
private theorem Rps.same (e : Same F F') : ∀ {d : List D} {v : List V}, Rps K F d v → Rps K F' d v
  | [], _, h => by rw [Rps] at *; exact h
  | d :: ds, _, h => by
    rw [Rps] at *
    obtain ⟨v, r, h1, h2, h3⟩ := h
    exact ⟨v, r, h1, Rp.same e h2, Rps.same e h3⟩
end
private theorem Rps.nil : Rps K F [] [] := by rw [Rps]
private theorem Rps.cons {d : D} {v : V} {ds : List D} {vs : List V} (h : Rp K F d v) (k : Rps K F ds vs) : Rps K F (d :: ds) (v :: vs) := by
  rw [Rps]; exact ⟨v, vs, rfl, h, k⟩
private theorem Rps.length : ∀ {d : List D} {v : List V}, Rps K F d v → d.length = v.length
  | [], v, h => by rw [Rps] at h; subst h; rfl
  | d :: ds, v, h => by
    rw [Rps] at h
    obtain ⟨v, r, rfl, h2, h3⟩ := h
    rw [List.length_cons, List.length_cons, Rps.length h3]
private theorem Rps.get : ∀ {d : List D} {v : List V} {i : Nat} {x : D}, Rps K F d v → d[i]? = some x → ∃ y, v[i]? = some y ∧ Rp K F x y
  | [], v, i, x, h, e => by simp at e
  | d :: ds, v, 0, x, h, e => by
    rw [Rps] at h
    obtain ⟨v, r, rfl, h2, h3⟩ := h
    simp at e; subst e
    exact ⟨v, rfl, h2⟩
  | d :: ds, v, i + 1, x, h, e => by
    rw [Rps] at h
    obtain ⟨v, r, rfl, h2, h3⟩ := h
    obtain ⟨y, h4, h5⟩ := Rps.get (i := i) (x := x) h3 (by simpa using e)
    exact ⟨y, by simpa using h4, h5⟩
private theorem Rps.append : ∀ {d e : List D} {v w : List V}, Rps K F d v → Rps K F e w → Rps K F (d ++ e) (v ++ w)
  | [], e, v, w, h, k => by rw [Rps] at h; subst h; exact k
  | d :: ds, e, v, w, h, k => by
    rw [Rps] at h
    obtain ⟨v, r, rfl, h2, h3⟩ := h
    rw [List.cons_append, Rps]
    exact ⟨v, r ++ w, rfl, h2, Rps.append h3 k⟩
private theorem Rps.take : ∀ (n : Nat) {d : List D} {v : List V}, Rps K F d v → Rps K F (d.take n) (v.take n)
  | 0, _, _, _ => .nil
  | n + 1, [], v, h => by rw [Rps] at h; subst h; exact .nil
  | n + 1, d :: ds, v, h => by
    rw [Rps] at h
    obtain ⟨v, r, rfl, h2, h3⟩ := h
    exact .cons h2 (Rps.take n h3)
private theorem Rps.drop : ∀ (n : Nat) {d : List D} {v : List V}, Rps K F d v → Rps K F (d.drop n) (v.drop n)
  | 0, _, _, h => h
  | n + 1, [], v, h => by rw [Rps] at h; subst h; exact .nil
  | n + 1, d :: ds, v, h => by
    rw [Rps] at h
    obtain ⟨v, r, rfl, h2, h3⟩ := h
    exact Rps.drop n h3
end
inductive U where
  | d (x : D) | adr (p : Addr) | tup (us : List U) | ins (C : Addr) (ns : List Str) (ds : List D) | hz (u : HO)
mutual
noncomputable def RU (K : PySem.W.Frag) (F : Hp) : U → V → Prop
  | .d x, v => Rp K F x v
  | .adr p, v => v = .ref p
  | .ins C ns ds, v => ∃ a dx vs, v = .ref a ∧ F a = some (.ins C dx (ns.zip vs)) ∧ Rps K F ds vs
  | .hz u, v => ∃ a o, v = .ref a ∧ F a = some (.frz o u)
  | .tup us, v => ∃ a vs, v = .ref a ∧ SqT K F a vs ∧ RUs K F us vs
noncomputable def RUs (K : PySem.W.Frag) (F : Hp) : List U → List V → Prop
  | [], vs => vs = []
  | u :: us, vs => ∃ v r, vs = v :: r ∧ RU K F u v ∧ RUs K F us r
end
section
variable {K : PySem.W.Frag} {F F' H : Hp}
mutual
private theorem RU.same (e : Same F F') : ∀ {u : U} {v : V}, RU K F u v → RU K F' u v
  | .d _, _, h => by rw [RU] at *; exact Rp.same e h
  | .adr _, _, h => by rw [RU] at *; exact h
  | .ins _ _ _, _, h => by
    rw [RU] at *
    obtain ⟨a, dx, vs, h1, h2, h3⟩ := h
    exact ⟨a, dx, vs, h1, e _ _ h2, Rps.same e h3⟩
  | .hz _, _, h => by
    rw [RU] at *
    obtain ⟨a, o, h1, h2⟩ := h
    exact ⟨a, o, h1, e _ _ h2⟩
  | .tup us, _, h => by
    rw [RU] at *
    obtain ⟨a, vs, h1, h2, h3⟩ := h
    exact ⟨a, vs, h1, sqT_same e h2, RUs.same e h3⟩
private theorem RUs.same (e : Same F F') : ∀ {u : List U} {v : List V}, RUs K F u v → RUs K F' u v
  | [], _, h => by rw [RUs] at *; exact h
  | u :: us, _, h => by
    rw [RUs] at *
    obtain ⟨v, r, h1, h2, h3⟩ := h
    exact ⟨v, r, h1, RU.same e h2, RUs.same e h3⟩
end
private theorem RUs.nil : RUs K F [] [] := by rw [RUs]
private theorem RUs.cons {u : U} {v : V} {us : List U} {vs : List V} (h : RU K F u v) (k : RUs K F us vs) : RUs K F (u :: us) (v :: vs) := by
  rw [RUs]; exact ⟨v, vs, rfl, h, k⟩
private theorem RUs.ofD : ∀ {ds : List D} {vs : List V}, Rps K F ds vs → RUs K F (ds.map U.d) vs
  | [], vs, h => by rw [Rps] at h; subst h; exact .nil
  | d :: ds, vs, h => by
    rw [Rps] at h
    obtain ⟨v, r, rfl, h2, h3⟩ := h
    exact .cons (by rw [RU]; exact h2) (RUs.ofD h3)
end
section
variable {X : Cx} {pins : List (Addr × Obj)} {σ : L2.St} {H : Hp} {s : Shared}
mutual
private theorem Rp.inj (I : Inv X pins σ H s) : ∀ {d e : D} {v : V}, Rp X.K H d v → Rp X.K H e v → d = e
  | .non, e, v, h, k => by
    rw [Rp] at h; subst h
    cases e <;> rw [Rp] at k <;> first | (obtain ⟨_, _, k, _⟩ := k; cases k; done) | rfl | (cases k; done)
  | .bl _, e, v, h, k => by
    rw [Rp] at h; subst h
    cases e <;> rw [Rp] at k <;> first | (obtain ⟨_, _, k, _⟩ := k; cases k; done) | (cases k; rfl) | (cases k; done)
  | .int _, e, v, h, k => by
    rw [Rp] at h; subst h
    cases e <;> rw [Rp] at k <;> first | (obtain ⟨_, _, k, _⟩ := k; cases k; done) | (cases k; rfl) | (cases k; done)
  | .str _, e, v, h, k => by
    rw [Rp] at h; subst h
    cases e <;> rw [Rp] at k <;> first | (obtain ⟨_, _, k, _⟩ := k; cases k; done) | (cases k; rfl) | (cases k; done)
  | .tup ds, e, v, h, k => by
    rw [Rp] at h
    obtain ⟨a, vs, rfl, h2, h3⟩ := h
    cases e <;> rw [Rp] at k
    case tup es =>
      obtain ⟨b, ws, e1, k2, k3⟩ := k
      cases e1
      have := I.tuple_inj h2 k2
      subst this
      rw [Rps.inj I h3 k3]
    case lst es =>
      obtain ⟨b, ws, e1, k2, k3⟩ := k
      cases e1
      obtain ⟨_, _, ⟨o, q1, q2, _⟩, _⟩ := I.tuple h2
      obtain ⟨_, _, ⟨o', n', p1, p2, _⟩, _⟩ := I.list (.inl k2)
      rw [q1] at p1
      cases p1
      rw [q2] at p2
      simp at p2
    all_goals cases k
  | .lst ds, e, v, h, k => by
    rw [Rp] at h
    obtain ⟨a, vs, rfl, h2, h3⟩ := h
    cases e <;> rw [Rp] at k
    case lst es =>
      obtain ⟨b, ws, e1, k2, k3⟩ := k
      cases e1
      have := I.list_inj (.inl h2) (.inl k2)
      subst this
      rw [Rps.inj I h3 k3]
    case tup es =>
      obtain ⟨b, ws, e1, k2, k3⟩ := k
      cases e1
      obtain ⟨_, _, ⟨o, q1, q2, _⟩, _⟩ := I.tuple k2
      obtain ⟨_, _, ⟨o', n', p1, p2, _⟩, _⟩ := I.list (.inl h2)
      rw [q1] at p1
      cases p1
      rw [q2] at p2
      simp at p2
    all_goals cases k
private theorem Rps.inj (I : Inv X pins σ H s) : ∀ {d e : List D} {v : List V}, Rps X.K H d v → Rps X.K H e v → d = e
  | [], e, v, h, k => by
    rw [Rps] at h; subst h
    cases e with
    | nil => rfl
    | cons => rw [Rps] at k; obtain ⟨_, _, k, _⟩ := k; cases k
  | d :: ds, e, v, h, k => by
    rw [Rps] at h
    obtain ⟨v, r, rfl, h2, h3⟩ := h
    cases e with
    | nil => rw [Rps] at k; cases k
    | cons e es =>
      rw [Rps] at k
      obtain ⟨v', r', k1, k2, k3⟩ := k
      cases k1
      rw [Rp.inj I h2 k2, Rps.inj I h3 k3]
end
private theorem rp_list {a : Addr} {vs : List V} (I : Inv X pins σ H s) (h : Rd H a (.lst vs)) : ∃ its : List Value, Vals vs its ∧ s.heap.IsList a its.toArray := by
  obtain ⟨its, r, p, _⟩ := I.list (.inl h)
  exact ⟨its, r, p.isList⟩
private theorem rp_tuple {a : Addr} {vs : List V} (I : Inv X pins σ H s) (h : SqT X.K H a vs) : ∃ its : List Value, Vals vs its ∧ s.heap.IsTuple a its.toArray := by
  obtain ⟨its, r, p, _⟩ := I.tuple h
  exact ⟨its, r, p⟩
open SeqAt
private theorem eq_items4 {A : Around} {ds es : List D} {vs ws : List V} {us ts : List Value} (hd : Rps X.K H ds vs) (he : Rps X.K H es ws) (r : Vals vs us) (q : Vals ws ts)
    (ih : ∀ (i : Nat) (d e : D), ds[i]? = some d → es[i]? = some e → ∀ x y u v, Rp X.K H d x → Rp X.K H e y → RelV x u → RelV y v → EqAt A s u v (peq d e)) :
    ∀ j (h1 : j < us.toArray.size) (h2 : j < ts.toArray.size), EqAt A s us.toArray[j] ts.toArray[j] (peq (ds.getD j .non) (es.getD j .non)) := by
  intro j h1 h2
  have l1 : ds.length = us.length := hd.length.trans r.length
  have l2 : es.length = ts.length := he.length.trans q.length
  have h1' : j < ds.length := by rw [l1]; simpa using h1
  have h2' : j < es.length := by rw [l2]; simpa using h2
  have e1 : ds[j]? = some ds[j] := List.getElem?_eq_getElem h1'
  have e2 : es[j]? = some es[j] := List.getElem?_eq_getElem h2'
  obtain ⟨x, hx, rx⟩ := hd.get e1
  obtain ⟨y, hy, ry⟩ := he.get e2
  obtain ⟨u, hu, ru⟩ := r.get hx
  obtain ⟨v, hv, rv⟩ := q.get hy
  have g1 : us.toArray[j] = u := by
    have : us[j]? = some us[j] := List.getElem?_eq_getElem (by simpa using h1)
    rw [this] at hu
    simpa using hu
  have g2 : ts.toArray[j] = v := by
    have : ts[j]? = some ts[j] := List.getElem?_eq_getElem (by simpa using h2)
    rw [this] at hv
    simpa using hv
  rw [g1, g2, List.getD_eq_getElem?_getD, List.getD_eq_getElem?_getD, e1, e2]
  exact ih j _ _ e1 e2 x y u v rx ry ru rv
private theorem deep4 {n : Nat} (I : Inv X pins σ H s) : ∀ (A : Around) (d e : D) (x y : V) (u v : Value), dep d ≤ n → A.units + n < cLine → Rp X.K H d x → Rp X.K H e y → RelV x u → RelV y v →
    EqAt A s u v (peq d e) ∧ RcAt A s u v (peq d e) ∧ RcNeAt A s u v (!peq d e) := by
  induction n with
  | zero =>
    intro A d e x y u v hn hu hd he ru rv
    cases d with
    | tup ds => rw [dep] at hn; omega
    | lst ds => rw [dep] at hn; omega
    | non =>
      rw [Rp] at hd; subst hd; cases ru
      cases e with
      | non => rw [Rp] at he; subst he; cases rv; simp only [peq]; exact ⟨EqAt.same _, RcAt.none_none, RcNeAt.none_none⟩
      | bl b => rw [Rp] at he; subst he; cases rv; simp only [peq]; exact ⟨EqAt.none_bool _, RcAt.none_bool _, RcNeAt.none_bool _⟩
      | int b => rw [Rp] at he; subst he; obtain ⟨t, rfl⟩ := rv; simp only [peq]; exact ⟨EqAt.none_int _ _, RcAt.none_int _ _, RcNeAt.none_int _ _⟩
      | str b => rw [Rp] at he; subst he; obtain ⟨t, rfl⟩ := rv; simp only [peq]; exact ⟨EqAt.none_str _ _, RcAt.none_str _ _, RcNeAt.none_str _ _⟩
      | tup es =>
        rw [Rp] at he; obtain ⟨a, vs, rfl, h2, _⟩ := he; cases rv
        obtain ⟨its, _, ht⟩ := rp_tuple I h2
        simp only [peq]; exact ⟨EqAt.none_tuple ht (Nat.lt_of_le_of_lt (Nat.le_add_right _ _) hu), RcAt.none_tuple ht (Nat.lt_of_le_of_lt (Nat.le_add_right _ _) hu), RcNeAt.none_tuple ht (Nat.lt_of_le_of_lt (Nat.le_add_right _ _) hu)⟩
      | lst es =>
        rw [Rp] at he; obtain ⟨a, vs, rfl, h2, _⟩ := he; cases rv
        obtain ⟨its, _, ht⟩ := rp_list I h2
        simp only [peq]; exact ⟨EqAt.none_list ht (Nat.lt_of_le_of_lt (Nat.le_add_right _ _) hu), RcAt.none_list ht (Nat.lt_of_le_of_lt (Nat.le_add_right _ _) hu), RcNeAt.none_list ht (Nat.lt_of_le_of_lt (Nat.le_add_right _ _) hu)⟩
    | bl c =>
      rw [Rp] at hd; subst hd; cases ru
      cases e with
      | non => rw [Rp] at he; subst he; cases rv; simp only [peq]; exact ⟨EqAt.bool_none _, RcAt.bool_none _, RcNeAt.bool_none _⟩
      | bl b => rw [Rp] at he; subst he; cases rv; simp only [peq]; exact ⟨EqAt.bool_bool _ _, RcAt.bool_bool _ _, RcNeAt.bool_bool _ _⟩
      | int b => rw [Rp] at he; subst he; obtain ⟨t, rfl⟩ := rv; simp only [peq]; exact ⟨EqAt.bool_int _ _ _, RcAt.bool_int _ _ _, RcNeAt.bool_int _ _ _⟩
      | str b => rw [Rp] at he; subst he; obtain ⟨t, rfl⟩ := rv; simp only [peq]; exact ⟨EqAt.bool_str _ _ _, RcAt.bool_str _ _ _, RcNeAt.bool_str _ _ _⟩
      | tup es =>
        rw [Rp] at he; obtain ⟨a, vs, rfl, h2, _⟩ := he; cases rv
        obtain ⟨its, _, ht⟩ := rp_tuple I h2
        simp only [peq]; exact ⟨EqAt.bool_tuple _ ht (Nat.lt_of_le_of_lt (Nat.le_add_right _ _) hu), RcAt.bool_tuple _ ht (Nat.lt_of_le_of_lt (Nat.le_add_right _ _) hu), RcNeAt.bool_tuple _ ht (Nat.lt_of_le_of_lt (Nat.le_add_right _ _) hu)⟩
      | lst es =>
        rw [Rp] at he; obtain ⟨a, vs, rfl, h2, _⟩ := he; cases rv
        obtain ⟨its, _, ht⟩ := rp_list I h2
        simp only [peq]; exact ⟨EqAt.bool_list _ ht (Nat.lt_of_le_of_lt (Nat.le_add_right _ _) hu), RcAt.bool_list _ ht (Nat.lt_of_le_of_lt (Nat.le_add_right _ _) hu), RcNeAt.bool_list _ ht (Nat.lt_of_le_of_lt (Nat.le_add_right _ _) hu)⟩
    | int c =>
      rw [Rp] at hd; subst hd; obtain ⟨t', rfl⟩ := ru
      cases e with
      | non => rw [Rp] at he; subst he; cases rv; simp only [peq]; exact ⟨EqAt.int_none _ _, RcAt.int_none _ _, RcNeAt.int_none _ _⟩
      | bl b => rw [Rp] at he; subst he; cases rv; simp only [peq]; exact ⟨EqAt.int_bool _ _ _, RcAt.int_bool _ _ _, RcNeAt.int_bool _ _ _⟩
      | int b => rw [Rp] at he; subst he; obtain ⟨t, rfl⟩ := rv; simp only [peq]; exact ⟨EqAt.int_int _ _ _ _, RcAt.int_int _ _ _ _, RcNeAt.int_int _ _ _ _⟩
      | str b => rw [Rp] at he; subst he; obtain ⟨t, rfl⟩ := rv; simp only [peq]; exact ⟨EqAt.int_str _ _ _ _, RcAt.int_str _ _ _ _, RcNeAt.int_str _ _ _ _⟩
      | tup es =>
        rw [Rp] at he; obtain ⟨a, vs, rfl, h2, _⟩ := he; cases rv
        obtain ⟨its, _, ht⟩ := rp_tuple I h2
        simp only [peq]; exact ⟨EqAt.int_tuple _ _ ht (Nat.lt_of_le_of_lt (Nat.le_add_right _ _) hu), RcAt.int_tuple _ _ ht (Nat.lt_of_le_of_lt (Nat.le_add_right _ _) hu), RcNeAt.int_tuple _ _ ht (Nat.lt_of_le_of_lt (Nat.le_add_right _ _) hu)⟩
      | lst es =>
        rw [Rp] at he; obtain ⟨a, vs, rfl, h2, _⟩ := he; cases rv
        obtain ⟨its, _, ht⟩ := rp_list I h2
        simp only [peq]; exact ⟨EqAt.int_list _ _ ht (Nat.lt_of_le_of_lt (Nat.le_add_right _ _) hu), RcAt.int_list _ _ ht (Nat.lt_of_le_of_lt (Nat.le_add_right _ _) hu), RcNeAt.int_list _ _ ht (Nat.lt_of_le_of_lt (Nat.le_add_right _ _) hu)⟩
    | str c =>
      rw [Rp] at hd; subst hd; obtain ⟨t', rfl⟩ := ru
      cases e with
      | non => rw [Rp] at he; subst he; cases rv; simp only [peq]; exact ⟨EqAt.str_none _ _, RcAt.str_none _ _, RcNeAt.str_none _ _⟩
      | bl b => rw [Rp] at he; subst he; cases rv; simp only [peq]; exact ⟨EqAt.str_bool _ _ _, RcAt.str_bool _ _ _, RcNeAt.str_bool _ _ _⟩
      | int b => rw [Rp] at he; subst he; obtain ⟨t, rfl⟩ := rv; simp only [peq]; exact ⟨EqAt.str_int _ _ _ _, RcAt.str_int _ _ _ _, RcNeAt.str_int _ _ _ _⟩
      | str b => rw [Rp] at he; subst he; obtain ⟨t, rfl⟩ := rv; simp only [peq]; exact ⟨EqAt.str_str _ _ _ _, RcAt.str_str _ _ _ _, RcNeAt.str_str _ _ _ _⟩
      | tup es =>
        rw [Rp] at he; obtain ⟨a, vs, rfl, h2, _⟩ := he; cases rv
        obtain ⟨its, _, ht⟩ := rp_tuple I h2
        simp only [peq]; exact ⟨EqAt.str_tuple _ _ ht (Nat.lt_of_le_of_lt (Nat.le_add_right _ _) hu), RcAt.str_tuple _ _ ht (Nat.lt_of_le_of_lt (Nat.le_add_right _ _) hu), RcNeAt.str_tuple _ _ ht (Nat.lt_of_le_of_lt (Nat.le_add_right _ _) hu)⟩
      | lst es =>
        rw [Rp] at he; obtain ⟨a, vs, rfl, h2, _⟩ := he; cases rv
        obtain ⟨its, _, ht⟩ := rp_list I h2
        simp only [peq]; exact ⟨EqAt.str_list _ _ ht (Nat.lt_of_le_of_lt (Nat.le_add_right _ _) hu), RcAt.str_list _ _ ht (Nat.lt_of_le_of_lt (Nat.le_add_right _ _) hu), RcNeAt.str_list _ _ ht (Nat.lt_of_le_of_lt (Nat.le_add_right _ _) hu)⟩
  | succ n ih =>
    intro A d e x y u v hn hu hd he ru rv
    by_cases hz : dep d ≤ n
    · exact ih A d e x y u v hz (by omega) hd he ru rv
    cases d with
    | non => simp only [dep] at hz; omega
    | bl _ => simp only [dep] at hz; omega
    | int _ => simp only [dep] at hz; omega
    | str _ => simp only [dep] at hz; omega
    | tup ds =>
      rw [dep] at hn
      have hd0 := hd
      rw [Rp] at hd; obtain ⟨a, vs, rfl, h2, hs⟩ := hd; cases ru
      obtain ⟨its, rI, ht⟩ := rp_tuple I h2
      cases e with
      | non => rw [Rp] at he; subst he; cases rv; simp only [peq]; exact ⟨EqAt.tuple_none ht (Nat.lt_of_le_of_lt (Nat.le_add_right _ _) hu), RcAt.tuple_none ht (Nat.lt_of_le_of_lt (Nat.le_add_right _ _) hu), RcNeAt.tuple_none ht (Nat.lt_of_le_of_lt (Nat.le_add_right _ _) hu)⟩
      | bl b => rw [Rp] at he; subst he; cases rv; simp only [peq]; exact ⟨EqAt.tuple_bool _ ht (Nat.lt_of_le_of_lt (Nat.le_add_right _ _) hu), RcAt.tuple_bool _ ht (Nat.lt_of_le_of_lt (Nat.le_add_right _ _) hu), RcNeAt.tuple_bool _ ht (Nat.lt_of_le_of_lt (Nat.le_add_right _ _) hu)⟩
      | int b => rw [Rp] at he; subst he; obtain ⟨t, rfl⟩ := rv; simp only [peq]; exact ⟨EqAt.tuple_int _ _ ht (Nat.lt_of_le_of_lt (Nat.le_add_right _ _) hu), RcAt.tuple_int _ _ ht (Nat.lt_of_le_of_lt (Nat.le_add_right _ _) hu), RcNeAt.tuple_int _ _ ht (Nat.lt_of_le_of_lt (Nat.le_add_right _ _) hu)⟩
      | str b => rw [Rp] at he; subst he; obtain ⟨t, rfl⟩ := rv; simp only [peq]; exact ⟨EqAt.tuple_str _ _ ht (Nat.lt_of_le_of_lt (Nat.le_add_right _ _) hu), RcAt.tuple_str _ _ ht (Nat.lt_of_le_of_lt (Nat.le_add_right _ _) hu), RcNeAt.tuple_str _ _ ht (Nat.lt_of_le_of_lt (Nat.le_add_right _ _) hu)⟩
      | lst es =>
        rw [Rp] at he; obtain ⟨b, ws, rfl, k2, _⟩ := he; cases rv
        obtain ⟨jts, _, hl⟩ := rp_list I k2
        simp only [peq]; exact ⟨EqAt.tuple_list ht hl (by omega), RcAt.tuple_list ht hl (by omega), RcNeAt.tuple_list ht hl (by omega)⟩
      | tup es =>
        have he0 := he
        rw [Rp] at he; obtain ⟨b, ws, rfl, k2, ks⟩ := he; cases rv
        obtain ⟨jts, rJ, hj⟩ := rp_tuple I k2
        have items := eq_items4 (A := A.in1) (s := s) hs ks rI rJ fun i d e e1 e2 x y u v h1 h2 h3 h4 => (ih A.in1 d e x y u v (by have := dep_le e1; omega) (by rw [in1_units]; omega) h1 h2 h3 h4).1
        have rc := RcAt.tuples ht hj (by omega) items
        rw [seq_bool (hs.length.trans rI.length) (ks.length.trans rJ.length)] at rc
        have rn := RcNeAt.tuples ht hj (by omega) items
        rw [seq_bool (hs.length.trans rI.length) (ks.length.trans rJ.length)] at rn
        simp only [peq]
        refine ⟨?_, rc, rn⟩
        by_cases ab : a = b
        · subst ab
          have := Rp.inj I hd0 he0
          injection this with this
          subst this
          rw [peqs_refl]
          exact EqAt.same _
        · exact EqAt.of_refs ab rc
    | lst ds =>
      rw [dep] at hn
      have hd0 := hd
      rw [Rp] at hd; obtain ⟨a, vs, rfl, h2, hs⟩ := hd; cases ru
      obtain ⟨its, rI, ht⟩ := rp_list I h2
      cases e with
      | non => rw [Rp] at he; subst he; cases rv; simp only [peq]; exact ⟨EqAt.list_none ht (Nat.lt_of_le_of_lt (Nat.le_add_right _ _) hu), RcAt.list_none ht (Nat.lt_of_le_of_lt (Nat.le_add_right _ _) hu), RcNeAt.list_none ht (Nat.lt_of_le_of_lt (Nat.le_add_right _ _) hu)⟩
      | bl b => rw [Rp] at he; subst he; cases rv; simp only [peq]; exact ⟨EqAt.list_bool _ ht (Nat.lt_of_le_of_lt (Nat.le_add_right _ _) hu), RcAt.list_bool _ ht (Nat.lt_of_le_of_lt (Nat.le_add_right _ _) hu), RcNeAt.list_bool _ ht (Nat.lt_of_le_of_lt (Nat.le_add_right _ _) hu)⟩
      | int b => rw [Rp] at he; subst he; obtain ⟨t, rfl⟩ := rv; simp only [peq]; exact ⟨EqAt.list_int _ _ ht (Nat.lt_of_le_of_lt (Nat.le_add_right _ _) hu), RcAt.list_int _ _ ht (Nat.lt_of_le_of_lt (Nat.le_add_right _ _) hu), RcNeAt.list_int _ _ ht (Nat.lt_of_le_of_lt (Nat.le_add_right _ _) hu)⟩
      | str b => rw [Rp] at he; subst he; obtain ⟨t, rfl⟩ := rv; simp only [peq]; exact ⟨EqAt.list_str _ _ ht (Nat.lt_of_le_of_lt (Nat.le_add_right _ _) hu), RcAt.list_str _ _ ht (Nat.lt_of_le_of_lt (Nat.le_add_right _ _) hu), RcNeAt.list_str _ _ ht (Nat.lt_of_le_of_lt (Nat.le_add_right _ _) hu)⟩
      | tup es =>
        rw [Rp] at he; obtain ⟨b, ws, rfl, k2, _⟩ := he; cases rv
        obtain ⟨jts, _, hl⟩ := rp_tuple I k2
        simp only [peq]; exact ⟨EqAt.list_tuple ht hl (by omega), RcAt.list_tuple ht hl (by omega), RcNeAt.list_tuple ht hl (by omega)⟩
      | lst es =>
        have he0 := he
        rw [Rp] at he; obtain ⟨b, ws, rfl, k2, ks⟩ := he; cases rv
        obtain ⟨jts, rJ, hj⟩ := rp_list I k2
        have l1 := hs.length.trans rI.length
        have l2 := ks.length.trans rJ.length
        have items := eq_items4 (A := A.in1) (s := s) hs ks rI rJ fun i d e e1 e2 x y u v h1 h2 h3 h4 => (ih A.in1 d e x y u v (by have := dep_le e1; omega) (by rw [in1_units]; omega) h1 h2 h3 h4).1
        have key : RcAt A s (.ref a) (.ref b) (peqs ds es) ∧ RcNeAt A s (.ref a) (.ref b) (!peqs ds es) := by
          by_cases hl : ds.length = es.length
          · have hz : its.toArray.size = jts.toArray.size := by simp only [List.size_toArray]; omega
            have e1 : its.toArray.size = ds.length := by simp [l1]
            have q1 := RcAt.lists ht hj hz (by omega) items
            have q2 := RcNeAt.lists ht hj hz (by omega) items
            rw [e1] at q1 q2
            rw [peqs_all ds es hl]
            exact ⟨q1, q2⟩
          · have hz : (its.toArray.size != jts.toArray.size) = true := by
              rw [bne_iff_ne]
              simp only [List.size_toArray]
              omega
            rw [peqs_len ds es hl]
            exact ⟨RcAt.lists_lengths ht hj hz (by omega), RcNeAt.lists_lengths ht hj hz (by omega)⟩
        simp only [peq]
        refine ⟨?_, key.1, key.2⟩
        by_cases ab : a = b
        · subst ab
          have := Rp.inj I hd0 he0
          injection this with this
          subst this
          rw [peqs_refl]
          exact EqAt.same _
        · exact EqAt.of_refs ab key.1
end
end L4
set_option Elab.async false
set_option linter.all false
set_option maxRecDepth 100000
namespace L4
open PySem PySem.Spec PyProof.Rows L2 L3
inductive Ent where
  | un | sh (d : D) | ow (ds : List D) | rf (p : Addr) | ut (u : U)
inductive MO where
  | lst (ds : List D) | dct (kvs : List (Key × D)) | xc (C : Addr) | op (φ : HO → Prop) | own (us : List U) | tk (kvs : List (D × D)) | tab (pos : Pos) (q : Str) | fo (φ : Hp → HO → Prop) (m : ∀ F F' o, Same F F' → φ F o → φ F' o)
noncomputable abbrev Rho := List Ent
noncomputable abbrev Mm := Addr → Option MO
noncomputable def mset (M : Mm) (p : Addr) (o : MO) : Mm := fun q => if q = p then some o else M q
private theorem mset_same {M : Mm} {p : Addr} {o : MO} : mset M p o p = some o := by unfold mset; rw [if_pos rfl]
private theorem mset_ne {M : Mm} {p q : Addr} {o : MO} (h : q ≠ p) : mset M p o q = M q := by unfold mset; rw [if_neg h]
noncomputable def KVp (K : PySem.W.Frag) (F : Hp) (kvs : List (Key × D)) (ws : List (Key × V)) : Prop := Paired (fun (p : Key × D) (q : Key × V) => p.1 = q.1 ∧ Rp K F p.2 q.2) kvs ws
mutual
noncomputable def kOk : D → Bool
  | .int _ => true
  | .tup ds => kOks ds
  | .non => false
  | .bl _ => false
  | .str _ => false
  | .lst _ => false
noncomputable def kOks : List D → Bool
  | [] => true
  | d :: ds => kOk d && kOks ds
end
noncomputable def TKp (K : PySem.W.Frag) (F : Hp) (kvs : List (D × D)) (xs : List (D × Addr × Value)) : Prop := Paired (fun (q : D × D) (x : D × Addr × Value) => q.1 = x.1 ∧ (kOk q.1 = true ∧ dep q.1 ≤ 8) ∧ Rp K F q.1 (.ref x.2.1) ∧ ∃ v, RelV v x.2.2 ∧ Rp K F q.2 v) kvs xs
private theorem TKp.same {K : PySem.W.Frag} {F F' : Hp} (e : Same F F') {kvs : List (D × D)} {xs : List (D × Addr × Value)} (h : TKp K F kvs xs) : TKp K F' kvs xs :=
  Paired.mapP h fun _ _ z => ⟨z.1, z.2.1, Rp.same e z.2.2.1, z.2.2.2.elim fun v q => ⟨v, q.1, Rp.same e q.2⟩⟩
noncomputable def MOk (K : PySem.W.Frag) (F H : Hp) (p : Addr) : MO → Prop
  | .lst ds => ∃ vs, H p = some (.lst vs) ∧ Rps K F ds vs
  | .dct kvs => ∃ ws, H p = some (.dK ws) ∧ KVp K F kvs ws
  | .xc C => H p = some (.ext (IsX p C))
  | .op φ => ∃ o, H p = some o ∧ φ o
  | .own us => ∃ vs, H p = some (.lst vs) ∧ RUs K F us vs
  | .tk kvs => ∃ xs, H p = some (.ext (IsDT p xs)) ∧ TKp K F kvs xs
  | .tab pos q => ∃ ps, H p = some (.tbl ps) ∧ TabOk F pos q ps
  | .fo φ _ => ∃ o, H p = some o ∧ φ F o
structure AgM (K : PySem.W.Frag) (Z F : Hp) (M : Mm) (H : Hp) : Prop where
  sm : Same F H
  zz : ∀ p o, Z p = some o → H p = some o ∧ F p = none ∧ M p = none
  mo : ∀ p o, M p = some o → F p = none ∧ MOk K F H p o
noncomputable def EOk (K : PySem.W.Frag) (Z F : Hp) (M : Mm) (H : Hp) : Ent → Option V → Prop
  | .un, _ => True
  | .sh d, o => ∃ v, o = some v ∧ Rp K F d v
  | .rf p, o => o = some (.ref p)
  | .ut u, o => ∃ v, o = some v ∧ RU K F u v
  | .ow ds, o => ∃ p vs, o = some (.ref p) ∧ H p = some (.lst vs) ∧ F p = none ∧ M p = none ∧ Z p = none ∧ Rps K F ds vs
structure Ag (K : PySem.W.Frag) (Z F : Hp) (M : Mm) (H : Hp) (ρ : Rho) (σ : L2.St) : Prop where
  m : AgM K Z F M H
  len : ρ.length = σ.length
  en : ∀ (i : Nat) (e : Ent), ρ[i]? = some e → EOk K Z F M H e (σ[i]?).join
  di : ∀ (i j : Nat) (ds es : List D) (p : Addr), i ≠ j → ρ[i]? = some (.ow ds) → ρ[j]? = some (.ow es) → σ[i]? = some (some (.ref p)) → σ[j]? ≠ some (some (.ref p))
private theorem KVp.same {K : PySem.W.Frag} {F F' : Hp} (e : Same F F') {kvs : List (Key × D)} {ws : List (Key × V)} (h : KVp K F kvs ws) : KVp K F' kvs ws := Paired.mapP h fun _ _ z => ⟨z.1, Rp.same e z.2⟩
private theorem MOk.same {K : PySem.W.Frag} {F F' H H' : Hp} {p : Addr} {o : MO} (e : Same F F') (h : H' p = H p) (k : MOk K F H p o) : MOk K F' H' p o := by
  cases o with
  | lst ds => obtain ⟨vs, a, b⟩ := k; exact ⟨vs, h.trans a, Rps.same e b⟩
  | dct kvs => obtain ⟨vs, a, b⟩ := k; exact ⟨vs, h.trans a, KVp.same e b⟩
  | xc C => exact h.trans k
  | op φ => obtain ⟨o, a, b⟩ := k; exact ⟨o, h.trans a, b⟩
  | own us => obtain ⟨vs, a, b⟩ := k; exact ⟨vs, h.trans a, RUs.same e b⟩
  | tk kvs => obtain ⟨vs, a, b⟩ := k; exact ⟨vs, h.trans a, TKp.same e b⟩
  | tab pos q =>
    obtain ⟨ps, a, b1, b2⟩ := k
    refine ⟨ps, h.trans a, b1, ?_⟩
    rcases b2 with b2 | ⟨c, b3, b4⟩
    · exact .inl b2
    · exact .inr ⟨c, b3, e _ _ b4⟩
  | fo φ m => obtain ⟨o, a, b⟩ := k; exact ⟨o, h.trans a, m _ _ _ e b⟩
private theorem MOk.there {K : PySem.W.Frag} {F H : Hp} {p : Addr} {o : MO} (k : MOk K F H p o) : ∃ u, H p = some u := by
  cases o with
  | lst ds => obtain ⟨vs, a, b⟩ := k; exact ⟨_, a⟩
  | dct kvs => obtain ⟨vs, a, b⟩ := k; exact ⟨_, a⟩
  | xc C => exact ⟨_, k⟩
  | op φ => obtain ⟨o, a, b⟩ := k; exact ⟨o, a⟩
  | own us => obtain ⟨vs, a, b⟩ := k; exact ⟨_, a⟩
  | tk kvs => obtain ⟨vs, a, b⟩ := k; exact ⟨_, a⟩
  | tab pos q => obtain ⟨ps, a, b⟩ := k; exact ⟨_, a⟩
  | fo φ m => obtain ⟨o, a, b⟩ := k; exact ⟨_, a⟩
section
variable {K : PySem.W.Frag} {Z F F' H H' : Hp} {M : Mm} {ρ : Rho} {σ : L2.St}
private theorem AgM.grow (a : AgM K Z F M H) (hF : Same F F') (hH : Same H H') (sm : Same F' H') (new : ∀ p, F p = none → H p ≠ none → F' p = none) : AgM K Z F' M H' := by
  refine ⟨sm, fun p o h => ?_, fun p o h => ?_⟩
  · obtain ⟨z1, z2, z3⟩ := a.zz p o h
    exact ⟨hH _ _ z1, new p z2 (by rw [z1]; simp), z3⟩
  obtain ⟨n, k⟩ := a.mo p o h
  obtain ⟨u, hu⟩ := k.there
  refine ⟨new p n (by rw [hu]; simp), k.same hF ?_⟩
  rw [hu]; exact hH _ _ hu
private theorem Ag.grow (a : Ag K Z F M H ρ σ) (hF : Same F F') (hH : Same H H') (sm : Same F' H') (new : ∀ p, F p = none → H p ≠ none → F' p = none) : Ag K Z F' M H' ρ σ := by
  refine ⟨a.m.grow hF hH sm new, a.len, fun i e h => ?_, a.di⟩
  have := a.en i e h
  cases e with
  | un => trivial
  | sh d => obtain ⟨v, h1, h2⟩ := this; exact ⟨v, h1, Rp.same hF h2⟩
  | rf p => exact this
  | ut u => obtain ⟨v, h1, h2⟩ := this; exact ⟨v, h1, RU.same hF h2⟩
  | ow ds => obtain ⟨p, vs, h1, h2, h3, h4, h6, h5⟩ := this; exact ⟨p, vs, h1, hH _ _ h2, new p h3 (by rw [h2]; simp), h4, h6, Rps.same hF h5⟩
private theorem same_upd {p : Addr} {o : HO} (sm : Same F H) (hp : H p = none) : Same (upd F p o) (upd H p o) := fun b u e => by
  by_cases hb : b = p
  · subst hb; rw [upd_same] at *; exact e
  · rw [upd_ne hb] at *; exact sm b u e
private theorem sub_none {p : Addr} (sm : Same F H) (hp : H p = none) : F p = none := by
  cases e : F p with
  | none => rfl
  | some u => rw [sm _ _ e] at hp; cases hp
private theorem Ag.new {p : Addr} {o : HO} (a : Ag K Z F M H ρ σ) (hp : H p = none) : Ag K Z (upd F p o) M (upd H p o) ρ σ :=
  a.grow (Same.new (sub_none a.m.sm hp)) (Same.new hp) (same_upd a.m.sm hp) fun q h1 h2 => by
    have : q ≠ p := fun z => h2 (z ▸ hp)
    rw [upd_ne this]; exact h1
private theorem Ag.newO {p : Addr} {o : HO} (a : Ag K Z F M H ρ σ) (hp : H p = none) : Ag K Z F M (upd H p o) ρ σ :=
  a.grow (Same.refl _) (Same.new hp) (a.m.sm.trans (Same.new hp)) fun q h1 _ => h1
private theorem Ag.put {i : Nat} {e : Ent} {o : Option V} (a : Ag K Z F M H ρ σ) (h : EOk K Z F M H e o) (hd : ∀ (ds : List D) (p : Addr), e = .ow ds → o = some (.ref p) → ∀ (j : Nat) (es : List D), j ≠ i → ρ[j]? = some (.ow es) → σ[j]? ≠ some (some (.ref p))) : Ag K Z F M H (ρ.set i e) (σ.set i o) := by
  refine ⟨a.m, by rw [List.length_set, List.length_set, a.len], fun j e' q => ?_, fun j k ds es p ne q1 q2 q3 => ?_⟩
  · by_cases hj : j = i
    · subst hj
      have hl : j < ρ.length := by
        have := (List.getElem?_eq_some_iff.mp q).1
        rwa [List.length_set] at this
      rw [List.getElem?_set_self hl] at q
      cases q
      rw [List.getElem?_set_self (by rw [← a.len]; exact hl)]
      exact h
    · rw [List.getElem?_set_ne (Ne.symm hj)] at q ⊢
      exact a.en j e' q
  · have hl : ∀ {j : Nat} {x : Ent}, (ρ.set i e)[j]? = some x → j < ρ.length := fun q => by
      have := (List.getElem?_eq_some_iff.mp q).1
      rwa [List.length_set] at this
    by_cases hj : j = i
    · subst hj
      have hk : k ≠ j := Ne.symm ne
      rw [List.getElem?_set_self (hl q1)] at q1
      cases q1
      have hl3 : j < σ.length := by
        have := (List.getElem?_eq_some_iff.mp q3).1
        rwa [List.length_set] at this
      rw [List.getElem?_set_self hl3] at q3
      rw [List.getElem?_set_ne (Ne.symm hk)] at q2 ⊢
      injection q3 with q3
      exact hd ds p rfl q3 k es hk q2
    · by_cases hk : k = i
      · subst hk
        rw [List.getElem?_set_self (hl q2)] at q2
        cases q2
        rw [List.getElem?_set_ne (Ne.symm hj)] at q1 q3
        intro q4
        rw [List.getElem?_set_self (by
          have := (List.getElem?_eq_some_iff.mp q4).1
          rw [List.length_set] at this
          exact this)] at q4
        injection q4 with q4
        exact hd es p rfl q4 j ds hj q1 q3
      · rw [List.getElem?_set_ne (Ne.symm hj)] at q1 q3
        rw [List.getElem?_set_ne (Ne.symm hk)] at q2 ⊢
        exact a.di j k ds es p ne q1 q2 q3
private theorem Ag.set {i : Nat} {d : D} {v : V} (a : Ag K Z F M H ρ σ) (h : Rp K F d v) : Ag K Z F M H (ρ.set i (.sh d)) (σ.set i (some v)) := a.put ⟨v, rfl, h⟩ fun _ _ z => nomatch z
private theorem Ag.setU {i : Nat} {u : U} {v : V} (a : Ag K Z F M H ρ σ) (h : RU K F u v) : Ag K Z F M H (ρ.set i (.ut u)) (σ.set i (some v)) := a.put ⟨v, rfl, h⟩ fun _ _ z => nomatch z
private theorem Ag.setO {i : Nat} {ds : List D} {p : Addr} {vs : List V} (a : Ag K Z F M H ρ σ) (h1 : H p = some (.lst vs)) (h2 : F p = none) (h3 : M p = none) (hz : Z p = none) (h4 : Rps K F ds vs) (h5 : ∀ (j : Nat) (es : List D), ρ[j]? = some (.ow es) → σ[j]? ≠ some (some (.ref p))) : Ag K Z F M H (ρ.set i (.ow ds)) (σ.set i (some (.ref p))) :=
  a.put ⟨p, vs, rfl, h1, h2, h3, hz, h4⟩ fun _ q _ z j es _ hj => by cases z; exact h5 j es hj
private theorem set_id {α : Type} : ∀ {l : List α} {i : Nat} {x : α}, l[i]? = some x → l.set i x = l
  | [], _, _, h => by simp at h
  | _ :: _, 0, _, h => by simp at h; subst h; rfl
  | _ :: l, i + 1, _, h => by rw [List.set_cons_succ, set_id (by simpa using h)]
private theorem Ag.fz {i : Nat} {ds : List D} (a : Ag K Z F M H ρ σ) (h : ρ[i]? = some (.ow ds)) : ∃ F' v, σ[i]? = some (some v) ∧ Same F F' ∧ Rp K F' (.lst ds) v ∧ Ag K Z F' M H (ρ.set i (.sh (.lst ds))) σ := by
  have hi := a.en i _ h
  obtain ⟨p, vs, h1, h2, h3, h4, h6, h5⟩ := hi
  have hs : σ[i]? = some (some (.ref p)) := by
    cases q : σ[i]? with
    | none => rw [q] at h1; cases h1
    | some o => rw [q] at h1; simp at h1; rw [h1]
  have s1 : Same F (upd F p (.lst vs)) := Same.new h3
  have r : Rp K (upd F p (.lst vs)) (.lst ds) (.ref p) := by rw [Rp]; exact ⟨p, vs, rfl, .inl upd_same, Rps.same s1 h5⟩
  refine ⟨upd F p (.lst vs), .ref p, hs, s1, r, ?_⟩
  have s2 : Same (upd F p (.lst vs)) H := fun b u e => by
    by_cases hb : b = p
    · subst hb; rw [upd_same] at e; cases e; exact h2
    · rw [upd_ne hb] at e; exact a.m.sm b u e
  have nm : ∀ q o, M q = some o → q ≠ p := fun q o e z => by rw [z, h4] at e; cases e
  have e2 : σ = σ.set i (some (.ref p)) := (set_id hs).symm
  have hi' : i < ρ.length := (List.getElem?_eq_some_iff.mp h).1
  refine ⟨⟨s2, fun q o e => ?_, fun q o e => ?_⟩, by rw [List.length_set]; exact a.len, fun j e q => ?_, fun j k es fs q ne q1 q2 q3 => ?_⟩
  · obtain ⟨z1, z2, z3⟩ := a.m.zz q o e
    have : q ≠ p := fun z => by rw [z, h6] at e; cases e
    exact ⟨z1, by rw [upd_ne this]; exact z2, z3⟩
  · obtain ⟨z1, z2⟩ := a.m.mo q o e
    exact ⟨by rw [upd_ne (nm q o e)]; exact z1, z2.same s1 rfl⟩
  · by_cases hj : j = i
    · subst hj
      rw [List.getElem?_set_self hi'] at q
      cases q
      exact ⟨.ref p, by rw [hs]; rfl, r⟩
    · rw [List.getElem?_set_ne (Ne.symm hj)] at q
      have := a.en j e q
      cases e with
      | un => trivial
      | sh d => obtain ⟨v, g1, g2⟩ := this; exact ⟨v, g1, Rp.same s1 g2⟩
      | rf p => exact this
      | ut u => obtain ⟨v, g1, g2⟩ := this; exact ⟨v, g1, RU.same s1 g2⟩
      | ow es =>
        obtain ⟨q', ws, g1, g2, g3, g4, g6, g5⟩ := this
        have hne : q' ≠ p := fun z => by
          subst z
          have hj' : σ[j]? = some (some (.ref q')) := by
            cases y : σ[j]? with
            | none => rw [y] at g1; cases g1
            | some o => rw [y] at g1; simp at g1; rw [g1]
          exact a.di i j ds es q' (Ne.symm hj) h q hs hj'
        exact ⟨q', ws, g1, g2, by rw [upd_ne hne]; exact g3, g4, g6, Rps.same s1 g5⟩
  · have n1 : j ≠ i := fun z => by subst z; rw [List.getElem?_set_self hi'] at q1; cases q1
    have n2 : k ≠ i := fun z => by subst z; rw [List.getElem?_set_self hi'] at q2; cases q2
    rw [List.getElem?_set_ne (Ne.symm n1)] at q1
    rw [List.getElem?_set_ne (Ne.symm n2)] at q2
    exact a.di j k es fs q ne q1 q2 q3
end
end L4
set_option Elab.async false
set_option linter.all false
set_option maxRecDepth 100000
namespace L4
open PySem PySem.Spec PyProof.Rows L2 L3
noncomputable abbrev WE := Rho → Mm → (D → Rho → Mm → Prop) → Prop
noncomputable abbrev WT := Rho → Mm → (Bool → Rho → Mm → Prop) → Prop
noncomputable abbrev WA := Rho → Mm → (List D → Rho → Mm → Prop) → Prop
noncomputable abbrev WN := Rho → Mm → (List D → Rho → Mm → Prop) → Prop
noncomputable abbrev WG := D → Rho → Mm → (Rho → Mm → Prop) → Prop
noncomputable abbrev WGs := List D → Rho → Mm → (Rho → Mm → Prop) → Prop
structure WEnds where
  nx : Rho → Mm → Prop
  rt : U → Mm → Prop
  bk : Rho → Mm → Prop := fun _ _ => False
  ct : Rho → Mm → Prop := fun _ _ => False
noncomputable abbrev WS := WEnds → Rho → Mm → Prop
noncomputable def lf (K : PySem.W.Frag) (f : WE) : TE := fun σ H Q => ∃ Z F ρ M P, Ag K Z F M H ρ σ ∧ f ρ M P ∧ ∀ v H' F' d ρ' M', Same F F' → Ag K Z F' M' H' ρ' σ → Rp K F' d v → P d ρ' M' → Q v H'
noncomputable def lfT (K : PySem.W.Frag) (f : WT) : TT := fun σ H Q => ∃ Z F ρ M P, Ag K Z F M H ρ σ ∧ f ρ M P ∧ ∀ b H' F' ρ' M', Same F F' → Ag K Z F' M' H' ρ' σ → P b ρ' M' → Q b H'
noncomputable def lfA (K : PySem.W.Frag) (f : WA) : TA := fun σ H Q => ∃ Z F ρ M P, Ag K Z F M H ρ σ ∧ f ρ M P ∧ ∀ vs H' F' ds ρ' M', Same F F' → Ag K Z F' M' H' ρ' σ → Rps K F' ds vs → P ds ρ' M' → Q vs H'
noncomputable def lfN (K : PySem.W.Frag) (f : WN) : TE := fun σ H Q => ∃ Z F ρ M P, Ag K Z F M H ρ σ ∧ f ρ M P ∧ ∀ p vs H' F' ds ρ' M', Same F F' → Ag K Z F' M' H' ρ' σ → H' p = some (.lst vs) → F' p = none → M' p = none → Z p = none → (∀ (j : Nat) (es : List D), ρ'[j]? = some (.ow es) → σ[j]? ≠ some (some (.ref p))) → Rps K F' ds vs → P ds ρ' M' → Q (.ref p) H'
noncomputable def lfG (K : PySem.W.Frag) (f : WG) : TG := fun v σ H Q => ∃ Z F ρ M d P, Ag K Z F M H ρ σ ∧ Rp K F d v ∧ f d ρ M P ∧ ∀ σ' H' F' ρ' M', Same F F' → Ag K Z F' M' H' ρ' σ' → P ρ' M' → Q σ' H'
noncomputable def lfGs (K : PySem.W.Frag) (f : WGs) : TGs := fun vs σ H Q => ∃ Z F ρ M ds P, Ag K Z F M H ρ σ ∧ Rps K F ds vs ∧ f ds ρ M P ∧ ∀ σ' H' F' ρ' M', Same F F' → Ag K Z F' M' H' ρ' σ' → P ρ' M' → Q σ' H'
structure EndsOk (K : PySem.W.Frag) (Z F : Hp) (E : WEnds) (D' : Ends) : Prop where
  nx : ∀ σ' H' F' ρ' M', Same F F' → Ag K Z F' M' H' ρ' σ' → E.nx ρ' M' → D'.nx σ' H'
  bk : ∀ σ' H' F' ρ' M', Same F F' → Ag K Z F' M' H' ρ' σ' → E.bk ρ' M' → D'.bk σ' H'
  ct : ∀ σ' H' F' ρ' M', Same F F' → Ag K Z F' M' H' ρ' σ' → E.ct ρ' M' → D'.ct σ' H'
  rt : ∀ v H' F' u M', Same F F' → AgM K Z F' M' H' → RU K F' u v → E.rt u M' → D'.rt v H'
noncomputable def lfS (K : PySem.W.Frag) (f : WS) : TS := fun D' σ H => ∃ Z F ρ M E, Ag K Z F M H ρ σ ∧ f E ρ M ∧ EndsOk K Z F E D'
structure JE (X : Cx) (e : Expr) (f : WE) : Prop where
  h : PE X e (lf X.K f)
structure JT (X : Cx) (e : Expr) (f : WT) : Prop where
  h : PT X e (lfT X.K f)
structure JW (X : Cx) (e : Expr) (f : WT) : Prop where
  h : PW X e (lfT X.K f)
structure JA (X : Cx) (es : List Expr) (f : WA) : Prop where
  h : PA X es (lfA X.K f)
structure JN (X : Cx) (e : Expr) (f : WN) : Prop where
  h : PE X e (lfN X.K f)
structure JG (X : Cx) (e : Expr) (f : WG) : Prop where
  h : PG X e (lfG X.K f)
structure JGs (X : Cx) (es : List Expr) (f : WGs) : Prop where
  h : PGs X es (lfGs X.K f)
structure JS (X : Cx) (st : Stmt) (f : WS) : Prop where
  h : PS X st (lfS X.K f)
structure JSs (X : Cx) (st : List Stmt) (f : WS) : Prop where
  h : PSs X st (lfS X.K f)
private theorem imE {X : Cx} {e : Expr} {t t' : TE} (h : PE X e t) (k : ∀ σ H Q, t' σ H Q → t σ H Q) : PE X e t' := fun pins s σ H Q I q => h pins s σ H Q I (k σ H Q q)
private theorem imT {X : Cx} {e : Expr} {t t' : TT} (h : PT X e t) (k : ∀ σ H Q, t' σ H Q → t σ H Q) : PT X e t' := fun pins s σ H Q I q => h pins s σ H Q I (k σ H Q q)
private theorem imW {X : Cx} {e : Expr} {t t' : TT} (h : PW X e t) (k : ∀ σ H Q, t' σ H Q → t σ H Q) : PW X e t' := fun w pins s σ H Q I q => h w pins s σ H Q I (k σ H Q q)
private theorem imA {X : Cx} {e : List Expr} {t t' : TA} (h : PA X e t) (k : ∀ σ H Q, t' σ H Q → t σ H Q) : PA X e t' := fun pos pins s σ H Q I q => h pos pins s σ H Q I (k σ H Q q)
private theorem imS {X : Cx} {st : Stmt} {t t' : TS} (h : PS X st t) (k : ∀ D' σ H, t' D' σ H → t D' σ H) : PS X st t' := fun pins s σ H D' I q => h pins s σ H D' I (k D' σ H q)
private theorem imSs {X : Cx} {st : List Stmt} {t t' : TS} (h : PSs X st t) (k : ∀ D' σ H, t' D' σ H → t D' σ H) : PSs X st t' := fun pins s σ H D' I q => h pins s σ H D' I (k D' σ H q)
private theorem imG {X : Cx} {e : Expr} {t t' : TG} (h : PG X e t) (k : ∀ v σ H Q, t' v σ H Q → t v σ H Q) : PG X e t' := fun pins s σ H v u Q I r q => h pins s σ H v u Q I r (k v σ H Q q)
private theorem imGs {X : Cx} {e : List Expr} {t t' : TGs} (h : PGs X e t) (k : ∀ v σ H Q, t' v σ H Q → t v σ H Q) : PGs X e t' := fun pins s σ H v u Q I r q => h pins s σ H v u Q I r (k v σ H Q q)
inductive Gw (F H : Hp) : Hp → Hp → Prop where
  | rf : Gw F H F H
  | nw {p : Addr} {o : HO} (hp : H p = none) : Gw F H (upd F p o) (upd H p o)
private theorem Gw.same {F H F' H' : Hp} (sm : Same F H) (g : Gw F H F' H') : Same F F' := by
  cases g with
  | rf => exact Same.refl _
  | nw hp => exact Same.new (sub_none sm hp)
private theorem Gw.ag {K : PySem.W.Frag} {Z F H F' H' : Hp} {M : Mm} {ρ : Rho} {σ : L2.St} (a : Ag K Z F M H ρ σ) (g : Gw F H F' H') : Ag K Z F' M H' ρ σ := by
  cases g with
  | rf => exact a
  | nw hp => exact a.new hp
section
variable {X : Cx} {a b c e : Expr} {es rest : List Expr} {pos : Pos} {fa fb fe : WE} {ft fu : WT} {fl : WA} {fn : WN}
noncomputable def wV (i : Nat) : WE := fun ρ M P => match ρ[i]? with
  | some (.sh d) => P d ρ M
  | some (.ow ds) => P (.lst ds) (ρ.set i (.sh (.lst ds))) M
  | _ => False
private theorem je_of_var {i : Nat} (h : PE X e (tVar i)) : JE X e (wV i) := ⟨imE h fun σ H Q hh => ex5 hh fun Z F ρ M P ag hf k => by
  unfold wV at hf
  split at hf
  · rename_i d hd
    obtain ⟨v, h1, h2⟩ := ag.en i _ hd
    refine ⟨v, ?_, k v H F d ρ M (Same.refl _) ag h2 hf⟩
    cases q : σ[i]? with
    | none => rw [q] at h1; cases h1
    | some o => rw [q] at h1; simp at h1; rw [h1]
  · rename_i ds hd
    obtain ⟨F', v, h1, h2, h3, h4⟩ := ag.fz hd
    exact ⟨v, h1, k v H F' _ _ M h2 h4 h3 hf⟩
  · exact hf.elim⟩
private theorem jv (i : Nat) {x : Str} (hN : X.N[i]? = some x := by rfl) (hv : Vis X.env.scope x := by first | exact Or.inl rfl | exact Or.inr (Or.inl rfl) | exact Or.inr (Or.inr rfl)) (hd : (x == ("__debug__" : Str)) = false := by decide) (hcd : (x == ("__classdict__" : Str)) = false := by decide) : JE X (.Name x pos) (wV i) := je_of_var (L2.pv i hN hv hd hcd)
noncomputable def wC (d : D) : WE := fun ρ M P => P d ρ M
private theorem je_of_c {d : D} {v : V} (h : PE X e (tC v)) (r : ∀ F, Rp X.K F d v) : JE X e (wC d) := ⟨imE h fun σ H Q hh => ex5 hh fun Z F ρ M P ag hf k => k v H F d ρ M (Same.refl _) ag (r F) hf⟩
private theorem j_int {i : Int} {j : Nat} : JE X (.Constant (.int i) j pos) (wC (.int i)) := je_of_c pe_int fun F => by rw [Rp]
private theorem j_bl {i : Bool} {j : Nat} : JE X (.Constant (.bool i) j pos) (wC (.bl i)) := je_of_c pe_bl fun F => by rw [Rp]
private theorem j_str {i : Str} {j : Nat} : JE X (.Constant (.str i) j pos) (wC (.str i)) := je_of_c pe_str fun F => by rw [Rp]
private theorem j_non {j : Nat} : JE X (.Constant .none j pos) (wC .non) := je_of_c pe_non fun F => by rw [Rp]
noncomputable def OpW (X : Cx) (r : R2) (R : D → D → (D → Prop) → Prop) : Prop := ∀ (x y : D) (v u : V) (F H : Hp) (Q : VK) (P : D → Prop), Same F H → Rp X.K F x v → Rp X.K F y u → R x y P → (∀ d w F' H', Gw F H F' H' → Rp X.K F' d w → P d → Q w H') → r v u H Q
noncomputable def UnW (X : Cx) (r : V → Hp → VK → Prop) (R : D → (D → Prop) → Prop) : Prop := ∀ (x : D) (v : V) (F H : Hp) (Q : VK) (P : D → Prop), Same F H → Rp X.K F x v → R x P → (∀ d w F' H', Gw F H F' H' → Rp X.K F' d w → P d → Q w H') → r v H Q
noncomputable def CaW (X : Cx) (r : List V → Hp → VK → Prop) (R : List D → (D → Prop) → Prop) : Prop := ∀ (xs : List D) (vs : List V) (F H : Hp) (Q : VK) (P : D → Prop), Same F H → Rps X.K F xs vs → R xs P → (∀ d w F' H', Gw F H F' H' → Rp X.K F' d w → P d → Q w H') → r vs H Q
noncomputable def wOp (R : D → D → (D → Prop) → Prop) (fa fb : WE) : WE := fun ρ M P => fa ρ M fun x ρ1 M1 => fb ρ1 M1 fun y ρ2 M2 => R x y fun d => P d ρ2 M2
noncomputable def wUn (R : D → (D → Prop) → Prop) (fa : WE) : WE := fun ρ M P => fa ρ M fun x ρ1 M1 => R x fun d => P d ρ1 M1
noncomputable def wCall (R : List D → (D → Prop) → Prop) (fl : WA) : WE := fun ρ M P => fl ρ M fun xs ρ1 M1 => R xs fun d => P d ρ1 M1
private theorem of_op {r : R2} {R : D → D → (D → Prop) → Prop} (w : OpW X r R) {fa fb : WE} : ∀ σ H Q, lf X.K (wOp R fa fb) σ H Q → tOp r (lf X.K fa) (lf X.K fb) σ H Q := fun σ H Q hh => ex5 hh fun Z F ρ M P ag hf k =>
  ⟨Z, F, ρ, M, _, ag, hf, fun v H1 F1 d1 ρ1 M1 s1 ag1 r1 h1 => ⟨Z, F1, ρ1, M1, _, ag1, h1, fun u H2 F2 d2 ρ2 M2 s2 ag2 r2 h2 =>
    w d1 d2 v u F2 H2 Q _ ag2.m.sm (r1.same s2) r2 h2 fun d w F' H' g rp hp => k w H' F' d ρ2 M2 (s1.trans (s2.trans (g.same ag2.m.sm))) (g.ag ag2) rp hp⟩⟩
private theorem of_un {r : V → Hp → VK → Prop} {R : D → (D → Prop) → Prop} (w : UnW X r R) {fa : WE} : ∀ σ H Q, lf X.K (wUn R fa) σ H Q → tUn r (lf X.K fa) σ H Q := fun σ H Q hh => ex5 hh fun Z F ρ M P ag hf k =>
  ⟨Z, F, ρ, M, _, ag, hf, fun v H1 F1 d1 ρ1 M1 s1 ag1 r1 h1 => w d1 v F1 H1 Q _ ag1.m.sm r1 h1 fun d w F' H' g rp hp => k w H' F' d ρ1 M1 (s1.trans (g.same ag1.m.sm)) (g.ag ag1) rp hp⟩
private theorem of_call {r : List V → Hp → VK → Prop} {R : List D → (D → Prop) → Prop} (w : CaW X r R) {fl : WA} : ∀ σ H Q, lf X.K (wCall R fl) σ H Q → tCB r (lfA X.K fl) σ H Q := fun σ H Q hh => ex5 hh fun Z F ρ M P ag hf k =>
  ⟨Z, F, ρ, M, _, ag, hf, fun v H1 F1 d1 ρ1 M1 s1 ag1 r1 h1 => w d1 v F1 H1 Q _ ag1.m.sm r1 h1 fun d w F' H' g rp hp => k w H' F' d ρ1 M1 (s1.trans (g.same ag1.m.sm)) (g.ag ag1) rp hp⟩
private theorem j_op {op : Operator} {r : R2} {R : D → D → (D → Prop) → Prop} (o : OpR X (binaryOp op) r) (w : OpW X r R) (ha : JE X a fa) (hb : JE X b fb) : JE X (.BinOp a op b pos) (wOp R fa fb) := ⟨imE (pe_op o ha.h hb.h) (of_op w)⟩
private theorem j_un {op : UnaryOp} {r : V → Hp → VK → Prop} {R : D → (D → Prop) → Prop} (o : UnR X (unaryOp op) r) (w : UnW X r R) (ha : JE X a fa) : JE X (.UnaryOp op a pos) (wUn R fa) := ⟨imE (pe_un o ha.h) (of_un w)⟩
private theorem j_cmp {op : CmpOp} {r : R2} {R : D → D → (D → Prop) → Prop} (o : OpR X (compareOp op) r) (w : OpW X r R) (ha : JE X a fa) (hb : JE X b fb) (hm : behindInMarks op b = false) : JE X (.Compare a [op] [b] pos) (wOp R fa fb) := ⟨imE (pe_cmpR o ha.h hb.h hm) (of_op w)⟩
private theorem j_ix {r : R2} {R : D → D → (D → Prop) → Prop} (o : IxR X r) (w : OpW X r R) (ha : JE X a fa) (hb : JE X b fb) (hs : PlainIx b) : JE X (.Subscript a b pos) (wOp R fa fb) := ⟨imE (pe_ix o ha.h hb.h hs) (of_op w)⟩
noncomputable def RI (C : Int → Int → Prop) (g : Int → Int → D) : D → D → (D → Prop) → Prop := fun x y P => match x, y with
  | .int i, .int j => C i j ∧ P (g i j)
  | _, _ => False
noncomputable def RI0 (g : Int → Int → D) : D → D → (D → Prop) → Prop := fun x y P => match x, y with
  | .int i, .int j => P (g i j)
  | _, _ => False
noncomputable def dI : V → D → Prop := fun v d => match v, d with
  | .int i, .int j => i = j
  | .bl i, .bl j => i = j
  | _, _ => False
private theorem dI.rp {K : PySem.W.Frag} {F : Hp} {v : V} {d : D} (h : dI v d) : Rp K F d v := by
  unfold dI at h
  split at h
  · subst h; rw [Rp]
  · subst h; rw [Rp]
  · exact h.elim
private theorem w_I {C : Int → Int → Prop} {g : Int → Int → V} {g' : Int → Int → D} (e : ∀ i j, dI (g i j) (g' i j)) : OpW X (rI C g) (RI C g') := by
  intro x y v u F H Q P sm rx ry h k
  unfold RI at h
  split at h
  · rename_i i j
    rw [Rp] at rx ry
    exact ⟨i, j, rx, ry, h.1, k _ _ F H .rf (e i j).rp h.2⟩
  · exact h.elim
private theorem w_I0 {g : Int → Int → V} {g' : Int → Int → D} (e : ∀ i j, dI (g i j) (g' i j)) : OpW X (rI0 g) (RI0 g') := by
  intro x y v u F H Q P sm rx ry h k
  unfold RI0 at h
  split at h
  · rename_i i j
    rw [Rp] at rx ry
    exact ⟨i, j, rx, ry, k _ _ F H .rf (e i j).rp h⟩
  · exact h.elim
noncomputable def CM (i j : Int) : Prop := CMul i j ∨ CMulS i j
private theorem op_mulA : OpR X (binaryOp .Mult) (rI CM fun i j => .int (i * j)) := by
  intro pins s σ H x y u v Q I rx ry h
  obtain ⟨i, j, h1, h2, h3, h4⟩ := h
  rcases h3 with h3 | h3
  · exact op_mul pins s σ H x y u v Q I rx ry ⟨i, j, h1, h2, h3, h4⟩
  · exact op_mulS pins s σ H x y u v Q I rx ry ⟨i, j, h1, h2, h3, h4⟩
private theorem j_add (ha : JE X a fa) (hb : JE X b fb) : JE X (.BinOp a .Add b pos) (wOp (RI0 fun i j => .int (i + j)) fa fb) := j_op op_add (w_I0 fun _ _ => rfl) ha hb
private theorem j_sub (ha : JE X a fa) (hb : JE X b fb) : JE X (.BinOp a .Sub b pos) (wOp (RI0 fun i j => .int (i - j)) fa fb) := j_op op_sub (w_I0 fun _ _ => rfl) ha hb
private theorem j_mul (ha : JE X a fa) (hb : JE X b fb) : JE X (.BinOp a .Mult b pos) (wOp (RI CM fun i j => .int (i * j)) fa fb) := j_op op_mulA (w_I fun _ _ => rfl) ha hb
private theorem j_fdiv (ha : JE X a fa) (hb : JE X b fb) : JE X (.BinOp a .FloorDiv b pos) (wOp (RI CDivS fun i j => .int (i.fdiv j)) fa fb) := j_op op_fdivS (w_I fun _ _ => rfl) ha hb
private theorem j_mod (ha : JE X a fa) (hb : JE X b fb) : JE X (.BinOp a .Mod b pos) (wOp (RI (fun _ j => j ≠ 0) fun i j => .int (i.fmod j)) fa fb) := j_op op_modN (w_I fun _ _ => rfl) ha hb
private theorem j_pow (ha : JE X a fa) (hb : JE X b fb) : JE X (.BinOp a .Pow b pos) (wOp (RI CPow fun i j => .int (i ^ j.toNat)) fa fb) := j_op op_pow (w_I fun _ _ => rfl) ha hb
private theorem j_lt (ha : JE X a fa) (hb : JE X b fb) : JE X (.Compare a [.Lt] [b] pos) (wOp (RI0 fun i j => .bl (decide (i < j))) fa fb) := j_cmp op_lt (w_I0 fun _ _ => rfl) ha hb (nomark _)
private theorem j_gt (ha : JE X a fa) (hb : JE X b fb) : JE X (.Compare a [.Gt] [b] pos) (wOp (RI0 fun i j => .bl (decide (j < i))) fa fb) := j_cmp op_gt (w_I0 fun _ _ => rfl) ha hb (nomark _)
private theorem j_ge (ha : JE X a fa) (hb : JE X b fb) : JE X (.Compare a [.GtE] [b] pos) (wOp (RI0 fun i j => .bl (decide (j ≤ i))) fa fb) := j_cmp op_ge (w_I0 fun _ _ => rfl) ha hb (nomark _)
end
end L4
set_option Elab.async false
set_option linter.all false
set_option maxRecDepth 100000
namespace L4
open PySem PySem.Spec PyProof.Rows L2 L3
section
variable {X : Cx} {a b c e : Expr} {es rest : List Expr} {pos : Pos} {fa fb fe : WE} {ft fu : WT} {fl : WA} {fn : WN}
noncomputable def RE : D → D → (D → Prop) → Prop := fun x y P => dep x ≤ 60 ∧ P (.bl (peq x y))
noncomputable def RNe : D → D → (D → Prop) → Prop := fun x y P => dep x ≤ 60 ∧ P (.bl (!peq x y))
noncomputable def rEq4 (K : PySem.W.Frag) : R2 := fun x y H Q => ∃ d e, Rp K H d x ∧ Rp K H e y ∧ dep d ≤ 60 ∧ Q (.bl (peq d e)) H
noncomputable def rNe4 (K : PySem.W.Frag) : R2 := fun x y H Q => ∃ d e, Rp K H d x ∧ Rp K H e y ∧ dep d ≤ 60 ∧ Q (.bl (!peq d e)) H
private theorem op_eq4 (hu : X.A.units + 60 < cLine) : OpR X (compareOp .Eq) (rEq4 X.K) := by
  intro pins s σ H x y u v Q I rx ry h
  obtain ⟨d, e, hd, he, hn, q⟩ := h
  exact (deep4 I X.A d e x y u v hn hu hd he rx ry).2.1 _ _ _ _ ⟨.bl (peq d e), H, I, rfl, q⟩
private theorem op_ne4 (hu : X.A.units + 60 < cLine) : OpR X (compareOp .NotEq) (rNe4 X.K) := by
  intro pins s σ H x y u v Q I rx ry h
  obtain ⟨d, e, hd, he, hn, q⟩ := h
  exact (deep4 I X.A d e x y u v hn hu hd he rx ry).2.2 _ _ _ _ ⟨.bl (!peq d e), H, I, rfl, q⟩
private theorem w_eq : OpW X (rEq4 X.K) RE := fun x y v u F H Q P sm rx ry h k => ⟨x, y, rx.same sm, ry.same sm, h.1, k _ _ F H .rf (by rw [Rp]) h.2⟩
private theorem w_ne : OpW X (rNe4 X.K) RNe := fun x y v u F H Q P sm rx ry h k => ⟨x, y, rx.same sm, ry.same sm, h.1, k _ _ F H .rf (by rw [Rp]) h.2⟩
private theorem j_eq {hv : Option Value} {k : Nat} (hr : RoomY hv k X.A) (ha : JE X a fa) (hb : JE X b fb) : JE X (.Compare a [.Eq] [b] pos) (wOp RE fa fb) := j_cmp (op_eq4 (Room.u60 hr)) w_eq ha hb (nomark _)
noncomputable def RNeg : D → (D → Prop) → Prop := fun x P => match x with
  | .int i => P (.int (-i))
  | _ => False
private theorem j_neg (ha : JE X a fa) : JE X (.UnaryOp .USub a pos) (wUn RNeg fa) := j_un un_neg (fun x v F H Q P sm rx h k => by
  unfold RNeg at h
  split at h
  · rw [Rp] at rx
    exact ⟨_, rx, k _ _ F H .rf (by rw [Rp]) h⟩
  · exact h.elim) ha
noncomputable def wB (f : WE) : WT := fun ρ M P => f ρ M fun d ρ1 M1 => match d with
  | .bl k => P k ρ1 M1
  | _ => False
private theorem of_B {fa : WE} : ∀ σ H Q, lfT X.K (wB fa) σ H Q → tB (lf X.K fa) σ H Q := fun σ H Q hh => ex5 hh fun Z F ρ M P ag hf k => ⟨Z, F, ρ, M, _, ag, hf, fun v H' F' d ρ' M' s' ag' r h => by
  split at h
  · rw [Rp] at r
    exact ⟨_, r, k _ H' F' ρ' M' s' ag' h⟩
  · exact h.elim⟩
private theorem jt (ha : JE X a fa) (he : ∀ whole, isTrue a X.env whole = (do let v ← whole; standAt a.pos; holding [v] (truthy v)) := by intro _; rfl) : JT X a (wB fa) := ⟨imT (pt_val ha.h he) of_B⟩
private theorem jt_cmp {op : CmpOp} {r : R2} {R : D → D → (D → Prop) → Prop} (o : OpR X (compareOp op) r) (w : OpW X r R) (ha : JE X a fa) (hb : JE X b fb) (hm : behindInMarks op b = false) : JT X (.Compare a [op] [b] pos) (wB (wOp R fa fb)) :=
  ⟨imT (pt_cmpR o ha.h hb.h hm) fun σ H Q h => of_op w σ H _ (by
    obtain ⟨Z, F, ρ, M, P, ag, hf, k⟩ := h
    refine ⟨Z, F, ρ, M, _, ag, hf, fun v H' F' d ρ' M' s' ag' r h => ?_⟩
    split at h
    · rw [Rp] at r
      exact ⟨_, r, k _ H' F' ρ' M' s' ag' h⟩
    · exact h.elim)⟩
private theorem jt_lt (ha : JE X a fa) (hb : JE X b fb) : JT X (.Compare a [.Lt] [b] pos) (wB (wOp (RI0 fun i j => .bl (decide (i < j))) fa fb)) := jt_cmp op_lt (w_I0 fun _ _ => rfl) ha hb (nomark _)
private theorem jt_gt (ha : JE X a fa) (hb : JE X b fb) : JT X (.Compare a [.Gt] [b] pos) (wB (wOp (RI0 fun i j => .bl (decide (j < i))) fa fb)) := jt_cmp op_gt (w_I0 fun _ _ => rfl) ha hb (nomark _)
private theorem jt_eq {hv : Option Value} {k : Nat} (hr : RoomY hv k X.A) (ha : JE X a fa) (hb : JE X b fb) : JT X (.Compare a [.Eq] [b] pos) (wB (wOp RE fa fb)) := jt_cmp (op_eq4 (Room.u60 hr)) w_eq ha hb (nomark _)
private theorem jt_ne {hv : Option Value} {k : Nat} (hr : RoomY hv k X.A) (ha : JE X a fa) (hb : JE X b fb) : JT X (.Compare a [.NotEq] [b] pos) (wB (wOp RNe fa fb)) := jt_cmp (op_ne4 (Room.u60 hr)) w_ne ha hb (nomark _)
noncomputable def wNot (f : WT) : WT := fun ρ M P => f ρ M fun b ρ1 M1 => P (!b) ρ1 M1
noncomputable def wAnd (f g : WT) : WT := fun ρ M P => f ρ M fun b ρ1 M1 => if b = true then g ρ1 M1 P else P false ρ1 M1
noncomputable def wOr (f g : WT) : WT := fun ρ M P => f ρ M fun b ρ1 M1 => if b = true then P true ρ1 M1 else g ρ1 M1 P
private theorem jt_not (ha : JT X a ft) : JT X (.UnaryOp .Not a pos) (wNot ft) := ⟨imT (pt_not ha.h) fun σ H Q hh => ex5 hh fun Z F ρ M P ag hf k => ⟨Z, F, ρ, M, _, ag, hf, fun b H' F' ρ' M' s' ag' h => k _ H' F' ρ' M' s' ag' h⟩⟩
private theorem jw_and1 (ha : JT X a ft) : JW X (.BoolOp .And [a] pos) ft := ⟨pw_and1 ha.h⟩
private theorem jw_or1 (ha : JT X a ft) : JW X (.BoolOp .Or [a] pos) ft := ⟨pw_or1 ha.h⟩
private theorem jw_and (ha : JT X a ft) (hb : JW X (.BoolOp .And (b :: rest) pos) fu) : JW X (.BoolOp .And (a :: b :: rest) pos) (wAnd ft fu) := ⟨imW (pw_and ha.h hb.h) fun σ H Q hh => ex5 hh fun Z F ρ M P ag hf k => ⟨Z, F, ρ, M, _, ag, hf, fun b H' F' ρ' M' s' ag' h => by
  cases b with
  | true => rw [if_pos rfl] at h ⊢; exact ⟨Z, F', ρ', M', P, ag', h, fun b H2 F2 ρ2 M2 s2 => k b H2 F2 ρ2 M2 (s'.trans s2)⟩
  | false => rw [if_neg Bool.false_ne_true] at h ⊢; exact k _ H' F' ρ' M' s' ag' h⟩⟩
private theorem jw_or (ha : JT X a ft) (hb : JW X (.BoolOp .Or (b :: rest) pos) fu) : JW X (.BoolOp .Or (a :: b :: rest) pos) (wOr ft fu) := ⟨imW (pw_or ha.h hb.h) fun σ H Q hh => ex5 hh fun Z F ρ M P ag hf k => ⟨Z, F, ρ, M, _, ag, hf, fun b H' F' ρ' M' s' ag' h => by
  cases b with
  | true => rw [if_pos rfl] at h ⊢; exact k _ H' F' ρ' M' s' ag' h
  | false => rw [if_neg Bool.false_ne_true] at h ⊢; exact ⟨Z, F', ρ', M', P, ag', h, fun b H2 F2 ρ2 M2 s2 => k b H2 F2 ρ2 M2 (s'.trans s2)⟩⟩⟩
private theorem JW.jt (h : JW X e ft) : JT X e ft := ⟨h.h.pt⟩
noncomputable def wNotV (f : WE) : WE := fun ρ M P => f ρ M fun d ρ1 M1 => match d with
  | .bl k => P (.bl (!k)) ρ1 M1
  | _ => False
noncomputable def wAndV (f g : WE) : WE := fun ρ M P => f ρ M fun d ρ1 M1 => match d with
  | .bl k => if k = true then g ρ1 M1 P else P (.bl false) ρ1 M1
  | _ => False
noncomputable def wOrV (f g : WE) : WE := fun ρ M P => f ρ M fun d ρ1 M1 => match d with
  | .bl k => if k = true then P (.bl true) ρ1 M1 else g ρ1 M1 P
  | _ => False
private theorem j_not (ha : JE X a fa) : JE X (.UnaryOp .Not a pos) (wNotV fa) := ⟨imE (pe_not ha.h) fun σ H Q hh => ex5 hh fun Z F ρ M P ag hf k => ⟨Z, F, ρ, M, _, ag, hf, fun v H' F' d ρ' M' s' ag' r h => by
  split at h
  · rw [Rp] at r
    exact ⟨_, r, k _ H' F' _ ρ' M' s' ag' (by rw [Rp]) h⟩
  · exact h.elim⟩⟩
private theorem j_one {op : BoolOp} (ha : JE X a fa) : JE X (.BoolOp op [a] pos) fa := ⟨pe_one ha.h⟩
private theorem j_and (ha : JE X a fa) (hb : JE X (.BoolOp .And (b :: rest) pos) fb) : JE X (.BoolOp .And (a :: b :: rest) pos) (wAndV fa fb) := ⟨imE (pe_and ha.h hb.h) fun σ H Q hh => ex5 hh fun Z F ρ M P ag hf k => ⟨Z, F, ρ, M, _, ag, hf, fun v H' F' d ρ' M' s' ag' r h => by
  split at h
  · rename_i kk
    rw [Rp] at r
    refine ⟨_, r, ?_⟩
    cases kk with
    | true => rw [if_pos rfl] at h ⊢; exact ⟨Z, F', ρ', M', P, ag', h, fun v H2 F2 d ρ2 M2 s2 => k v H2 F2 d ρ2 M2 (s'.trans s2)⟩
    | false => rw [if_neg Bool.false_ne_true] at h ⊢; exact k _ H' F' _ ρ' M' s' ag' (by rw [Rp]) h
  · exact h.elim⟩⟩
private theorem j_or (ha : JE X a fa) (hb : JE X (.BoolOp .Or (b :: rest) pos) fb) : JE X (.BoolOp .Or (a :: b :: rest) pos) (wOrV fa fb) := ⟨imE (pe_or ha.h hb.h) fun σ H Q hh => ex5 hh fun Z F ρ M P ag hf k => ⟨Z, F, ρ, M, _, ag, hf, fun v H' F' d ρ' M' s' ag' r h => by
  split at h
  · rename_i kk
    rw [Rp] at r
    refine ⟨_, r, ?_⟩
    cases kk with
    | true => rw [if_pos rfl] at h ⊢; exact k _ H' F' _ ρ' M' s' ag' (by rw [Rp]) h
    | false => rw [if_neg Bool.false_ne_true] at h ⊢; exact ⟨Z, F', ρ', M', P, ag', h, fun v H2 F2 d ρ2 M2 s2 => k v H2 F2 d ρ2 M2 (s'.trans s2)⟩
  · exact h.elim⟩⟩
noncomputable def wIfE (c : WT) (f g : WE) : WE := fun ρ M P => c ρ M fun b ρ1 M1 => if b = true then f ρ1 M1 P else g ρ1 M1 P
private theorem j_ifE (hc : JT X c ft) (ha : JE X a fa) (hb : JE X b fb) : JE X (.IfExp c a b pos) (wIfE ft fa fb) := ⟨imE (pe_ifExp hc.h ha.h hb.h) fun σ H Q hh => ex5 hh fun Z F ρ M P ag hf k => ⟨Z, F, ρ, M, _, ag, hf, fun b H' F' ρ' M' s' ag' h => by
  cases b with
  | true => rw [if_pos rfl] at h ⊢; exact ⟨Z, F', ρ', M', P, ag', h, fun v H2 F2 d ρ2 M2 s2 => k v H2 F2 d ρ2 M2 (s'.trans s2)⟩
  | false => rw [if_neg Bool.false_ne_true] at h ⊢; exact ⟨Z, F', ρ', M', P, ag', h, fun v H2 F2 d ρ2 M2 s2 => k v H2 F2 d ρ2 M2 (s'.trans s2)⟩⟩⟩
end
end L4
set_option Elab.async false
set_option linter.all false
set_option maxRecDepth 100000
namespace L4
open PySem PySem.Spec PyProof.Rows L2 L3
section
variable {X : Cx} {a b c e : Expr} {es rest : List Expr} {pos : Pos} {fa fb fe : WE} {ft fu : WT} {fl : WA} {fn : WN}
noncomputable def wNil : WA := fun ρ M P => P [] ρ M
noncomputable def wCons (f : WE) (g : WA) : WA := fun ρ M P => f ρ M fun d ρ1 M1 => g ρ1 M1 fun ds ρ2 M2 => P (d :: ds) ρ2 M2
private theorem ja_nil : JA X [] wNil := ⟨imA pa_nil fun σ H Q hh => ex5 hh fun Z F ρ M P ag hf k => k [] H F [] ρ M (Same.refl _) ag .nil hf⟩
private theorem ja_cons (ha : JE X e fe) (hr : JA X es fl) (hs : starEach (e :: es) X.env = (false, eval e X.env) :: starEach es X.env := by rfl) : JA X (e :: es) (wCons fe fl) := ⟨imA (pa_cons ha.h hr.h hs) fun σ H Q hh => ex5 hh fun Z F ρ M P ag hf k =>
  ⟨Z, F, ρ, M, _, ag, hf, fun v H1 F1 d1 ρ1 M1 s1 ag1 r1 h1 => ⟨Z, F1, ρ1, M1, _, ag1, h1, fun vs H2 F2 ds ρ2 M2 s2 ag2 r2 h2 => k _ H2 F2 _ ρ2 M2 (s1.trans s2) ag2 (.cons (r1.same s2) r2) h2⟩⟩⟩
noncomputable def wTup (f : WA) : WE := fun ρ M P => f ρ M fun ds ρ1 M1 => ds.length ≤ sizeLine ∧ P (.tup ds) ρ1 M1
private theorem j_tup {x1} (h : JA X es fl) : JE X (.Tuple es x1 pos) (wTup fl) := ⟨imE (pe_tup h.h) fun σ H Q hh => ex5 hh fun Z F ρ M P ag hf k => ⟨Z, F, ρ, M, _, ag, hf, fun vs H1 F1 ds ρ1 M1 s1 ag1 r1 h1 => by
  refine ⟨by rw [← r1.length]; exact h1.1, fun p hp => ?_⟩
  have s2 : Same F1 (upd F1 p (.tup vs)) := Same.new (sub_none ag1.m.sm hp)
  exact k _ _ (upd F1 p (.tup vs)) _ ρ1 M1 (s1.trans s2) (ag1.new hp) (by rw [Rp]; exact ⟨p, vs, rfl, SqT.of upd_same, r1.same s2⟩) h1.2⟩⟩
private theorem newN {Z F H : Hp} {M : Mm} {ρ : Rho} {σ : L2.St} {p : Addr} {vs : List V} {ds : List D} {K : PySem.W.Frag} (ag : Ag K Z F M H ρ σ) (hp : H p = none) (r : Rps K F ds vs) :
    Ag K Z F M (upd H p (.lst vs)) ρ σ ∧ upd H p (.lst vs) p = some (.lst vs) ∧ F p = none ∧ M p = none ∧ Z p = none ∧ (∀ (j : Nat) (es : List D), ρ[j]? = some (.ow es) → σ[j]? ≠ some (some (.ref p))) ∧ Rps K F ds vs := by
  refine ⟨ag.newO hp, upd_same, sub_none ag.m.sm hp, ?_, ?_, fun j es h z => ?_, r⟩
  · cases q : M p with
    | none => rfl
    | some o =>
      obtain ⟨_, k⟩ := ag.m.mo p o q
      obtain ⟨u, hu⟩ := k.there
      rw [hp] at hu; cases hu
  · cases q : Z p with
    | none => rfl
    | some o => have := (ag.m.zz p o q).1; rw [hp] at this; cases this
  · obtain ⟨q, ws, h1, h2, _⟩ := ag.en j _ h
    rw [z] at h1
    cases h1
    rw [hp] at h2; cases h2
noncomputable def wLst (f : WA) : WN := fun ρ M P => f ρ M fun ds ρ1 M1 => ds.length ≤ sizeLine ∧ P ds ρ1 M1
private theorem jn_lst (h : JA X es fl) : JN X (.List es pos) (wLst fl) := ⟨imE (pe_lst h.h) fun σ H Q hh => ex5 hh fun Z F ρ M P ag hf k => ⟨Z, F, ρ, M, _, ag, hf, fun vs H1 F1 ds ρ1 M1 s1 ag1 r1 h1 => by
  refine ⟨by rw [← r1.length]; exact h1.1, fun p hp => ?_⟩
  obtain ⟨n1, n2, n3, n4, nz, n5, n6⟩ := newN ag1 hp r1
  exact k p vs _ F1 ds ρ1 M1 s1 n1 n2 n3 n4 nz n5 n6 h1.2⟩⟩
noncomputable def wFz (f : WN) : WE := fun ρ M P => f ρ M fun ds ρ1 M1 => P (.lst ds) ρ1 M1
private theorem fz_new {Z F H : Hp} {M : Mm} {ρ : Rho} {σ : L2.St} {p : Addr} {vs : List V} {K : PySem.W.Frag} (ag : Ag K Z F M H ρ σ) (n2 : H p = some (.lst vs)) (n3 : F p = none) (n4 : M p = none) (nz : Z p = none) (n5 : ∀ (j : Nat) (es : List D), ρ[j]? = some (.ow es) → σ[j]? ≠ some (some (.ref p))) :
    Ag K Z (upd F p (.lst vs)) M H ρ σ := by
  have s1 : Same F (upd F p (.lst vs)) := Same.new n3
  refine ⟨⟨fun b u e => ?_, fun q o e => ?_, fun q o e => ?_⟩, ag.len, fun i e h => ?_, ag.di⟩
  · by_cases hb : b = p
    · subst hb; rw [upd_same] at e; cases e; exact n2
    · rw [upd_ne hb] at e; exact ag.m.sm b u e
  · obtain ⟨z1, z2, z3⟩ := ag.m.zz q o e
    have : q ≠ p := fun z => by rw [z, nz] at e; cases e
    exact ⟨z1, by rw [upd_ne this]; exact z2, z3⟩
  · obtain ⟨z1, z2⟩ := ag.m.mo q o e
    have : q ≠ p := fun z => by rw [z, n4] at e; cases e
    exact ⟨by rw [upd_ne this]; exact z1, z2.same s1 rfl⟩
  · have := ag.en i e h
    cases e with
    | un => trivial
    | sh d => obtain ⟨v, h1, h2⟩ := this; exact ⟨v, h1, Rp.same s1 h2⟩
    | rf p => exact this
    | ut u => obtain ⟨v, h1, h2⟩ := this; exact ⟨v, h1, RU.same s1 h2⟩
    | ow es =>
      obtain ⟨q, ws, h1, h2, h3, h4, h6, h5⟩ := this
      have hne : q ≠ p := fun z => by
        subst z
        have hj' : σ[i]? = some (some (.ref q)) := by
          cases y : σ[i]? with
          | none => rw [y] at h1; cases h1
          | some o => rw [y] at h1; simp at h1; rw [h1]
        exact n5 i es h hj'
      exact ⟨q, ws, h1, h2, by rw [upd_ne hne]; exact h3, h4, h6, Rps.same s1 h5⟩
private theorem j_fz (h : JN X e fn) : JE X e (wFz fn) := ⟨imE h.h fun σ H Q hh => ex5 hh fun Z F ρ M P ag hf k => ⟨Z, F, ρ, M, _, ag, hf, fun p vs H1 F1 ds ρ1 M1 s1 ag1 n2 n3 n4 nz n5 r1 h1 => by
  have s2 : Same F1 (upd F1 p (.lst vs)) := Same.new n3
  exact k _ H1 (upd F1 p (.lst vs)) _ ρ1 M1 (s1.trans s2) (fz_new ag1 n2 n3 n4 nz n5) (by rw [Rp]; exact ⟨p, vs, rfl, .inl upd_same, r1.same s2⟩) h1⟩⟩
private theorem at_rps {K : PySem.W.Frag} {F : Hp} {ds : List D} {vs : List V} {i : Int} {d : D} (r : Rps K F ds vs) (h : atI ds i = some d) : ∃ v, atI vs i = some v ∧ Rp K F d v := by
  unfold atI at h ⊢
  rw [r.length] at h
  cases e : ixN vs.length i with
  | none => rw [e] at h; cases h
  | some j =>
    rw [e] at h
    exact r.get h
noncomputable def RIx : D → D → (D → Prop) → Prop := fun x y P => match x, y with
  | .tup ds, .int i => (match atI ds i with
    | some d => P d
    | none => False)
  | .lst ds, .int i => (match atI ds i with
    | some d => P d
    | none => False)
  | _, _ => False
private theorem w_ix : OpW X (rIx X.K) RIx := by
  intro x y v u F H Q P sm rx ry h k
  unfold RIx at h
  split at h
  · rename_i ds i
    rw [Rp] at rx
    rw [Rp] at ry
    obtain ⟨p, vs, rfl, h1, h2⟩ := rx
    split at h
    · rename_i d hd
      obtain ⟨w, h3, h4⟩ := at_rps h2 hd
      exact .inr (.inl ⟨p, vs, i, w, rfl, ry, sqT_same sm h1, h3, k d w F H .rf h4 h⟩)
    · exact h.elim
  · rename_i ds i
    rw [Rp] at rx
    rw [Rp] at ry
    obtain ⟨p, vs, rfl, h1, h2⟩ := rx
    split at h
    · rename_i d hd
      obtain ⟨w, h3, h4⟩ := at_rps h2 hd
      exact .inl ⟨p, vs, i, w, rfl, ry, .inl (rd_same sm h1), h3, k d w F H .rf h4 h⟩
    · exact h.elim
  · exact h.elim
private theorem j_at (ha : JE X a fa) (hb : JE X b fb) (hs : PlainIx b := by intro _ _; rfl) : JE X (.Subscript a b pos) (wOp RIx fa fb) := j_ix ix_seq w_ix ha hb hs
section
variable {x : Str} {p : Pos} {id T : String} {r : List V → Hp → VK → Prop} {R : List D → (D → Prop) → Prop}
private theorem j_callB (hc : CallR X (.builtin id) r) (w : CaW X r R) (hg : Gl X x) (hm : X.mg x = none) (hv : bootBuiltins x = some (.builtin id)) (ha : JA X (e :: es) fl) (hn : x ≠ "__name__" := by decide) (hdb : (x == ("__debug__" : Str)) = false := by decide)
    (he : starEach (e :: es) X.env = (false, eval e X.env) :: starEach es X.env := by rfl) (hpl : (backTo pos (starEach es X.env)).any (·.1) = false := by rfl) : JE X (.Call (.Name x p) (e :: es) [] pos) (wCall R fl) := ⟨imE (pe_callB hc hg hm hv ha.h hn hdb he hpl) (of_call w)⟩
private theorem j_callTy (hc : CallR X (.type T) r) (w : CaW X r R) (hg : Gl X x) (hm : X.mg x = none) (hv : bootBuiltins x = some (.type T)) (ha : JA X (e :: es) fl) (hn : x ≠ "__name__" := by decide) (hdb : (x == ("__debug__" : Str)) = false := by decide)
    (he : starEach (e :: es) X.env = (false, eval e X.env) :: starEach es X.env := by rfl) (hpl : (backTo pos (starEach es X.env)).any (·.1) = false := by rfl) : JE X (.Call (.Name x p) (e :: es) [] pos) (wCall R fl) := ⟨imE (pe_callTy hc hg hm hv ha.h hn hdb he hpl) (of_call w)⟩
end
noncomputable def RLen : List D → (D → Prop) → Prop := fun xs P => match xs with
  | [.lst ds] => P (.int ds.length)
  | [.tup ds] => P (.int ds.length)
  | _ => False
private theorem rps1 {K : PySem.W.Frag} {F : Hp} {d : D} {vs : List V} (h : Rps K F [d] vs) : ∃ v, vs = [v] ∧ Rp K F d v := by
  rw [Rps] at h
  obtain ⟨v, r, rfl, h1, h2⟩ := h
  rw [Rps] at h2
  subst h2
  exact ⟨v, rfl, h1⟩
private theorem rps2 {K : PySem.W.Frag} {F : Hp} {d e : D} {vs : List V} (h : Rps K F [d, e] vs) : ∃ v u, vs = [v, u] ∧ Rp K F d v ∧ Rp K F e u := by
  rw [Rps] at h
  obtain ⟨v, r, rfl, h1, h2⟩ := h
  obtain ⟨u, rfl, h3⟩ := rps1 h2
  exact ⟨v, u, rfl, h1, h3⟩
private theorem w_len : CaW X (fun xs H Q => ∃ p ys, xs = [.ref p] ∧ (SqL X.K H p ys ∨ SqT X.K H p ys) ∧ Q (.int ys.length) H) RLen := by
  intro xs vs F H Q P sm rs h k
  unfold RLen at h
  split at h
  · rename_i ds
    obtain ⟨v, rfl, r⟩ := rps1 rs
    rw [Rp] at r
    obtain ⟨p, ws, rfl, h1, h2⟩ := r
    refine ⟨p, ws, rfl, .inl (.inl (rd_same sm h1)), k _ _ F H .rf ?_ h⟩
    rw [Rp, h2.length]
  · rename_i ds
    obtain ⟨v, rfl, r⟩ := rps1 rs
    rw [Rp] at r
    obtain ⟨p, ws, rfl, h1, h2⟩ := r
    refine ⟨p, ws, rfl, .inr (sqT_same sm h1), k _ _ F H .rf ?_ h⟩
    rw [Rp, h2.length]
  · exact h.elim
noncomputable def RAbs : List D → (D → Prop) → Prop := fun xs P => match xs with
  | [.int i] => P (.int (if i < 0 then -i else i))
  | _ => False
private theorem w_abs : CaW X (fun xs H Q => ∃ i, xs = [.int i] ∧ Q (.int (if i < 0 then -i else i)) H) RAbs := by
  intro xs vs F H Q P sm rs h k
  unfold RAbs at h
  split at h
  · obtain ⟨v, rfl, r⟩ := rps1 rs
    rw [Rp] at r
    subst r
    exact ⟨_, rfl, k _ _ F H .rf (by rw [Rp]) h⟩
  · exact h.elim
noncomputable def RInt : List D → (D → Prop) → Prop := fun xs P => match xs with
  | [.int i] => P (.int i)
  | [.bl i] => P (.int (if i then 1 else 0))
  | _ => False
private theorem w_int : CaW X (fun xs H Q => (∃ i, xs = [.int i] ∧ Q (.int i) H) ∨ ∃ k, xs = [.bl k] ∧ Q (.int (if k then 1 else 0)) H) RInt := by
  intro xs vs F H Q P sm rs h k
  unfold RInt at h
  split at h
  · obtain ⟨v, rfl, r⟩ := rps1 rs
    rw [Rp] at r
    subst r
    exact .inl ⟨_, rfl, k _ _ F H .rf (by rw [Rp]) h⟩
  · obtain ⟨v, rfl, r⟩ := rps1 rs
    rw [Rp] at r
    subst r
    exact .inr ⟨_, rfl, k _ _ F H .rf (by rw [Rp]) h⟩
  · exact h.elim
end
end L4
set_option Elab.async false
set_option linter.all false
set_option maxRecDepth 100000
namespace L4
open PySem PySem.Spec PyProof.Rows L2 L3
noncomputable def Zof (F : Hp) (M : Mm) (H : Hp) : Hp := fun p => if (F p).isNone = true ∧ (M p).isNone = true then H p else none
private theorem zof_some {F H : Hp} {M : Mm} {p : Addr} {o : HO} (h : Zof F M H p = some o) : H p = some o ∧ F p = none ∧ M p = none := by
  unfold Zof at h
  split at h
  · rename_i c
    exact ⟨h, Option.isNone_iff_eq_none.mp c.1, Option.isNone_iff_eq_none.mp c.2⟩
  · cases h
private theorem zof_of {F H : Hp} {M : Mm} {p : Addr} {o : HO} (h1 : H p = some o) (h2 : F p = none) (h3 : M p = none) : Zof F M H p = some o := by
  unfold Zof
  rw [if_pos ⟨by rw [h2]; rfl, by rw [h3]; rfl⟩]
  exact h1
section
variable {K : PySem.W.Frag} {Z F F' H H' : Hp} {M M' : Mm} {ρ : Rho} {σ : L2.St}
private theorem AgM.inner (a : AgM K Z F M H) : AgM K (Zof F M H) F M H := ⟨a.sm, fun _ _ h => zof_some h, a.mo⟩
private theorem AgM.back (a : AgM K Z F M H) (b : AgM K (Zof F M H) F' M' H') : AgM K Z F' M' H' := ⟨b.sm, fun p o h => by
  obtain ⟨z1, z2, z3⟩ := a.zz p o h
  exact b.zz p o (zof_of z1 z2 z3), b.mo⟩
private theorem Ag.back (a : Ag K Z F M H ρ σ) (s : Same F F') (b : AgM K (Zof F M H) F' M' H') : Ag K Z F' M' H' ρ σ := by
  refine ⟨a.m.back b, a.len, fun i e h => ?_, a.di⟩
  have := a.en i e h
  cases e with
  | un => trivial
  | sh d => obtain ⟨v, h1, h2⟩ := this; exact ⟨v, h1, Rp.same s h2⟩
  | rf p => exact this
  | ut u => obtain ⟨v, h1, h2⟩ := this; exact ⟨v, h1, RU.same s h2⟩
  | ow ds =>
    obtain ⟨p, vs, h1, h2, h3, h4, h5, h6⟩ := this
    obtain ⟨z1, z2, z3⟩ := b.zz p _ (zof_of h2 h3 h4)
    exact ⟨p, vs, h1, z1, z2, z3, h5, Rps.same s h6⟩
end
noncomputable abbrev WF := List D → Mm → (D → Mm → Prop) → Prop
noncomputable def spW (K : PySem.W.Frag) (g : WF) : Sp := fun vs H Q _ => ∃ Z F M ds P, AgM K Z F M H ∧ Rps K F ds vs ∧ g ds M P ∧ ∀ v H' F' d M', Same F F' → AgM K Z F' M' H' → Rp K F' d v → P d M' → Q v H'
noncomputable def wFn (g : WF) (fl : WA) : WE := fun ρ M P => fl ρ M fun ds ρ1 M1 => g ds M1 fun d M2 => P d ρ1 M2
section
variable {X : Cx} {a b c e : Expr} {es rest : List Expr} {pos p : Pos} {fa fb fe : WE} {ft fu : WT} {fl : WA} {fn : WN} {st : Stmt} {sts : List Stmt} {fs gs : WS} {x : Str}
private theorem j_h {g : WF} {k : Nat} {ps : List Str} (F : Has X.prog X.w X.K X.mg X.base CX0 k x ps (spW X.K g)) (hr : Room k X.A) (hg : Gl X x) (ha : JA X (e :: es) fl) (hdb : (x == ("__debug__" : Str)) = false := by decide) (he : starEach (e :: es) X.env = (false, eval e X.env) :: starEach es X.env := by rfl) (hpl : (backTo pos (starEach es X.env)).any (·.1) = false := by rfl) :
    JE X (.Call (.Name x p) (e :: es) [] pos) (wFn g fl) := ⟨imE (pe_h F hr hg pass0 ha.h hdb he hpl) fun σ H Q hh => ex5 hh fun Z F ρ M P ag hf k => ⟨Z, F, ρ, M, _, ag, hf, fun vs H1 F1 ds ρ1 M1 s1 ag1 r1 h1 => by
  show spW X.K g (vs ++ []) H1 Q E0
  rw [List.append_nil]
  exact ⟨_, F1, M1, ds, _, ag1.m.inner, r1, h1, fun v H' F' d M' s' m' r h => k v H' F' d ρ1 M' (s1.trans s') (ag1.back s' m') r h⟩⟩⟩
private theorem EndsOk.mono {K : PySem.W.Frag} {Z F F' : Hp} {E : WEnds} {D' : Ends} (h : EndsOk K Z F E D') (s : Same F F') : EndsOk K Z F' E D' :=
  ⟨fun σ' H' G ρ' M' t => h.nx σ' H' G ρ' M' (s.trans t), fun σ' H' G ρ' M' t => h.bk σ' H' G ρ' M' (s.trans t), fun σ' H' G ρ' M' t => h.ct σ' H' G ρ' M' (s.trans t), fun v H' G d M' t => h.rt v H' G d M' (s.trans t)⟩
noncomputable def wNext : WS := fun E ρ M => E.nx ρ M
noncomputable def wSeq (f g : WS) : WS := fun E ρ M => f ⟨fun ρ1 M1 => g E ρ1 M1, E.rt, E.bk, E.ct⟩ ρ M
private theorem jss_nil : JSs X [] wNext := ⟨imSs pss_nil fun D' σ H hh => ex5 hh fun Z F ρ M E ag hf k => k.nx σ H F ρ M (Same.refl _) ag hf⟩
private theorem jss_one (h : JS X st fs) : JSs X [st] fs := ⟨pss_one h.h⟩
private theorem jss_cons (h : JS X st fs) (h2 : JSs X sts gs) : JSs X (st :: sts) (wSeq fs gs) := ⟨imSs (pss_cons h.h h2.h) fun D' σ H hh => ex5 hh fun Z F ρ M E ag hf k =>
  ⟨Z, F, ρ, M, _, ag, hf, ⟨fun σ' H' F' ρ' M' s' ag' h => ⟨Z, F', ρ', M', E, ag', h, k.mono s'⟩, k.bk, k.ct, k.rt⟩⟩⟩
noncomputable def wDrop (f : WE) : WS := fun E ρ M => f ρ M fun _ ρ1 M1 => E.nx ρ1 M1
noncomputable def wRet (f : WE) : WS := fun E ρ M => f ρ M fun d _ M1 => E.rt (.d d) M1
private theorem js_ret (h : JE X e fe) : JS X (.Return (some e) pos) (wRet fe) := ⟨imS (ps_ret h.h) fun D' σ H hh => ex5 hh fun Z F ρ M E ag hf k => ⟨Z, F, ρ, M, _, ag, hf, fun v H' F' d ρ' M' s' ag' r h => k.rt v H' F' (.d d) M' s' ag'.m (by rw [RU]; exact r) h⟩⟩
noncomputable def wIf (c : WT) (f g : WS) : WS := fun E ρ M => c ρ M fun b ρ1 M1 => if b = true then f E ρ1 M1 else g E ρ1 M1
private theorem js_if {sa sb : List Stmt} (hc : JT X c ft) (ha : JSs X sa fs) (hb : JSs X sb gs) : JS X (.If c sa sb pos) (wIf ft fs gs) := ⟨imS (ps_if hc.h ha.h hb.h) fun D' σ H hh => ex5 hh fun Z F ρ M E ag hf k => ⟨Z, F, ρ, M, _, ag, hf, fun b H' F' ρ' M' s' ag' h => by
  cases b with
  | true => rw [if_pos rfl] at h ⊢; exact ⟨Z, F', ρ', M', E, ag', h, k.mono s'⟩
  | false => rw [if_neg Bool.false_ne_true] at h ⊢; exact ⟨Z, F', ρ', M', E, ag', h, k.mono s'⟩⟩⟩
section
variable {i : Nat} {pos' : Pos}
noncomputable def wSet (i : Nat) (f : WE) : WS := fun E ρ M => f ρ M fun d ρ1 M1 => E.nx (ρ1.set i (.sh d)) M1
private theorem js_set (hN : X.N.Nodup) (hi : X.N[i]? = some x) (hx : Loc X.env.scope x) (he : JE X e fe) (hs : swapsWith e (some (.Name x pos')) pos.line X.env = pure false := by rfl) (hf : X.fn x = true ∨ X.env.scope.names.lookup x = some .local := by first | exact .inl rfl | exact .inr rfl | assumption) :
    JS X (.Assign [.Name x pos'] e pos) (wSet i fe) := ⟨imS (ps_set hN hi hx he.h hs hf) fun D' σ H hh => ex5 hh fun Z F ρ M E ag hf k => ⟨Z, F, ρ, M, _, ag, hf, fun v H' F' d ρ' M' s' ag' r h => k.nx _ H' F' _ M' s' (ag'.set r) h⟩⟩
noncomputable def wSetN (i : Nat) (f : WN) : WS := fun E ρ M => f ρ M fun ds ρ1 M1 => E.nx (ρ1.set i (.ow ds)) M1
private theorem js_setN (hN : X.N.Nodup) (hi : X.N[i]? = some x) (hx : Loc X.env.scope x) (he : JN X e fn) (hs : swapsWith e (some (.Name x pos')) pos.line X.env = pure false := by rfl) (hf : X.fn x = true ∨ X.env.scope.names.lookup x = some .local := by first | exact .inl rfl | exact .inr rfl | assumption) :
    JS X (.Assign [.Name x pos'] e pos) (wSetN i fn) := ⟨imS (ps_set hN hi hx he.h hs hf) fun D' σ H hh => ex5 hh fun Z F ρ M E ag hf k => ⟨Z, F, ρ, M, _, ag, hf, fun p vs H' F' ds ρ' M' s' ag' n2 n3 n4 nz n5 r h => k.nx _ H' F' _ M' s' (ag'.setO n2 n3 n4 nz r n5) h⟩⟩
end
private theorem ow_get {K : PySem.W.Frag} {Z F H : Hp} {M : Mm} {ρ : Rho} {σ : L2.St} {i : Nat} {ds : List D} (ag : Ag K Z F M H ρ σ) (h : ρ[i]? = some (.ow ds)) : ∃ p vs, σ[i]? = some (some (.ref p)) ∧ H p = some (.lst vs) ∧ F p = none ∧ M p = none ∧ Z p = none ∧ Rps K F ds vs := by
  obtain ⟨p, vs, h1, h2⟩ := ag.en i _ h
  refine ⟨p, vs, ?_, h2⟩
  cases y : σ[i]? with
  | none => rw [y] at h1; cases h1
  | some o => rw [y] at h1; simp at h1; rw [h1]
private theorem Ag.chg {K : PySem.W.Frag} {Z F H : Hp} {M : Mm} {ρ : Rho} {σ : L2.St} {i : Nat} {ds es : List D} {p : Addr} {vs ws : List V} (ag : Ag K Z F M H ρ σ) (h : ρ[i]? = some (.ow ds)) (hs : σ[i]? = some (some (.ref p))) (h2 : H p = some (.lst vs)) (h3 : F p = none) (h4 : M p = none) (h5 : Z p = none) (r : Rps K F es ws) :
    Ag K Z F M (upd H p (.lst ws)) (ρ.set i (.ow es)) σ := by
  have hi : i < ρ.length := (List.getElem?_eq_some_iff.mp h).1
  have ne : ∀ {q : Addr} {u : HO}, F q = some u → q ≠ p := fun e z => by rw [z, h3] at e; cases e
  refine ⟨⟨fun q u e => by rw [upd_ne (ne e)]; exact ag.m.sm q u e, fun q o e => ?_, fun q o e => ?_⟩, by rw [List.length_set]; exact ag.len, fun j e q => ?_, fun j k ds' es' q n q1 q2 q3 => ?_⟩
  · obtain ⟨z1, z2, z3⟩ := ag.m.zz q o e
    have : q ≠ p := fun z => by rw [z, h5] at e; cases e
    exact ⟨by rw [upd_ne this]; exact z1, z2, z3⟩
  · obtain ⟨z1, z2⟩ := ag.m.mo q o e
    have : q ≠ p := fun z => by rw [z, h4] at e; cases e
    exact ⟨z1, z2.same (Same.refl _) (upd_ne this)⟩
  · by_cases hj : j = i
    · subst hj
      rw [List.getElem?_set_self hi] at q
      cases q
      exact ⟨p, ws, by rw [hs]; rfl, upd_same, h3, h4, h5, r⟩
    · rw [List.getElem?_set_ne (Ne.symm hj)] at q
      have := ag.en j e q
      cases e with
      | un => trivial
      | sh d => exact this
      | rf p => exact this
      | ut u => exact this
      | ow ds' =>
        obtain ⟨q', us, g1, g2, g3⟩ := this
        have hne : q' ≠ p := fun z => by
          subst z
          have hj' : σ[j]? = some (some (.ref q')) := by
            cases y : σ[j]? with
            | none => rw [y] at g1; cases g1
            | some o => rw [y] at g1; simp at g1; rw [g1]
          exact ag.di i j ds ds' q' (Ne.symm hj) h q hs hj'
        exact ⟨q', us, g1, by rw [upd_ne hne]; exact g2, g3⟩
  · have key : ∀ {j : Nat} {ds' : List D}, (ρ.set i (.ow es))[j]? = some (.ow ds') → ∃ ds'', ρ[j]? = some (.ow ds'') := fun {j ds'} q => by
      by_cases hj : j = i
      · subst hj; exact ⟨ds, h⟩
      · rw [List.getElem?_set_ne (Ne.symm hj)] at q; exact ⟨ds', q⟩
    obtain ⟨d1, e1⟩ := key q1
    obtain ⟨d2, e2⟩ := key q2
    exact ag.di j k d1 d2 q n e1 e2 q3
noncomputable def isOw : Option Ent → Prop
  | some (.ow _) => True
  | _ => False
private theorem isOw_of {o : Option Ent} (h : isOw o) : ∃ ds, o = some (.ow ds) := by
  unfold isOw at h
  split at h
  · exact ⟨_, rfl⟩
  · exact h.elim
noncomputable def wApp (i : Nat) (f : WE) : WS := fun E ρ M => isOw ρ[i]? ∧ f ρ M fun d ρ1 M1 => match ρ1[i]? with
  | some (.ow ds) => ds.length < sizeLine ∧ E.nx (ρ1.set i (.ow (ds ++ [d]))) M1
  | _ => False
private theorem js_app {i : Nat} (hh : PS X st (tDrop (tBM X.K "list" rAppend (tVar i) (lfA X.K (wCons fe wNil))))) : JS X st (wApp i fe) := ⟨imS hh fun D' σ H hh => ex5 hh fun Z F ρ M E ag hf k => by
  obtain ⟨ho, hf⟩ := hf
  obtain ⟨ds0, ho⟩ := isOw_of ho
  obtain ⟨p, vs, h1, h2, h3, h4, h5, h6⟩ := ow_get ag ho
  refine ⟨.ref p, h1, .inl ⟨rfl, vs, SqL.of h2⟩, Z, F, ρ, M, fun es ρ1 M1 => match es with
    | [d] => (match ρ1[i]? with
      | some (.ow ds) => ds.length < sizeLine ∧ E.nx (ρ1.set i (.ow (ds ++ [d]))) M1
      | _ => False)
    | _ => False, ag, hf, fun ws H1 F1 es ρ1 M1 s1 ag1 r1 hh => ?_⟩
  dsimp only at hh
  split at hh
  · rename_i d
    split at hh
    · rename_i ds hd
      obtain ⟨v, rfl, rv⟩ := rps1 r1
      obtain ⟨p', us, g1, g2, g3, g4, g5, g6⟩ := ow_get ag1 hd
      rw [h1] at g1
      cases g1
      refine ⟨p, us, v, rfl, rfl, g2, by rw [← g6.length]; exact hh.1, k.nx σ _ F1 _ M1 s1 (ag1.chg hd h1 g2 g3 g4 g5 (g6.append (.cons rv .nil))) hh.2⟩
    · exact hh.elim
  · exact hh.elim⟩
noncomputable def wAtO (i : Nat) (fk : WE) : WE := fun ρ M P => isOw ρ[i]? ∧ fk ρ M fun k ρ1 M1 => match ρ1[i]?, k with
  | some (.ow ds), .int j => (match atI ds j with
    | some d => P d ρ1 M1
    | none => False)
  | _, _ => False
private theorem j_atO {i : Nat} {fk : WE} (hh : PE X e (tOp (rIx X.K) (tVar i) (lf X.K fk))) : JE X e (wAtO i fk) := ⟨imE hh fun σ H Q hh => ex5 hh fun Z F ρ M P ag hf k => by
  obtain ⟨ho, hf⟩ := hf
  obtain ⟨ds0, ho⟩ := isOw_of ho
  obtain ⟨p, vs, e1, e2, e3, e4, e5, e6⟩ := ow_get ag ho
  refine ⟨.ref p, e1, Z, F, ρ, M, _, ag, hf, fun u H2 F2 dk ρ2 M2 s2 ag2 r2 h2 => ?_⟩
  split at h2
  · rename_i ds j hd
    rw [Rp] at r2
    split at h2
    · rename_i d hn
      obtain ⟨p', us, g1, g2, g3, g4, g5, g6⟩ := ow_get ag2 hd
      rw [e1] at g1
      cases g1
      obtain ⟨w, a1, a2⟩ := at_rps g6 hn
      exact .inl ⟨p, us, j, w, rfl, r2, SqL.of g2, a1, k w H2 F2 d ρ2 M2 s2 ag2 a2 h2⟩
    · exact h2.elim
  · exact h2.elim⟩
noncomputable def rIs4 (K : PySem.W.Frag) : List V → Hp → VK → Prop := fun xs H Q => ∃ d x n b, xs = [x, .ty n] ∧ Rp K H d x ∧ PySem.W.kitOne K (.type (tyN d)) (.type n) = some b ∧ Q (.bl b) H
private theorem call_is4 : CallR X (.builtin "isinstance") (rIs4 X.K) := by
  intro pins s σ H vs us Q I r h
  obtain ⟨d, x, n, b, rfl, rp, e, q⟩ := h
  obtain ⟨u, w', rfl, r1, r2⟩ := vals2 r
  cases (show w' = Value.type n from r2)
  have fin : ∀ tk : Nat, EP X pins σ Q (.bool b) { s with toks := tk } := fun tk => ⟨.bl b, H, I.tok tk, rfl, q⟩
  cases d with
  | non => rw [Rp] at rp; subst rp; exact isinst_ok I r1 .non e fin
  | bl k => rw [Rp] at rp; subst rp; exact isinst_ok I r1 (.bl k) e fin
  | int k => rw [Rp] at rp; subst rp; exact isinst_ok I r1 (.int k) e fin
  | str k => rw [Rp] at rp; subst rp; exact isinst_ok I r1 (.str k) e fin
  | tup ds =>
    rw [Rp] at rp
    obtain ⟨a, ws, rfl, h1, _⟩ := rp
    cases (show u = Value.ref a from r1)
    obtain ⟨its, _, ⟨o, g1, g2, _⟩, _⟩ := I.tuple h1
    exact PySem.W.kia_one PySem.W.kitx_tuple I.kIn ⟨o, g1, g2⟩ e (fun z => nomatch z) fin
  | lst ds =>
    rw [Rp] at rp
    obtain ⟨a, ws, rfl, h1, _⟩ := rp
    cases (show u = Value.ref a from r1)
    obtain ⟨its, _, ⟨o, n', g1, g2, _⟩, _⟩ := I.list (.inl h1)
    exact PySem.W.kia_one PySem.W.kitx_list I.kIn ⟨o, g1, g2⟩ e (fun z => nomatch z) fin
noncomputable def wIs (t : D → Bool) (f : WE) : WE := fun ρ M P => f ρ M fun d ρ1 M1 => P (.bl (t d)) ρ1 M1
private theorem j_is {t : D → Bool} {n : String} (hk : ∀ d, PySem.W.kitOne X.K (.type (tyN d)) (.type n) = some (t d)) (hh : ∀ {ta : TE}, PE X a ta → PE X e (tCB (rIs4 X.K) (tCons ta (tCons (tC (.ty n)) tNil)))) (ha : JE X a fa) : JE X e (wIs t fa) := ⟨imE (hh ha.h) fun σ H Q hh => ex5 hh fun Z F ρ M P ag hf k =>
  ⟨Z, F, ρ, M, _, ag, hf, fun v H1 F1 d ρ1 M1 s1 ag1 r1 h1 => ⟨d, v, n, _, rfl, r1.same ag1.m.sm, hk d, k _ H1 F1 _ ρ1 M1 s1 ag1 (by rw [Rp]) h1⟩⟩⟩
end
end L4
set_option Elab.async false
set_option linter.all false
set_option maxRecDepth 100000
namespace L4
open PySem PySem.Spec PyProof.Rows L2 L3
structure ItOk (K : PySem.W.Frag) (J : It) (F : Hp) (ds : List D) : Prop where
  go : ∀ i F' H, i < ds.length → Same F F' → Same F' H → J.go i H
  stop : ∀ F' H, Same F F' → Same F' H → J.stop ds.length H
  yld : ∀ (i : Nat) d F' H x H', ds[i]? = some d → Same F F' → Same F' H → J.yld i H x H' → ∃ F'', Gw F' H F'' H' ∧ Rp K F'' d x
noncomputable abbrev WI := Rho → Mm → (List D → Rho → Mm → Prop) → Prop
noncomputable def lfI (K : PySem.W.Frag) (f : WI) : TI := fun σ H R => ∃ Z F ρ M P, Ag K Z F M H ρ σ ∧ f ρ M P ∧ ∀ J H' F' ds ρ' M', Same F F' → Ag K Z F' M' H' ρ' σ → ItOk K J F' ds → P ds ρ' M' → R J H'
structure JIY (Y : Cx → Prop) (X : Cx) (tg iter : Expr) (f : WI) : Prop where
  h : PIY Y X tg iter (lfI X.K f)
noncomputable abbrev JI := JIY fun X => X.calm = true
private theorem imI {Y : Cx → Prop} {X : Cx} {tg iter : Expr} {t t' : TI} (h : PIY Y X tg iter t) (k : ∀ σ H R, t' σ H R → t σ H R) : PIY Y X tg iter t' := fun pins s σ H R I q => h pins s σ H R I (k σ H R q)
section
variable {X : Cx} {a b c e tg iter : Expr} {es rest : List Expr} {pos p : Pos} {fa fb fe : WE} {ft fu : WT} {fl : WA} {fn : WN} {st : Stmt} {sts : List Stmt} {fs gs : WS} {x : Str} {fi : WI} {fg : WG}
noncomputable def wIL (f : WE) : WI := fun ρ M P => f ρ M fun d ρ1 M1 => match d with
  | .lst ds => P ds ρ1 M1
  | _ => False
private theorem ji_list (ha : JE X a fa) : JI X tg a (wIL fa) := ⟨imI (pi_list ha.h) fun σ H R hh => ex5 hh fun Z F ρ M P ag hf k => ⟨Z, F, ρ, M, _, ag, hf, fun v H1 F1 d ρ1 M1 s1 ag1 r1 h1 => by
  split at h1
  · rename_i ds
    rw [Rp] at r1
    obtain ⟨q, vs, rfl, g1, g2⟩ := r1
    refine ⟨q, rfl, ⟨vs, .inl (rd_same ag1.m.sm g1)⟩, k _ H1 F1 ds ρ1 M1 s1 ag1 ⟨fun i F' H hi s s' => ?_, fun F' H s s' => ?_, fun i d F' H x H' hd s s' y => ?_⟩ h1⟩
    · exact ⟨vs, _, .inl (rd_same s' (rd_same s g1)), List.getElem?_eq_getElem (by rw [← g2.length]; exact hi)⟩
    · exact ⟨vs, .inl (rd_same s' (rd_same s g1)), by rw [g2.length]; exact Nat.le_refl _⟩
    · obtain ⟨rfl, y⟩ := y
      obtain ⟨w, h2, h3⟩ := g2.get hd
      have := y vs (.inl (rd_same s' (rd_same s g1)))
      rw [h2] at this
      cases this
      exact ⟨F', .rf, h3.same s⟩
  · exact h1.elim⟩⟩
noncomputable def rngD (lo : Int) (n : Nat) : List D := (List.range n).map fun (k : Nat) => D.int (lo + (k : Int))
private theorem it_rng {K : PySem.W.Frag} {F : Hp} (lo : Int) (n : Nat) : ItOk K (Itr lo n) F (rngD lo n) := by
  have hl : (rngD lo n).length = n := by unfold rngD; simp
  refine ⟨fun i F' H hi _ _ => ?_, fun F' H _ _ => ?_, fun i d F' H x H' hd s s' y => ?_⟩
  · show i < n
    omega
  · show n ≤ _
    omega
  · obtain ⟨rfl, rfl⟩ := y
    refine ⟨F', .rf, ?_⟩
    unfold rngD at hd
    rw [List.getElem?_map] at hd
    cases q : (List.range n)[i]? with
    | none => rw [q] at hd; cases hd
    | some j =>
      rw [q] at hd
      obtain ⟨hj, e⟩ := List.getElem?_eq_some_iff.mp q
      simp at e
      subst e
      simp at hd
      subst hd
      rw [Rp]
noncomputable def wIR1 (f : WA) : WI := fun ρ M P => f ρ M fun ds ρ1 M1 => match ds with
  | [.int j] => (-(2 ^ 62) ≤ j ∧ j < 2 ^ 62) ∧ P (rngD 0 j.toNat) ρ1 M1
  | _ => False
private theorem ji_rng1 (hg : Gl X "range") (hm : X.mg "range" = none) (ha : JA X [a] fl) (hs : starEach [a] X.env = [(false, eval a X.env)] := by rfl) : JI X tg (.Call (.Name "range" p) [a] [] pos) (wIR1 fl) := ⟨imI (pi_range1 hg hm ha.h hs) fun σ H R hh => ex5 hh fun Z F ρ M P ag hf k => ⟨Z, F, ρ, M, _, ag, hf, fun vs H1 F1 ds ρ1 M1 s1 ag1 r1 h1 => by
  split at h1
  · rename_i j
    obtain ⟨v, rfl, rv⟩ := rps1 r1
    rw [Rp] at rv
    subst rv
    exact ⟨j, rfl, h1.1.1, h1.1.2, k _ H1 F1 _ ρ1 M1 s1 ag1 (it_rng 0 _) h1.2⟩
  · exact h1.elim⟩⟩
noncomputable def gN (i : Nat) : WG := fun d ρ M P => P (ρ.set i (.sh d)) M
private theorem jg_name {i : Nat} (hN : X.N.Nodup) (hi : X.N[i]? = some x) (hx : Loc X.env.scope x) (hf : X.fn x = true ∨ X.env.scope.names.lookup x = some .local := by first | exact .inl rfl | exact .inr rfl | assumption) : JG X (.Name x pos) (gN i) := ⟨imG (pg_name hN hi hx hf) fun v σ H Q hh => ex6 hh fun Z F ρ M d P ag r hf k => k _ H F _ M (Same.refl _) (ag.set r) hf⟩
noncomputable def gNil4 : WGs := fun ds ρ M P => match ds with
  | [] => P ρ M
  | _ => False
noncomputable def gCons4 (g : WG) (h : WGs) : WGs := fun ds ρ M P => match ds with
  | d :: r => g d ρ M fun ρ1 M1 => h r ρ1 M1 P
  | _ => False
private theorem jgs_nil : JGs X [] gNil4 := ⟨imGs pgs_nil fun vs σ H Q hh => ex6 hh fun Z F ρ M ds P ag r hf k => by
  unfold gNil4 at hf
  split at hf
  · rw [Rps] at r
    exact ⟨r, k σ H F ρ M (Same.refl _) ag hf⟩
  · exact hf.elim⟩
private theorem jgs_cons {fh : WGs} (h1 : JG X e fg) (h2 : JGs X es fh) (hs : (assignEach (e :: es) X.env).map (·.2) = assign e X.env :: (assignEach es X.env).map (·.2) := by rfl) : JGs X (e :: es) (gCons4 fg fh) := ⟨imGs (pgs_cons h1.h h2.h hs) fun vs σ H Q hh => ex6 hh fun Z F ρ M ds P ag r hf k => by
  unfold gCons4 at hf
  split at hf
  · rw [Rps] at r
    obtain ⟨v, vr, rfl, r1, r2⟩ := r
    exact ⟨v, vr, rfl, Z, F, ρ, M, _, _, ag, r1, hf, fun σ' H' F' ρ' M' s' ag' h => ⟨Z, F', ρ', M', _, P, ag', r2.same s', h, fun σ2 H2 F2 ρ2 M2 s2 => k σ2 H2 F2 ρ2 M2 (s'.trans s2)⟩⟩
  · exact hf.elim⟩
noncomputable def gTup4 (n : Nat) (g : WGs) : WG := fun d ρ M P => match d with
  | .tup ds => ds.length = n ∧ g ds ρ M P
  | _ => False
private theorem jg_tup {fh : WGs} {k n : Nat} (hc : X.calm = true) (h : JGs X es fh) (hn : (assignEach es X.env).length = n := by rfl) (hst : (assignEach es X.env).findIdx? (·.1) = none := by rfl) : JG X (.Tuple es k pos) (gTup4 n fh) := ⟨imG (pg_tup hc h.h hn hst) fun v σ H Q hh => ex6 hh fun Z F ρ M d P ag r hf k => by
  unfold gTup4 at hf
  split at hf
  · rw [Rp] at r
    obtain ⟨q, vs, rfl, g1, g2⟩ := r
    exact ⟨q, vs, rfl, sqT_same ag.m.sm g1, by rw [← g2.length]; exact hf.1, Z, F, ρ, M, _, P, ag, g2, hf.2, k⟩
  · exact hf.elim⟩
noncomputable def wAsg (f : WE) (g : WG) : WS := fun E ρ M => f ρ M fun d ρ1 M1 => g d ρ1 M1 E.nx
private theorem js_asg (he : JE X e fe) (hg : JG X tg fg) (hs : swapsWithSole [tg] e pos.line X.env = pure false := by rfl) (hw : swappedStores [tg] e X.env = pure none := by rfl) (h1 : (assignEach [tg] X.env).map (·.2) = [assign tg X.env] := by rfl) : JS X (.Assign [tg] e pos) (wAsg fe fg) := ⟨imS (ps_asg he.h hg.h hs hw h1) fun D' σ H hh => ex5 hh fun Z F ρ M E ag hf k =>
  ⟨Z, F, ρ, M, _, ag, hf, fun v H1 F1 d ρ1 M1 s1 ag1 r1 h1 => ⟨Z, F1, ρ1, M1, d, _, ag1, r1, h1, fun σ' H' F' ρ' M' s' ag' h => k.nx σ' H' F' ρ' M' (s1.trans s') ag' h⟩⟩⟩
noncomputable def wFor (f : WI) (g : WG) (b : WS) : WS := fun E ρ M => f ρ M fun ds ρ1 M1 => ∃ I : Nat → Rho → Mm → Prop, I 0 ρ1 M1 ∧ (∀ (i : Nat) d ρ2 M2, ds[i]? = some d → I i ρ2 M2 → g d ρ2 M2 fun ρ3 M3 => b ⟨I (i + 1), E.rt, E.nx, I (i + 1)⟩ ρ3 M3) ∧ ∀ ρ2 M2, I ds.length ρ2 M2 → E.nx ρ2 M2
private theorem js_for {body : List Stmt} (hp : PassesOwn (model X.prog X.w) X.A X.env X.xe) (hc : X.calm = true) (hi : JI X tg iter fi) (hg : JG X tg fg) (hb : JSs X body fs) (hs : ∀ x, foldedSetIterable iter X.env x = pure x := by intro _; rfl) : JS X (.For tg iter body [] pos) (wFor fi fg fs) := ⟨imS (ps_for hp hc hi.h hg.h hb.h hs) fun D' σ H hh => ex5 hh fun Z F ρ M E ag hf k => ⟨Z, F, ρ, M, _, ag, hf, fun J H1 F1 ds ρ1 M1 s1 ag1 it h1 => by
  obtain ⟨In, i0, step, fin⟩ := h1
  refine ⟨fun i m σ' H' => m = ds.length - i ∧ i ≤ ds.length ∧ ∃ F' ρ' M', Same F1 F' ∧ Ag X.K Z F' M' H' ρ' σ' ∧ In i ρ' M', ⟨_, rfl, Nat.zero_le _, F1, ρ1, M1, Same.refl _, ag1, i0⟩, ?_⟩
  rintro i m σ2 H2 ⟨rfl, hi, F2, ρ2, M2, s2, ag2, h2⟩
  by_cases hl : i < ds.length
  · have e : ds[i]? = some ds[i] := List.getElem?_eq_getElem hl
    refine .inr ⟨it.go i F2 H2 hl s2 ag2.m.sm, fun σ' H' => ∃ F' ρ' M', Same F1 F' ∧ Ag X.K Z F' M' H' ρ' σ' ∧ In (i + 1) ρ' M', fun σ' H' q => ⟨ds.length - (i + 1), by omega, rfl, hl, q⟩, fun x H' y => ?_⟩
    obtain ⟨F3, gw, r3⟩ := it.yld i _ F2 H2 x H' e s2 ag2.m.sm y
    have s3 := gw.same ag2.m.sm
    refine ⟨Z, F3, ρ2, M2, _, _, gw.ag ag2, r3, step i _ ρ2 M2 e h2, fun σ4 H4 F4 ρ4 M4 s4 ag4 h4 => ⟨Z, F4, ρ4, M4, _, ag4, h4, ?_⟩⟩
    have s14 := s2.trans (s3.trans s4)
    refine ⟨fun σ' H' F' ρ' M' t a q => ⟨F', ρ', M', s14.trans t, a, q⟩, fun σ' H' F' ρ' M' t a q => k.nx σ' H' F' ρ' M' (s1.trans (s14.trans t)) a q, fun σ' H' F' ρ' M' t a q => ⟨F', ρ', M', s14.trans t, a, q⟩, fun v H' F' d M' t a r q => k.rt v H' F' d M' (s1.trans (s14.trans t)) a r q⟩
  · have : i = ds.length := by omega
    subst this
    exact .inl ⟨it.stop F2 H2 s2 ag2.m.sm, k.nx σ2 H2 F2 ρ2 M2 (s1.trans s2) ag2 (fin ρ2 M2 h2)⟩⟩⟩
noncomputable def wWhile (c : WT) (b : WS) : WS := fun E ρ M => ∃ W : Nat → Rho → Mm → Prop, (∃ m, W m ρ M) ∧ ∀ m ρ M, W m ρ M → c ρ M fun k ρ1 M1 => if k = true then b ⟨fun ρ2 M2 => ∃ m', m' < m ∧ W m' ρ2 M2, E.rt, E.nx, fun ρ2 M2 => ∃ m', m' < m ∧ W m' ρ2 M2⟩ ρ1 M1 else E.nx ρ1 M1
private theorem js_while {body : List Stmt} (hp : PassesOwn (model X.prog X.w) X.A X.env X.xe) (hc : JT X c ft) (hb : JSs X body fs) : JS X (.While c body [] pos) (wWhile ft fs) := ⟨imS (ps_while hp hc.h hb.h) fun D' σ H hh => ex5 hh fun Z F ρ M E ag hf k => by
  obtain ⟨W, ⟨m0, w0⟩, turn⟩ := hf
  refine ⟨fun m σ' H' => ∃ F' ρ' M', Same F F' ∧ Ag X.K Z F' M' H' ρ' σ' ∧ W m ρ' M', ⟨m0, F, ρ, M, Same.refl _, ag, w0⟩, ?_⟩
  rintro m σ1 H1 ⟨F1, ρ1, M1, s1, ag1, w1⟩
  refine ⟨Z, F1, ρ1, M1, _, ag1, turn m ρ1 M1 w1, fun b H2 F2 ρ2 M2 s2 ag2 h2 => ?_⟩
  cases b with
  | false => rw [if_neg Bool.false_ne_true] at h2 ⊢; exact k.nx σ1 H2 F2 ρ2 M2 (s1.trans s2) ag2 h2
  | true =>
    rw [if_pos rfl] at h2 ⊢
    refine ⟨fun σ' H' => ∃ m', m' < m ∧ ∃ F' ρ' M', Same F F' ∧ Ag X.K Z F' M' H' ρ' σ' ∧ W m' ρ' M', fun _ _ h => h, Z, F2, ρ2, M2, _, ag2, h2, ?_⟩
    have s02 := s1.trans s2
    exact ⟨fun σ' H' F' ρ' M' t a ⟨m', hm, q⟩ => ⟨m', hm, F', ρ', M', s02.trans t, a, q⟩, fun σ' H' F' ρ' M' t a q => k.nx σ' H' F' ρ' M' (s02.trans t) a q, fun σ' H' F' ρ' M' t a ⟨m', hm, q⟩ => ⟨m', hm, F', ρ', M', s02.trans t, a, q⟩, fun v H' F' d M' t a r q => k.rt v H' F' d M' (s02.trans t) a r q⟩⟩
end
noncomputable def iniR (src : List (Option Nat)) (ρ : Rho) : Rho := src.map fun o => match o with
  | none => .un
  | some j => (match ρ[j]? with
    | some (.sh d) => .sh d
    | some (.rf p) => .rf p
    | some (.ut u) => .ut u
    | _ => .un)
private theorem ag_ini {K : PySem.W.Frag} {Z F H : Hp} {M : Mm} {ρ : Rho} {σ : L2.St} (src : List (Option Nat)) (ag : Ag K Z F M H ρ σ) : Ag K (Zof F M H) F M H (iniR src ρ) (ini src σ) := by
  refine ⟨ag.m.inner, by unfold iniR ini; rw [List.length_map, List.length_map], fun i e h => ?_, fun i j ds es p n h1 h2 h3 => ?_⟩
  · unfold iniR at h
    rw [List.getElem?_map] at h
    unfold ini
    rw [List.getElem?_map]
    cases q : src[i]? with
    | none => rw [q] at h; cases h
    | some o =>
      rw [q] at h
      cases o with
      | none => cases h; trivial
      | some j =>
        simp only [Option.map_some, Option.some.injEq] at h
        simp only [Option.map_some, Option.bind_some, Option.join_some]
        cases q2 : ρ[j]? with
        | none => rw [q2] at h; subst h; trivial
        | some en =>
          rw [q2] at h
          have hen := ag.en j en q2
          cases en with
          | un => subst h; trivial
          | sh d => subst h; exact hen
          | rf p => subst h; exact hen
          | ut u => subst h; exact hen
          | ow ds => subst h; trivial
  · exfalso
    unfold iniR at h1
    rw [List.getElem?_map] at h1
    cases q : src[i]? with
    | none => rw [q] at h1; cases h1
    | some o =>
      rw [q] at h1
      cases o with
      | none => cases h1
      | some j =>
        simp only [Option.map_some, Option.some.injEq] at h1
        split at h1 <;> cases h1
noncomputable def clr (ρ : Rho) : Rho := ρ.map fun e => match e with
  | .ow _ => .un
  | e => e
private theorem ag_clr {K : PySem.W.Frag} {Z Z' F H : Hp} {M : Mm} {ρ : Rho} {σ : L2.St} (ag : Ag K Z F M H ρ σ) (m : AgM K Z' F M H) : Ag K Z' F M H (clr ρ) σ := by
  have key : ∀ {i : Nat} {e : Ent}, (clr ρ)[i]? = some e → (e = .un ∨ ρ[i]? = some e) ∧ ∀ ds, e ≠ .ow ds := fun {i e} h => by
    unfold clr at h
    rw [List.getElem?_map] at h
    cases q : ρ[i]? with
    | none => rw [q] at h; cases h
    | some en =>
      rw [q] at h
      cases en with
      | un => cases h; exact ⟨.inl rfl, fun _ z => nomatch z⟩
      | sh d => cases h; exact ⟨.inr rfl, fun _ z => nomatch z⟩
      | rf p => cases h; exact ⟨.inr rfl, fun _ z => nomatch z⟩
      | ut u => cases h; exact ⟨.inr rfl, fun _ z => nomatch z⟩
      | ow ds => cases h; exact ⟨.inl rfl, fun _ z => nomatch z⟩
  refine ⟨m, by unfold clr; rw [List.length_map]; exact ag.len, fun i e h => ?_, fun i j ds es p n h1 _ _ => absurd rfl ((key h1).2 ds)⟩
  obtain ⟨h1, h2⟩ := key h
  rcases h1 with rfl | h1
  · trivial
  · have := ag.en i e h1
    cases e with
    | un => trivial
    | sh d => exact this
    | rf p => exact this
    | ut u => exact this
    | ow ds => exact absurd rfl (h2 ds)
noncomputable def wComp (fi : WI) (g : WG) (c : WT) (f : WE) (src : List (Option Nat)) : WN := fun ρ M P => fi ρ M fun ds ρ1 M1 => ∃ I : Nat → List D → Rho → Mm → Prop, I 0 [] (iniR src ρ1) M1 ∧
  (∀ (i : Nat) d out ρ2 M2, ds[i]? = some d → I i out ρ2 M2 → g d ρ2 M2 fun ρ3 M3 => c ρ3 M3 fun b ρ4 M4 => if b = true then f ρ4 M4 fun y ρ5 M5 => out.length < sizeLine ∧ I (i + 1) (out ++ [y]) (clr ρ5) M5 else I (i + 1) out (clr ρ4) M4) ∧
  ∀ out ρ2 M2, I ds.length out ρ2 M2 → P out ρ1 M2
noncomputable def wYes : WT := fun ρ M P => P true ρ M
private theorem of_yes {K : PySem.W.Frag} : ∀ σ H Q, lfT K wYes σ H Q → tYes σ H Q := fun σ H Q hh => ex5 hh fun Z F ρ M P ag hf k => k true H F ρ M (Same.refl _) ag hf
noncomputable abbrev lfX {α : Type} (K : PySem.W.Frag) (R : Hp → α → V → Prop) (f : Rho → Mm → (α → Rho → Mm → Prop) → Prop) : TE := fun σ H Q => ∃ Z F ρ M P, Ag K Z F M H ρ σ ∧ f ρ M P ∧ ∀ v H' F' d ρ' M', Same F F' → Ag K Z F' M' H' ρ' σ → R F' d v → P d ρ' M' → Q v H'
noncomputable abbrev lfNX {α : Type} (K : PySem.W.Frag) (RL : Hp → List α → List V → Prop) (f : Rho → Mm → (List α → Rho → Mm → Prop) → Prop) : TE := fun σ H Q => ∃ Z F ρ M P, Ag K Z F M H ρ σ ∧ f ρ M P ∧ ∀ p vs H' F' ds ρ' M', Same F F' → Ag K Z F' M' H' ρ' σ → H' p = some (.lst vs) → F' p = none → M' p = none → Z p = none → (∀ (j : Nat) (es : List D), ρ'[j]? = some (.ow es) → σ[j]? ≠ some (some (.ref p))) → RL F' ds vs → P ds ρ' M' → Q (.ref p) H'
noncomputable abbrev wCompX {α : Type} (fi : WI) (g : WG) (c : WT) (f : Rho → Mm → (α → Rho → Mm → Prop) → Prop) (src : List (Option Nat)) : Rho → Mm → (List α → Rho → Mm → Prop) → Prop := fun ρ M P => fi ρ M fun ds ρ1 M1 => ∃ I : Nat → List α → Rho → Mm → Prop, I 0 [] (iniR src ρ1) M1 ∧
  (∀ (i : Nat) d out ρ2 M2, ds[i]? = some d → I i out ρ2 M2 → g d ρ2 M2 fun ρ3 M3 => c ρ3 M3 fun b ρ4 M4 => if b = true then f ρ4 M4 fun y ρ5 M5 => out.length < sizeLine ∧ I (i + 1) (out ++ [y]) (clr ρ5) M5 else I (i + 1) out (clr ρ4) M4) ∧
  ∀ out ρ2 M2, I ds.length out ρ2 M2 → P out ρ1 M2
private theorem of_compX {α : Type} {K : PySem.W.Frag} {R : Hp → α → V → Prop} {RL : Hp → List α → List V → Prop} (rn : ∀ F, RL F [] []) (rs : ∀ {F F' out ws}, Same F F' → RL F out ws → RL F' out ws) (rl : ∀ {F out ws}, RL F out ws → out.length = ws.length) (rc : ∀ {F out ws d v}, RL F out ws → R F d v → RL F (out ++ [d]) (ws ++ [v]))
    {fi : WI} {fg : WG} {fc : WT} {fe : Rho → Mm → (α → Rho → Mm → Prop) → Prop} {src : List (Option Nat)} {g : TG} {tc : TT} {te : TE} (hg : ∀ v σ H Q, lfG K fg v σ H Q → g v σ H Q) (hc : ∀ σ H Q, lfT K fc σ H Q → tc σ H Q) (he : ∀ σ H Q, lfX K R fe σ H Q → te σ H Q) :
    ∀ σ H Q, lfNX K RL (wCompX fi fg fc fe src) σ H Q → tComp (lfI K fi) g tc te src σ H Q := fun σ H Q hh => ex5 hh fun Z F ρ M P ag hf k => ⟨Z, F, ρ, M, _, ag, hf, fun J H1 F1 ds ρ1 M1 s1 ag1 it h1 D0 hD => by
  -- the new list at D0, the outer state as it was
  obtain ⟨In, i0, step, fin⟩ := h1
  obtain ⟨n1, n2, n3, n4, n5, n6, _⟩ := newN (ds := []) (vs := []) ag1 hD .nil
  refine ⟨fun i m σc Hc => m = ds.length - i ∧ i ≤ ds.length ∧ ∃ F' ρc M' out ws, Same F1 F' ∧ AgM K (Zof F1 M1 H1) F' M' Hc ∧ Hc D0 = some (.lst ws) ∧ F' D0 = none ∧ M' D0 = none ∧ RL F' out ws ∧
      Ag K (Zof F' M' Hc) F' M' Hc ρc σc ∧ In i out ρc M', ⟨_, rfl, Nat.zero_le _, F1, iniR src ρ1, M1, [], [], Same.refl _, ?_, n2, n3, n4, rn _, ?_, i0⟩, ?_⟩
  · refine ⟨n1.m.sm, fun p o h => ?_, n1.m.mo⟩
    obtain ⟨z1, z2, z3⟩ := zof_some h
    have : p ≠ D0 := fun z => by rw [z, hD] at z1; cases z1
    exact ⟨by rw [upd_ne this]; exact z1, z2, z3⟩
  · exact ag_ini src n1
  rintro i m σ2 H2 ⟨rfl, hi, F2, ρ2, M2, out, ws, s2, m2, d1, d2, d3, r2, ag2, h2⟩
  by_cases hl : i < ds.length
  · have e : ds[i]? = some ds[i] := List.getElem?_eq_getElem hl
    refine .inr ⟨it.go i F2 H2 hl s2 ag2.m.sm, fun σc Hc => ∃ F' ρc M' out ws, Same F1 F' ∧ AgM K (Zof F1 M1 H1) F' M' Hc ∧ Hc D0 = some (.lst ws) ∧ F' D0 = none ∧ M' D0 = none ∧ RL F' out ws ∧
      Ag K (Zof F' M' Hc) F' M' Hc ρc σc ∧ In (i + 1) out ρc M', fun σ' H' q => ⟨ds.length - (i + 1), by omega, rfl, hl, q⟩, fun x H' y => ?_⟩
    obtain ⟨F3, gw, r3⟩ := it.yld i _ F2 H2 x H' e s2 ag2.m.sm y
    have s3 := gw.same ag2.m.sm
    have zd : Zof F2 M2 H2 D0 = some (.lst ws) := zof_of d1 d2 d3
    refine hg _ _ _ _ ⟨Zof F2 M2 H2, F3, ρ2, M2, _, _, gw.ag ag2, r3, step i _ out ρ2 M2 e h2, fun σ4 H4 F4 ρ4 M4 s4 ag4 h4 => ?_⟩
    refine hc _ _ _ ⟨Zof F2 M2 H2, F4, ρ4, M4, _, ag4, h4, fun b H5 F5 ρ5 M5 s5 ag5 h5 => ?_⟩
    have s25 := s3.trans (s4.trans s5)
    dsimp only
    cases b with
    | false =>
      rw [if_neg Bool.false_ne_true] at h5 ⊢
      obtain ⟨z1, z2, z3⟩ := ag5.m.zz _ _ zd
      exact ⟨F5, clr ρ5, M5, out, ws, s2.trans s25, m2.back ag5.m, z1, z2, z3, rs s25 r2, ag_clr ag5 ag5.m.inner, h5⟩
    | true =>
      rw [if_pos rfl] at h5 ⊢
      refine he _ _ _ ⟨Zof F2 M2 H2, F5, ρ5, M5, _, ag5, h5, fun v H6 F6 d ρ6 M6 s6 ag6 r6 h6 => ?_⟩
      obtain ⟨z1, z2, z3⟩ := ag6.m.zz _ _ zd
      have s26 := s25.trans s6
      have m6 := m2.back ag6.m
      have ne : ∀ {q : Addr} {u : HO}, F6 q = some u → q ≠ D0 := fun e z => by rw [z, z2] at e; cases e
      have nz : Zof F1 M1 H1 D0 = none := by
        cases q : Zof F1 M1 H1 D0 with
        | none => rfl
        | some o => have := (zof_some q).1; rw [hD] at this; cases this
      have up : ∀ {Z' : Hp}, (∀ p o, Z' p = some o → p ≠ D0) → AgM K Z' F6 M6 H6 → AgM K Z' F6 M6 (upd H6 D0 (.lst (ws ++ [v]))) := fun {Z'} hz a => ⟨fun q u e => by rw [upd_ne (ne e)]; exact a.sm q u e, fun q o e => by
          obtain ⟨y1, y2, y3⟩ := a.zz q o e
          exact ⟨by rw [upd_ne (hz q o e)]; exact y1, y2, y3⟩, fun q o e => by
          obtain ⟨y1, y2⟩ := a.mo q o e
          have : q ≠ D0 := fun z => by rw [z, z3] at e; cases e
          exact ⟨y1, y2.same (Same.refl _) (upd_ne this)⟩⟩
      have a6 := up (Z' := Zof F1 M1 H1) (fun p o e z => by rw [z, nz] at e; cases e) m6
      refine ⟨ws, z1, by rw [← rl r2]; exact h6.1, F6, clr ρ6, M6, out ++ [d], ws ++ [v], s2.trans s26, a6, upd_same, z2, z3, rc (rs s26 r2) r6, ?_, h6.2⟩
      have b6 : Ag K (fun _ => none) F6 M6 H6 (clr ρ6) σ4 := ag_clr ag6 ⟨ag6.m.sm, fun p o e => (nomatch e), ag6.m.mo⟩
      have c6 : Ag K (fun _ => none) F6 M6 (upd H6 D0 (.lst (ws ++ [v]))) (clr ρ6) σ4 := by
        refine ⟨up (fun p o e => (nomatch e)) b6.m, b6.len, fun i e h => ?_, b6.di⟩
        have := b6.en i e h
        cases e with
        | un => trivial
        | sh d => exact this
        | rf p => exact this
        | ut u => exact this
        | ow ds' =>
          exfalso
          unfold clr at h
          rw [List.getElem?_map] at h
          cases q : ρ6[i]? with
          | none => rw [q] at h; cases h
          | some en => rw [q] at h; cases en <;> cases h
      have e6 := ag_clr c6 c6.m.inner
      have ce : clr (clr ρ6) = clr ρ6 := by
        unfold clr
        rw [List.map_map]
        congr 1
        funext en
        cases en <;> rfl
      rw [ce] at e6
      exact e6
  · have : i = ds.length := by omega
    subst this
    refine .inl ⟨it.stop F2 H2 s2 ag2.m.sm, ?_⟩
    have ag3 := ag1.back s2 m2
    refine k D0 ws H2 F2 out ρ1 M2 (s1.trans s2) ag3 d1 d2 d3 n5 n6 r2 (fin out ρ2 M2 h2)⟩
private theorem of_comp {K : PySem.W.Frag} {fi : WI} {fg : WG} {fc : WT} {fe : WE} {src : List (Option Nat)} {g : TG} {tc : TT} {te : TE} (hg : ∀ v σ H Q, lfG K fg v σ H Q → g v σ H Q) (hc : ∀ σ H Q, lfT K fc σ H Q → tc σ H Q) (he : ∀ σ H Q, lf K fe σ H Q → te σ H Q) :
    ∀ σ H Q, lfN K (wComp fi fg fc fe src) σ H Q → tComp (lfI K fi) g tc te src σ H Q :=
  of_compX (R := Rp K) (RL := Rps K) (fun _ => .nil) (fun s r => r.same s) (fun r => r.length) (fun r q => r.append (.cons q .nil)) hg hc he
section
variable {X : Cx} {tg elt iter : Expr} {pos : Pos} {fi : WI}
end
end L4
set_option Elab.async false
set_option linter.all false
set_option maxRecDepth 100000
namespace L4
open PySem PySem.Spec PyProof.Rows L2 L3
section
variable {X : Cx} {a b c e tg elt iter : Expr} {es ifs : List Expr} {pos cpos pos' p2 : Pos} {fa fb fe : WE} {fl : WA} {fn fm : WN} {fi : WI} {fg : WG} {fc : WT} {scope : Scope} {N : List Str} {src : List (Option Nat)} {x : Str} {k : Nat}
structure JC (X : Cx) (ifs : List Expr) (f : WT) : Prop where
  h : PIfs X ifs (lfT X.K f)
private theorem imC {t t' : TT} (h : PIfs X ifs t) (k : ∀ σ H Q, t' σ H Q → t σ H Q) : PIfs X ifs t' := fun pins s σ H Q I q => h pins s σ H Q I (k σ H Q q)
private theorem jc_nil : JC X [] wYes := ⟨imC ifs_nil of_yes⟩
private theorem jc_one (h : JT X c fc) : JC X [c] fc := ⟨ifs_one h.h⟩
private theorem jn_lcY {Y : Cx → Prop} (N : List Str) (src : List (Option Nat)) (ok : CompOk X scope N src) (hY : ∀ pins s2 H2 C fp, Y (cxComp X pins s2 H2 N scope C fp)) (hi : JIY Y X tg iter fi)
    (hg : ∀ pins s2 H2 C fp, JG (cxComp X pins s2 H2 N scope C fp) tg fg) (hc : ∀ pins s2 H2 C fp, JC (cxComp X pins s2 H2 N scope C fp) ifs fc) (he : ∀ pins s2 H2 C fp, JE (cxComp X pins s2 H2 N scope C fp) elt fe)
    (hs : ∀ x, foldedSetIterable iter X.env x = pure x := by intro _; rfl) : JN X (.ListComp elt [⟨tg, iter, ifs, 0⟩] scope pos) (wComp fi fg fc fe src) :=
  ⟨imE (pe_comp N src ok hY hi.h (fun a b c d e => (hg a b c d e).h) (fun a b c d e => (hc a b c d e).h) (fun a b c d e => (he a b c d e).h) hs) (of_comp (fun _ _ _ _ h => h) (fun _ _ _ h => h) fun _ _ _ h => h)⟩
private theorem jn_lc (N : List Str) (src : List (Option Nat)) (ok : CompOk X scope N src) (hcalm : X.calm = true) (hi : JI X tg iter fi)
    (hg : ∀ pins s2 H2 C fp, JG (cxComp X pins s2 H2 N scope C fp) tg fg) (hc : ∀ pins s2 H2 C fp, JC (cxComp X pins s2 H2 N scope C fp) ifs fc) (he : ∀ pins s2 H2 C fp, JE (cxComp X pins s2 H2 N scope C fp) elt fe)
    (hs : ∀ x, foldedSetIterable iter X.env x = pure x := by intro _; rfl) : JN X (.ListComp elt [⟨tg, iter, ifs, 0⟩] scope pos) (wComp fi fg fc fe src) :=
  jn_lcY N src ok (fun _ _ _ _ _ => hcalm) hi hg hc he hs
private theorem js_setC (hN : X.N.Nodup) (hk : X.N[k]? = some x) (hx : Loc X.env.scope x) (N : List Str) (src : List (Option Nat)) (ok : CompOk X scope N src) (hcalm : X.calm = true) (hi : JI X tg iter fi)
    (hg : ∀ pins s2 H2 C fp, JG (cxComp X pins s2 H2 N scope C fp) tg fg) (hc : ∀ pins s2 H2 C fp, JC (cxComp X pins s2 H2 N scope C fp) ifs fc) (he : ∀ pins s2 H2 C fp, JE (cxComp X pins s2 H2 N scope C fp) elt fe)
    (hsw : swapsWith (.ListComp elt [⟨tg, iter, ifs, 0⟩] scope cpos) (some (.Name x pos')) pos.line X.env = pure true := by rfl)
    (hs : ∀ x, foldedSetIterable iter X.env x = pure x := by intro _; rfl) (hfn : X.fn x = true ∨ X.env.scope.names.lookup x = some .local := by first | exact .inl rfl | exact .inr rfl | assumption) :
    JS X (.Assign [.Name x pos'] (.ListComp elt [⟨tg, iter, ifs, 0⟩] scope cpos) pos) (wSetN k (wComp fi fg fc fe src)) :=
  ⟨imS (ps_setComp hN hk hx N src ok hcalm hi.h (fun a b c d e => (hg a b c d e).h) (fun a b c d e => (hc a b c d e).h) (fun a b c d e => (he a b c d e).h) hsw hs hfn) fun D' σ H hh => ex5 hh fun Z F ρ M E ag hf k =>
    of_comp (fun _ _ _ _ h => h) (fun _ _ _ h => h) (fun _ _ _ h => h) σ H _ ⟨Z, F, ρ, M, _, ag, hf, fun p vs H' F' ds ρ' M' s' ag' n2 n3 n4 nz n5 r h => k.nx _ H' F' _ M' s' (ag'.setO n2 n3 n4 nz r n5) h⟩⟩
noncomputable def rCat4 : R2 := fun x y H Q => ∃ l b xs zs, x = .ref l ∧ y = .ref b ∧ Rd H l (.lst xs) ∧ Rd H b (.lst zs) ∧ xs.length + zs.length ≤ sizeLine ∧ ∀ p, H p = none → Q (.ref p) (upd H p (.lst (xs ++ zs)))
private theorem op_cat4 : OpR X (binaryOp .Add) rCat4 := by
  intro pins s σ H x y v u Q I rx ry h
  obtain ⟨l, b, xs, zs, rfl, rfl, hH, hB, hz, q⟩ := h
  cases rx
  cases ry
  obtain ⟨z, its, n, r, e⟩ := hH.ok I.hok
  obtain ⟨z2, its2, n2, r2, e2⟩ := hB.ok I.hok
  have hl := r.length
  have hl2 := r2.length
  refine PySem.P.add_list e e2 ?_ (by rw [List.size_toArray, List.size_toArray]; omega)
  have ea : its.toArray ++ its2.toArray = (its ++ its2).toArray := by simp
  rw [ea]
  exact ⟨.ref _, _, I.lnew (t' := s.toks) (r.append r2) (by rw [List.length_append]; omega), rfl, q _ I.fresh⟩
noncomputable def wCat (fa fb : WE) : WN := fun ρ M P => fa ρ M fun x ρ1 M1 => fb ρ1 M1 fun y ρ2 M2 => match x, y with
  | .lst xs, .lst ys => xs.length + ys.length ≤ sizeLine ∧ P (xs ++ ys) ρ2 M2
  | _, _ => False
private theorem jn_cat (ha : JE X a fa) (hb : JE X b fb) : JN X (.BinOp a .Add b pos) (wCat fa fb) := ⟨imE (pe_op op_cat4 ha.h hb.h) fun σ H Q hh => ex5 hh fun Z F ρ M P ag hf k => ⟨Z, F, ρ, M, _, ag, hf, fun v H1 F1 d ρ1 M1 s1 ag1 r1 h1 => ⟨Z, F1, ρ1, M1, _, ag1, h1, fun u H2 F2 d2 ρ2 M2 s2 ag2 r2 h2 => by
  split at h2
  · rename_i xs ys
    have r1 := r1.same s2
    rw [Rp] at r1 r2
    obtain ⟨q, ws, rfl, g1, g2⟩ := r1
    obtain ⟨q', us, rfl, g3, g4⟩ := r2
    refine ⟨q, q', ws, us, rfl, rfl, rd_same ag2.m.sm g1, rd_same ag2.m.sm g3, by rw [← g2.length, ← g4.length]; exact h2.1, fun p hp => ?_⟩
    obtain ⟨n1, n2, n3, n4, nz, n5, n6⟩ := newN ag2 hp (g2.append g4)
    exact k p _ _ F2 _ ρ2 M2 (s1.trans s2) n1 n2 n3 n4 nz n5 n6 h2.2
  · exact h2.elim⟩⟩⟩
noncomputable abbrev WO := Rho → Mm → (Option Int → Rho → Mm → Prop) → Prop
noncomputable def lfO (K : PySem.W.Frag) (f : WO) : TO := fun σ H Q => ∃ Z F ρ M P, Ag K Z F M H ρ σ ∧ f ρ M P ∧ ∀ o H' F' ρ' M', Same F F' → Ag K Z F' M' H' ρ' σ → P o ρ' M' → Q o H'
structure JO (X : Cx) (e : Option Expr) (f : WO) : Prop where
  h : PO X e (lfO X.K f)
noncomputable def wO0 : WO := fun ρ M P => P none ρ M
noncomputable def wO1 (f : WE) : WO := fun ρ M P => f ρ M fun d ρ1 M1 => match d with
  | .int i => P (some i) ρ1 M1
  | _ => False
private theorem imO {e : Option Expr} {t t' : TO} (h : PO X e t) (k : ∀ σ H Q, t' σ H Q → t σ H Q) : PO X e t' := fun pins s σ H Q I q => h pins s σ H Q I (k σ H Q q)
private theorem jo_none : JO X none wO0 := ⟨imO po_none fun σ H Q hh => ex5 hh fun Z F ρ M P ag hf k => k none H F ρ M (Same.refl _) ag hf⟩
private theorem jo_some (h : JE X e fe) : JO X (some e) (wO1 fe) := ⟨imO (po_some h.h) fun σ H Q hh => ex5 hh fun Z F ρ M P ag hf k => ⟨Z, F, ρ, M, _, ag, hf, fun v H1 F1 d ρ1 M1 s1 ag1 r1 h1 => by
  split at h1
  · rw [Rp] at r1
    exact ⟨_, r1, k _ H1 F1 ρ1 M1 s1 ag1 h1⟩
  · exact h1.elim⟩⟩
private theorem Rps.cut {K : PySem.W.Frag} {F : Hp} {ds : List D} {vs : List V} (lo hi : Option Int) (h : Rps K F ds vs) : Rps K F (L3.cutD ds lo hi) (cutV vs lo hi) := by
  unfold L3.cutD cutV
  rw [h.length]
  exact (h.drop _).take _
noncomputable def wSl (fa : WE) (fl fh : WO) : WN := fun ρ M P => fa ρ M fun x ρ1 M1 => fl ρ1 M1 fun lo ρ2 M2 => fh ρ2 M2 fun hi ρ3 M3 => match x with
  | .lst xs => P (L3.cutD xs lo hi) ρ3 M3
  | _ => False
private theorem jn_sl {lo hi : Option Expr} {fl fh : WO} (ha : JE X a fa) (hl : JO X lo fl) (hh : JO X hi fh) : JN X (.Subscript a (.Slice lo hi none p2) pos) (wSl fa fl fh) := ⟨imE (pe_slice sl_list ha.h hl.h hh.h) fun σ H Q hh => ex5 hh fun Z F ρ M P ag hf k => ⟨Z, F, ρ, M, _, ag, hf, fun v H1 F1 d ρ1 M1 s1 ag1 r1 h1 => ⟨Z, F1, ρ1, M1, _, ag1, h1, fun lo H2 F2 ρ2 M2 s2 ag2 h2 => ⟨Z, F2, ρ2, M2, _, ag2, h2, fun hi H3 F3 ρ3 M3 s3 ag3 h3 => by
  split at h3
  · rename_i xs
    have r1 := (r1.same s2).same s3
    rw [Rp] at r1
    obtain ⟨q, ws, rfl, g1, g2⟩ := r1
    refine ⟨q, ws, rfl, .inl (rd_same ag3.m.sm g1), fun p hp => ?_⟩
    obtain ⟨n1, n2, n3, n4, nz, n5, n6⟩ := newN ag3 hp (g2.cut lo hi)
    exact k p _ _ F3 _ ρ3 M3 (s1.trans (s2.trans s3)) n1 n2 n3 n4 nz n5 n6 h3
  · exact h3.elim⟩⟩⟩⟩
end
noncomputable def Sub (M' M : Mm) : Prop := ∀ p o, M' p = some o → M p = some o
private theorem AgM.sub {K : PySem.W.Frag} {Z F H : Hp} {M M' : Mm} (a : AgM K Z F M H) (s : Sub M' M) : AgM K Z F M' H := ⟨a.sm, fun p o h => by
  obtain ⟨z1, z2, z3⟩ := a.zz p o h
  refine ⟨z1, z2, ?_⟩
  cases q : M' p with
  | none => rfl
  | some o => exact absurd ((s p o q).symm.trans z3) (by simp), fun p o h => a.mo p o (s p o h)⟩
noncomputable def startR (N : List Str) (ds : List D) : Rho := ds.map Ent.sh ++ List.replicate (N.length - ds.length) .un
noncomputable def rtD (q : D → Mm → Prop) : U → Mm → Prop := fun u M => match u with
  | .d d => q d M
  | _ => False
noncomputable def endR (P : D → Mm → Prop) : WEnds := ⟨fun _ M' => ∃ M'', Sub M'' M' ∧ P .non M'', rtD fun d M' => ∃ M'', Sub M'' M' ∧ P d M'', fun _ _ => False, fun _ _ => False⟩
private theorem rtD_of {K : PySem.W.Frag} {F : Hp} {q : D → Mm → Prop} {u : U} {v : V} {M : Mm} (h : rtD q u M) (r : RU K F u v) : ∃ d, Rp K F d v ∧ q d M := by
  cases u with
  | d x => rw [RU] at r; exact ⟨x, r, h⟩
  | adr p => exact h.elim
  | ins C ns ds => exact h.elim
  | hz u => exact h.elim
  | tup us => exact h.elim
private theorem ag_start {K : PySem.W.Frag} {Z F H : Hp} {M : Mm} {ds : List D} {vs : List V} (N : List Str) (m : AgM K Z F M H) (r : Rps K F ds vs) : Ag K Z F M H (startR N ds) (L2.start N vs) := by
  have hl := r.length
  refine ⟨m, by unfold startR L2.start; simp [hl], fun i e h => ?_, fun i j es fs p n h1 _ _ => ?_⟩
  · unfold startR at h
    by_cases hi : i < ds.length
    · rw [List.getElem?_append_left (by simpa using hi), List.getElem?_map] at h
      rw [List.getElem?_eq_getElem hi] at h
      cases h
      obtain ⟨v, h1, h2⟩ := r.get (List.getElem?_eq_getElem hi)
      refine ⟨v, ?_, h2⟩
      unfold L2.start
      rw [List.getElem?_append_left (by simpa [← hl] using hi), List.getElem?_map, h1]
      rfl
    · rw [List.getElem?_append_right (by simpa using hi), List.getElem?_replicate] at h
      split at h
      · cases h; trivial
      · cases h
  · unfold startR at h1
    by_cases hi : i < ds.length
    · rw [List.getElem?_append_left (by simpa using hi), List.getElem?_map, List.getElem?_eq_getElem hi] at h1
      cases h1
    · rw [List.getElem?_append_right (by simpa using hi), List.getElem?_replicate] at h1
      split at h1 <;> cases h1
private theorem _root_.L3.Def.hasW {P : Program} {w : World} {K : PySem.W.Frag} {mg : Str → Option Value} {base : Heap} {k : Nat} {x : Str} {st : Stmt} {N ps : List Str} {g : WF} (F : Def K mg x st ps) (sc : FnScope N ps (defScope st)) (len : ∀ ds M P, g ds M P → ds.length = ps.length)
    (hbody : ∀ (f : Addr) (cdv : Value) (A : Around) (outer : List Env) (s : Shared) (H : Hp) (E : XK), Room k (A.deeper (envOfC x (defScope st) s.heap.objs.size f cdv)) →
      ∃ G, JSs (cxOf CX0 P w K mg base N x (defScope st) f cdv A outer s H E).nox (defBody st) G ∧ ∀ ds M Q, g ds M Q → G (endR Q) (startR N ds) M) : Has P w K mg base CX0 (k + 1) x ps (spW K g) := by
  refine F.has sc (fun vs H Q E h => ?_) fun f cdv A outer s H vs Q E hr h => ?_
  · obtain ⟨Z, F', M, ds, P, m, r, hg, _⟩ := h
    rw [← r.length]
    exact len ds M P hg
  · obtain ⟨Z, F', M, ds, P', m, r, hg, kk⟩ := h
    obtain ⟨G, hG, hh⟩ := hbody f cdv A outer s H E hr
    refine ⟨_, hG.h, Z, F', startR N ds, M, endR P', ag_start N m r, hh ds M P' hg, ⟨fun σ' H' F2 ρ' M' s' ag' ⟨M2, hs, q⟩ => kk _ H' F2 _ M2 s' (ag'.m.sub hs) (by rw [Rp]) q, fun _ _ _ _ _ _ _ q => q.elim, fun _ _ _ _ _ _ _ q => q.elim, fun v H' F2 u M' s' m' r' q => by
      obtain ⟨d, r', M2, hs, q⟩ := rtD_of (q := fun d M' => ∃ M'', Sub M'' M' ∧ P' d M'') q r'
      exact kk v H' F2 d M2 s' (m'.sub hs) r' q⟩⟩
noncomputable def pur (g : List D → (D → Prop) → Prop) : WF := fun ds M P => g ds fun d => P d M
private theorem Sub.refl (M : Mm) : Sub M M := fun _ _ h => h
private theorem _root_.L3.Def.hasP {P : Program} {w : World} {K : PySem.W.Frag} {mg : Str → Option Value} {base : Heap} {k : Nat} {x : Str} {st : Stmt} {N ps : List Str} {g : List D → (D → Prop) → Prop} (F : Def K mg x st ps) (sc : FnScope N ps (defScope st)) (len : ∀ ds P, g ds P → ds.length = ps.length)
    (hbody : ∀ (f : Addr) (cdv : Value) (A : Around) (outer : List Env) (s : Shared) (H : Hp) (E : XK), Room k (A.deeper (envOfC x (defScope st) s.heap.objs.size f cdv)) →
      ∃ G, JSs (cxOf CX0 P w K mg base N x (defScope st) f cdv A outer s H E).nox (defBody st) G ∧ ∀ ds M Q, g ds (fun d => Q d M) → G (endR Q) (startR N ds) M) : Has P w K mg base CX0 (k + 1) x ps (spW K (pur g)) :=
  F.hasW sc (fun ds M P h => len ds _ h) hbody
end L4
set_option Elab.async false
set_option linter.all false
set_option maxRecDepth 100000
namespace L4
open PySem PySem.Spec PyProof.Rows L2 L3
section
variable {X : Cx} {a b c e o : Expr} {es : List Expr} {pos cpos apos np p : Pos} {fa fb fe fk : WE} {fl : WA} {x : Str}
noncomputable def wAtV (i : Nat) (fk : WE) : WE := fun ρ M P => match ρ[i]? with
  | some (.ow _) => wAtO i fk ρ M P
  | some (.sh d) => fk ρ M fun k ρ1 M1 => RIx d k fun z => P z ρ1 M1
  | _ => False
private theorem j_atV (i : Nat) (hk : JE X b fk) (hN : X.N[i]? = some x := by rfl) (hv : Vis X.env.scope x := by first | exact Or.inl rfl | exact Or.inr (Or.inl rfl) | exact Or.inr (Or.inr rfl)) (hs : PlainIx b := by intro _ _; rfl) (hd : (x == ("__debug__" : Str)) = false := by decide) (hcd : (x == ("__classdict__" : Str)) = false := by decide) :
    JE X (.Subscript (.Name x np) b pos) (wAtV i fk) := by
  have h1 := j_atO (fk := fk) (pe_ix (pos := pos) ix_seq (L2.pv (pos := np) i hN hv hd hcd) hk.h hs)
  have h2 := j_at (pos := pos) (jv (pos := np) i hN hv hd hcd) hk hs
  refine ⟨imE (pe_ix (pos := pos) ix_seq (L2.pv (pos := np) i hN hv hd hcd) hk.h hs) fun σ H Q hh => ex5 hh fun Z F ρ M P ag hf k => ?_⟩
  unfold wAtV at hf
  split at hf
  · obtain ⟨ho, hf⟩ := hf
    obtain ⟨ds0, ho⟩ := isOw_of ho
    obtain ⟨q, vs, e1, e2, e3, e4, e5, e6⟩ := ow_get ag ho
    refine ⟨.ref q, e1, Z, F, ρ, M, _, ag, hf, fun u H2 F2 dk ρ2 M2 s2 ag2 r2 h2 => ?_⟩
    split at h2
    · rename_i ds j hd
      rw [Rp] at r2
      split at h2
      · rename_i d hn
        obtain ⟨q', us, g1, g2, g3, g4, g5, g6⟩ := ow_get ag2 hd
        rw [e1] at g1
        cases g1
        obtain ⟨w, a1, a2⟩ := at_rps g6 hn
        exact .inl ⟨q, us, j, w, rfl, r2, SqL.of g2, a1, k w H2 F2 d ρ2 M2 s2 ag2 a2 h2⟩
      · exact h2.elim
    · exact h2.elim
  · rename_i d hd
    obtain ⟨v, g1, g2⟩ := ag.en i _ hd
    have g1' : σ[i]? = some (some v) := by
      cases q : σ[i]? with
      | none => rw [q] at g1; cases g1
      | some o => rw [q] at g1; simp at g1; rw [g1]
    refine ⟨v, g1', Z, F, ρ, M, _, ag, hf, fun u H2 F2 dk ρ2 M2 s2 ag2 r2 h2 => ?_⟩
    exact w_ix d dk v u F2 H2 Q _ ag2.m.sm (g2.same s2) r2 h2 fun z w F' H' g rp hp => k w H' F' z ρ2 M2 (s2.trans (g.same ag2.m.sm)) (g.ag ag2) rp hp
  · exact hf.elim
noncomputable def wLenV (i : Nat) : WE := fun ρ M P => match ρ[i]? with
  | some (.ow ds) => P (.int ds.length) ρ M
  | some (.sh (.lst ds)) => P (.int ds.length) ρ M
  | some (.sh (.tup ds)) => P (.int ds.length) ρ M
  | _ => False
private theorem j_lenV (i : Nat) (hg : Gl X "len") (hm : X.mg "len" = none) (hN : X.N[i]? = some x := by rfl) (hv : Vis X.env.scope x := by first | exact Or.inl rfl | exact Or.inr (Or.inl rfl) | exact Or.inr (Or.inr rfl)) (hd : (x == ("__debug__" : Str)) = false := by decide) (hcd : (x == ("__classdict__" : Str)) = false := by decide)
    (he : starEach [.Name x np] X.env = [(false, eval (.Name x np) X.env)] := by rfl) : JE X (.Call (.Name "len" p) [.Name x np] [] pos) (wLenV i) := by
  refine ⟨imE (pe_callB (pos := pos) (p := p) call_len_seq hg hm boot_len (pa_cons (L2.pv (pos := np) i hN hv hd hcd) pa_nil he) (by decide) (by decide) he rfl) fun σ H Q hh => ex5 hh fun Z F ρ M P ag hf k => ?_⟩
  have sl : ∀ {v : V}, (σ[i]?).join = some v → σ[i]? = some (some v) := fun {v} g1 => by
    cases q : σ[i]? with
    | none => rw [q] at g1; cases g1
    | some o => rw [q] at g1; simp at g1; rw [g1]
  unfold wLenV at hf
  split at hf
  · rename_i ds hd
    obtain ⟨q, vs, e1, e2, e3, e4, e5, e6⟩ := ow_get ag hd
    refine ⟨.ref q, e1, q, vs, rfl, .inl (SqL.of e2), k _ H F _ ρ M (Same.refl _) ag ?_ hf⟩
    rw [Rp, e6.length]
  · rename_i ds hd
    obtain ⟨v, g1, g2⟩ := ag.en i _ hd
    rw [Rp] at g2
    obtain ⟨q, vs, rfl, g2, g3⟩ := g2
    refine ⟨.ref q, sl g1, q, vs, rfl, .inl (.inl (rd_same ag.m.sm g2)), k _ H F _ ρ M (Same.refl _) ag ?_ hf⟩
    rw [Rp, g3.length]
  · rename_i ds hd
    obtain ⟨v, g1, g2⟩ := ag.en i _ hd
    rw [Rp] at g2
    obtain ⟨q, vs, rfl, g2, g3⟩ := g2
    refine ⟨.ref q, sl g1, q, vs, rfl, .inr (sqT_same ag.m.sm g2), k _ H F _ ρ M (Same.refl _) ag ?_ hf⟩
    rw [Rp, g3.length]
  · exact hf.elim
private theorem j_len (hg : Gl X "len") (hm : X.mg "len" = none) (ha : JA X [a] fl) (he : starEach [a] X.env = [(false, eval a X.env)] := by rfl) : JE X (.Call (.Name "len" p) [a] [] pos) (wCall RLen fl) := j_callB call_len_seq w_len hg hm boot_len ha (by decide) (by decide) he rfl
private theorem j_abs (hg : Gl X "abs") (hm : X.mg "abs" = none) (ha : JA X [a] fl) (he : starEach [a] X.env = [(false, eval a X.env)] := by rfl) : JE X (.Call (.Name "abs" p) [a] [] pos) (wCall RAbs fl) := j_callB call_abs w_abs hg hm boot_abs ha (by decide) (by decide) he rfl
private theorem j_intc (hg : Gl X "int") (hm : X.mg "int" = none) (ha : JA X [a] fl) (he : starEach [a] X.env = [(false, eval a X.env)] := by rfl) : JE X (.Call (.Name "int" p) [a] [] pos) (wCall RInt fl) := j_callTy call_int1 w_int hg hm boot_int ha (by decide) (by decide) he rfl
private theorem j_isW {T : String} {y : Str} (t : D → Bool) (hk : ∀ d, PySem.W.kitOne X.K (.type (tyN d)) (.type T) = some (t d)) (hg : Gl X "isinstance") (hm : X.mg "isinstance" = none) (hgT : Gl X y) (hmT : X.mg y = none) (hb : bootBuiltins y = some (.type T)) (ha : JE X a fa) (hn : y ≠ "__name__" := by decide) (hdb : (y == ("__debug__" : Str)) = false := by decide)
    (he : starEach [a, .Name y np] X.env = [(false, eval a X.env), (false, eval (.Name y np) X.env)] := by rfl) (he2 : starEach [.Name y np] X.env = [(false, eval (.Name y np) X.env)] := by rfl) : JE X (.Call (.Name "isinstance" p) [a, .Name y np] [] pos) (wIs t fa) :=
  j_is (n := T) hk (fun {ta} hta => pe_callB (pos := pos) (p := p) call_is4 hg hm boot_isinstance (pa_cons hta (pa_cons (pe_bltn (v := .ty T) hgT hmT hb rfl hn hdb) pa_nil he2) (he.trans (congrArg _ he2.symm))) (by decide) (by decide) (he.trans (congrArg _ he2.symm)) ((congrArg (fun l => (backTo pos l).any (·.1)) he2).trans rfl)) ha
private theorem js_appW (i : Nat) (he : JE X e fe) (hN : X.N[i]? = some x := by rfl) (hv : Vis X.env.scope x := by first | exact Or.inl rfl | exact Or.inr (Or.inl rfl) | exact Or.inr (Or.inr rfl)) (hd : (x == ("__debug__" : Str)) = false := by decide) (hcd : (x == ("__classdict__" : Str)) = false := by decide)
    (hbase : attributeBase (.Name x np) "append" X.env (eval (.Name x np) X.env) = eval (.Name x np) X.env := by rfl)
    (hfew : ((backTo cpos (starEach [e] X.env)).all (fun x => !x.1) && (backToKw cpos (keywordEach [] X.env)).all (fun x => x.1.isSome) && decide ([e].length + ([] : List Keyword).length + (if ([] : List Keyword).isEmpty then 0 else 1) < 30)) = true := by rfl)
    (hline : (apos.endLine == cpos.line) = true := by rfl) (hs : starEach [e] X.env = [(false, eval e X.env)] := by rfl) (hplain : (backTo cpos (starEach [] X.env)).any (·.1) = false := by rfl)
    (hsw : swapsWith (.Call (.Attribute (.Name x np) "append" apos) [e] [] cpos) none pos.line X.env = pure false := by rfl) : JS X (.Expr (.Call (.Attribute (.Name x np) "append" apos) [e] [] cpos) pos) (wApp i fe) :=
  js_app (ps_expr (pe_bm PySem.F.plainAttrs_list PySem.F.slot_list_append PySem.F.type_list_append mt_append (L2.pv i hN hv hd hcd) (ja_cons he ja_nil hs).h hbase hfew hline hs hplain) hsw)
structure Cst (K : PySem.W.Frag) (mg : Str → Option Value) (x : Str) (d : D) : Prop where
  ex : ∃ v u, mg x = some u ∧ RelV v u ∧ ∀ F, Rp K F d v
private theorem j_glob {d : D} (C : Cst X.K X.mg x d) (hg : Gl X x) (hd : (x == ("__debug__" : Str)) = false := by decide) : JE X (.Name x pos) (wC d) := by
  obtain ⟨v, u, h1, h2, h3⟩ := C.ex
  exact je_of_c (pe_glob hg h1 h2 hd) h3
end
end L4
set_option Elab.async false
set_option linter.all false
set_option maxRecDepth 100000
namespace L4
open PySem PySem.Spec PyProof.Rows L2 L3
section
variable {X : Cx} {a : Expr} {ta : TA} {p pos tpos : Pos} {elts : List Expr} {k : Nat} {fl : WA}
end
structure Bl2 (mg : Str → Option Value) : Prop extends Bl mg where
  enumerate : mg "enumerate" = none
  sum : mg "sum" = none
  min : mg "min" = none
  max : mg "max" = none
  sorted : mg "sorted" = none
  reversed : mg "reversed" = none
  dict : mg "dict" = none
end L4
set_option Elab.async false
set_option linter.all false
set_option maxRecDepth 100000
namespace L4
open PySem PySem.Spec PyProof.Rows L2 L3
noncomputable abbrev Pool := Mm → Addr → Prop
noncomputable def spD (K : PySem.W.Frag) (Pl : Pool) (g : List D → (D → Prop) → Prop) : Sp := fun vs H Q _ => ∃ Z F M p vs' ds P, vs = .ref p :: vs' ∧ AgM K Z F M H ∧ Pl M p ∧ Rps K F ds vs' ∧ g ds P ∧ ∀ v H' F' d, Same F F' → AgM K Z F' M H' → Rp K F' d v → P d → Q v H'
noncomputable def wDr (Pl : Pool) (i : Nat) (g : List D → (D → Prop) → Prop) (fl : WA) : WE := fun ρ M P => match ρ[i]? with
  | some (.rf p) => fl ρ M fun ds ρ1 M1 => Pl M1 p ∧ g ds fun d => P d ρ1 M1
  | _ => False
section
variable {X : Cx} {e : Expr} {es : List Expr} {pos np p : Pos} {fl : WA} {x y : Str} {Pl : Pool} {g : List D → (D → Prop) → Prop} {k : Nat} {ps : List Str}
private theorem j_hD (i : Nat) (F : Has X.prog X.w X.K X.mg X.base CX0 k x ps (spD X.K Pl g)) (hr : Room k X.A) (hg : Gl X x) (ha : JA X es fl) (hN : X.N[i]? = some y := by rfl) (hv : Vis X.env.scope y := by first | exact Or.inl rfl | exact Or.inr (Or.inl rfl) | exact Or.inr (Or.inr rfl)) (hd : (y == ("__debug__" : Str)) = false := by decide) (hcd : (y == ("__classdict__" : Str)) = false := by decide)
    (hdb : (x == ("__debug__" : Str)) = false := by decide) (he : starEach (.Name y np :: es) X.env = (false, eval (.Name y np) X.env) :: starEach es X.env := by rfl) (hpl : (backTo pos (starEach es X.env)).any (·.1) = false := by rfl) :
    JE X (.Call (.Name x p) (.Name y np :: es) [] pos) (wDr Pl i g fl) := ⟨imE (pe_h F hr hg pass0 (pa_cons (L2.pv i hN hv hd hcd) ha.h he) hdb he hpl) fun σ H Q hh => ex5 hh fun Z F ρ M P ag hf k => by
  unfold wDr at hf
  split at hf
  · rename_i q hq
    have h0 := ag.en i _ hq
    have hs : σ[i]? = some (some (.ref q)) := by
      have h0 : (σ[i]?).join = some (.ref q) := h0
      cases z : σ[i]? with
      | none => rw [z] at h0; cases h0
      | some o => rw [z] at h0; simp at h0; rw [h0]
    refine ⟨.ref q, hs, Z, F, ρ, M, _, ag, hf, fun vs H1 F1 ds ρ1 M1 s1 ag1 r1 h1 => ?_⟩
    show spD X.K Pl g ((.ref q :: vs) ++ []) H1 Q E0
    rw [List.append_nil]
    exact ⟨_, F1, M1, q, vs, ds, _, rfl, ag1.m.inner, h1.1, r1, h1.2, fun v H' F' d s' m' r h => k v H' F' d ρ1 M1 (s1.trans s') (ag1.back s' m') r h⟩
  · exact hf.elim⟩
end
noncomputable def startD (N : List Str) (p : Addr) (ds : List D) : Rho := .rf p :: (ds.map Ent.sh ++ List.replicate (N.length - (ds.length + 1)) .un)
private theorem ag_startD {K : PySem.W.Frag} {Z F H : Hp} {M : Mm} {p : Addr} {ds : List D} {vs : List V} (N : List Str) (m : AgM K Z F M H) (r : Rps K F ds vs) : Ag K Z F M H (startD N p ds) (L2.start N (.ref p :: vs)) := by
  have hl := r.length
  have ei : L2.start N (.ref p :: vs) = some (.ref p) :: (vs.map some ++ List.replicate (N.length - (vs.length + 1)) none) := by
    unfold L2.start
    simp
  rw [ei]
  have key : ∀ {i : Nat} {e : Ent}, (ds.map Ent.sh ++ List.replicate (N.length - (ds.length + 1)) Ent.un)[i]? = some e → (e = .un) ∨ ∃ d, e = .sh d ∧ ds[i]? = some d := fun {i e} h => by
    by_cases hi : i < ds.length
    · rw [List.getElem?_append_left (by simpa using hi), List.getElem?_map, List.getElem?_eq_getElem hi] at h
      cases h
      exact .inr ⟨_, rfl, List.getElem?_eq_getElem hi⟩
    · rw [List.getElem?_append_right (by simpa using hi), List.getElem?_replicate] at h
      split at h
      · cases h; exact .inl rfl
      · cases h
  refine ⟨m, by unfold startD; simp [hl], fun i e h => ?_, fun i j es fs q n h1 _ _ => ?_⟩
  · cases i with
    | zero => unfold startD at h; simp at h; subst h; rfl
    | succ i =>
      unfold startD at h
      rw [List.getElem?_cons_succ] at h
      rcases key h with rfl | ⟨d, rfl, hd⟩
      · trivial
      · obtain ⟨v, h1, h2⟩ := r.get hd
        refine ⟨v, ?_, h2⟩
        rw [List.getElem?_cons_succ, List.getElem?_append_left (by simp [← hl]; exact (List.getElem?_eq_some_iff.mp hd).1), List.getElem?_map, h1]
        rfl
  · cases i with
    | zero => unfold startD at h1; simp at h1
    | succ i =>
      unfold startD at h1
      rw [List.getElem?_cons_succ] at h1
      rcases key h1 with z | ⟨d, z, _⟩
      · cases z
      · cases z
end L4
set_option Elab.async false
set_option linter.all false
set_option maxRecDepth 100000
namespace L4
open PySem PySem.Spec PyProof.Rows L2 L3
section
variable {X : Cx} {a b c e : Expr} {es : List Expr} {pos cpos apos np p p2 : Pos} {fa fb fe fk : WE} {fl : WA} {fn : WN} {x : Str}
noncomputable def bls : List D → Option (List Bool)
  | [] => some []
  | .bl b :: r => (bls r).map (b :: ·)
  | _ :: _ => none
private theorem bls_rps {K : PySem.W.Frag} {F : Hp} : ∀ {ds : List D} {bs : List Bool} {vs : List V}, bls ds = some bs → Rps K F ds vs → vs = bs.map V.bl
  | [], bs, vs, h, r => by rw [Rps] at r; subst r; cases h; rfl
  | .bl b :: ds, bs, vs, h, r => by
    rw [bls] at h
    cases q : bls ds with
    | none => rw [q] at h; cases h
    | some l =>
      rw [q] at h
      cases h
      rw [Rps] at r
      obtain ⟨v, w, rfl, h1, h2⟩ := r
      rw [Rp] at h1
      rw [h1, bls_rps q h2]
      rfl
  | .non :: _, _, _, h, _ => by cases h
  | .int _ :: _, _, _, h, _ => by cases h
  | .str _ :: _, _, _, h, _ => by cases h
  | .tup _ :: _, _, _, h, _ => by cases h
  | .lst _ :: _, _, _, h, _ => by cases h
private theorem bls_map (bs : List Bool) : bls (bs.map D.bl) = some bs := by
  induction bs with
  | nil => rfl
  | cons b r ih => rw [List.map_cons, bls, ih]; rfl
noncomputable def RAll (g : List Bool → Bool) : List D → (D → Prop) → Prop := fun xs P => match xs with
  | [.lst ds] => (match bls ds with
    | some bs => P (.bl (g bs))
    | none => False)
  | _ => False
private theorem w_all {g : List Bool → Bool} : CaW X (fun xs H Q => ∃ (p : Addr) (bs : List Bool), xs = [.ref p] ∧ SqL X.K H p (bs.map V.bl) ∧ Q (.bl (g bs)) H) (RAll g) := by
  intro xs vs F H Q P sm rs h k
  unfold RAll at h
  split at h
  · rename_i ds
    split at h
    · rename_i bs hb
      obtain ⟨v, rfl, r⟩ := rps1 rs
      rw [Rp] at r
      obtain ⟨q, ws, rfl, h1, h2⟩ := r
      have := bls_rps hb h2
      subst this
      exact ⟨q, bs, rfl, .inl (rd_same sm h1), k _ _ F H .rf (by rw [Rp]) h⟩
    · exact h.elim
  · exact h.elim
private theorem j_all (hg : Gl X "all") (hm : X.mg "all" = none) (hc : X.calm = true) (ha : JA X [a] fl) (he : starEach [a] X.env = [(false, eval a X.env)] := by rfl) : JE X (.Call (.Name "all" p) [a] [] pos) (wCall (RAll fun bs => bs.all id) fl) := j_callB (call_all hc) w_all hg hm boot_all ha (by decide) (by decide) he rfl
end
end L4
set_option Elab.async false
set_option linter.all false
set_option maxRecDepth 100000
namespace L4
open PySem PySem.Spec PyProof.Rows L2 L3
section
variable {X : Cx} {e st : Expr} {pos p2 p3 p4 : Pos} {te : TE} {fe : WE}
end
noncomputable def wCut (f : WS) : WS := fun E ρ M => ∃ I : Rho → Mm → Prop, f ⟨I, E.rt, E.bk, E.ct⟩ ρ M ∧ ∀ ρ1 M1, I ρ1 M1 → E.nx ρ1 M1
private theorem js_cut {X : Cx} {st : Stmt} {f : WS} (h : JS X st f) : JS X st (wCut f) := ⟨imS h.h fun D' σ H ⟨Z, F, ρ, M, E, ag, ⟨I, hf, hI⟩, k⟩ => ⟨Z, F, ρ, M, ⟨I, E.rt, E.bk, E.ct⟩, ag, hf, ⟨fun σ' H' F' ρ' M' s ag' i => k.nx σ' H' F' ρ' M' s ag' (hI ρ' M' i), k.bk, k.ct, k.rt⟩⟩⟩
private theorem rng_get {lo : Int} {n i : Nat} {d : D} (h : (rngD lo n)[i]? = some d) : d = .int (lo + (i : Int)) ∧ i < n := by
  have hi := (List.getElem?_eq_some_iff.mp h).1
  unfold rngD at h hi
  rw [List.length_map, List.length_range] at hi
  rw [List.getElem?_map, List.getElem?_range hi] at h
  exact ⟨(Option.some.inj h).symm, hi⟩
private theorem rng_len {lo : Int} {n : Nat} : (rngD lo n).length = n := by simp [rngD]
end L4
set_option Elab.async false
set_option linter.all false
set_option maxRecDepth 100000
namespace L4
open PySem PySem.Spec PyProof.Rows L2 L3
noncomputable def spP (K : PySem.W.Frag) (φ : Int → HO → Prop) (c : Int) (g : List D → (D → Prop) → Prop) : Sp := fun vs H Q _ => ∃ Z F M p vs' ds P b, vs = .ref p :: vs' ∧ AgM K Z F M H ∧ M p = some (.op (φ b)) ∧ c ≤ b ∧ Rps K F ds vs' ∧ g ds P ∧ ∀ v H' F' d, Same F F' → AgM K Z F' (mset M p (.op (φ (b - c)))) H' → Rp K F' d v → P d → Q v H'
noncomputable def wPl (φ : Int → HO → Prop) (c : Int) (i : Nat) (g : List D → (D → Prop) → Prop) (fl : WA) : WE := fun ρ M P => match ρ[i]? with
  | some (.rf p) => fl ρ M fun ds ρ1 M1 => ∃ b, M1 p = some (.op (φ b)) ∧ c ≤ b ∧ g ds fun d => P d ρ1 (mset M1 p (.op (φ (b - c))))
  | _ => False
section
variable {X : Cx} {e : Expr} {es : List Expr} {pos np p : Pos} {fl : WA} {x y : Str} {φ : Int → HO → Prop} {c : Int} {g : List D → (D → Prop) → Prop} {k : Nat} {ps : List Str}
private theorem j_hP (i : Nat) (F : Has X.prog X.w X.K X.mg X.base CX0 k x ps (spP X.K φ c g)) (hr : Room k X.A) (hg : Gl X x) (ha : JA X es fl) (hN : X.N[i]? = some y := by rfl) (hv : Vis X.env.scope y := by first | exact Or.inl rfl | exact Or.inr (Or.inl rfl) | exact Or.inr (Or.inr rfl)) (hd : (y == ("__debug__" : Str)) = false := by decide) (hcd : (y == ("__classdict__" : Str)) = false := by decide)
    (hdb : (x == ("__debug__" : Str)) = false := by decide) (he : starEach (.Name y np :: es) X.env = (false, eval (.Name y np) X.env) :: starEach es X.env := by rfl) (hpl : (backTo pos (starEach es X.env)).any (·.1) = false := by rfl) :
    JE X (.Call (.Name x p) (.Name y np :: es) [] pos) (wPl φ c i g fl) := ⟨imE (pe_h F hr hg pass0 (pa_cons (L2.pv i hN hv hd hcd) ha.h he) hdb he hpl) fun σ H Q hh => ex5 hh fun Z F ρ M P ag hf k => by
  unfold wPl at hf
  split at hf
  · rename_i q hq
    have h0 := ag.en i _ hq
    have hs : σ[i]? = some (some (.ref q)) := by
      have h0 : (σ[i]?).join = some (.ref q) := h0
      cases z : σ[i]? with
      | none => rw [z] at h0; cases h0
      | some o => rw [z] at h0; simp at h0; rw [h0]
    refine ⟨.ref q, hs, Z, F, ρ, M, _, ag, hf, fun vs H1 F1 ds ρ1 M1 s1 ag1 r1 h1 => ?_⟩
    show spP X.K φ c g ((.ref q :: vs) ++ []) H1 Q E0
    rw [List.append_nil]
    obtain ⟨b, h2, h3, h4⟩ := h1
    exact ⟨_, F1, M1, q, vs, ds, _, b, rfl, ag1.m.inner, h2, h3, r1, h4, fun v H' F' d s' m' r h => k v H' F' d ρ1 _ (s1.trans s') (ag1.back s' m') r h⟩
  · exact hf.elim⟩
end
noncomputable def Less (φ : Int → HO → Prop) : Prop := ∀ b b' o, b' ≤ b → φ b o → φ b' o
private theorem AgM.less {K : PySem.W.Frag} {Z F H : Hp} {M : Mm} {p : Addr} {φ : Int → HO → Prop} {b b' : Int} (L : Less φ) (h : b' ≤ b) (a : AgM K Z F M H) (hp : M p = some (.op (φ b))) : AgM K Z F (mset M p (.op (φ b'))) H := by
  refine ⟨a.sm, fun q o e => ?_, fun q o e => ?_⟩
  · obtain ⟨a1, a2, a3⟩ := a.zz q o e
    exact ⟨a1, a2, by rw [mset_ne (fun z => by rw [z, hp] at a3; cases a3)]; exact a3⟩
  · by_cases e1 : q = p
    · subst e1
      rw [mset_same] at e
      cases e
      obtain ⟨f, o, ho, po⟩ := a.mo q _ hp
      exact ⟨f, o, ho, L b b' o h po⟩
    · rw [mset_ne e1] at e
      exact a.mo q o e
private theorem mset_mset {M : Mm} {p : Addr} {o o' : MO} : mset (mset M p o) p o' = mset M p o' := by
  funext q
  by_cases h : q = p
  · subst h; rw [mset_same, mset_same]
  · rw [mset_ne h, mset_ne h, mset_ne h]
private theorem _root_.L3.Def.hasB {P : Program} {w : World} {K : PySem.W.Frag} {mg : Str → Option Value} {base : Heap} {k : Nat} {x : Str} {st : Stmt} {N ps : List Str} {φ : Int → HO → Prop} {c : Int} {g : List D → (D → Prop) → Prop} (L : Less φ) (F : Def K mg x st ps) (sc : FnScope N ps (defScope st)) (len : ∀ ds P, g ds P → ds.length + 1 = ps.length)
    (hbody : ∀ (f : Addr) (cdv : Value) (A : Around) (outer : List Env) (s : Shared) (H : Hp) (E : XK), Room k (A.deeper (envOfC x (defScope st) s.heap.objs.size f cdv)) →
      ∃ G, JSs (cxOf CX0 P w K mg base N x (defScope st) f cdv A outer s H E).nox (defBody st) G ∧ ∀ p ds M b Q, M p = some (.op (φ b)) → c ≤ b → g ds Q → G ⟨fun _ M' => False, rtD fun d M' => (∃ b', b - c ≤ b' ∧ Sub (mset M p (.op (φ b'))) M') ∧ Q d, fun _ _ => False, fun _ _ => False⟩ (startD N p ds) M) : Has P w K mg base CX0 (k + 1) x ps (spP K φ c g) := by
  refine F.has sc (fun vs H Q E h => ?_) fun f cdv A outer s H vs Q E hr h => ?_
  · obtain ⟨Z, F', M, p, vs', ds, P, b, rfl, m, hp, hb, r, hg, _⟩ := h
    rw [List.length_cons, ← r.length]
    exact len ds P hg
  · obtain ⟨Z, F', M, p, vs', ds, P', b, rfl, m, hp, hb, r, hg, kk⟩ := h
    obtain ⟨G, hG, hh⟩ := hbody f cdv A outer s H E hr
    refine ⟨_, hG.h, Z, F', startD N p ds, M, _, ag_startD N m r, hh p ds M b P' hp hb hg, ⟨fun _ _ _ _ _ _ _ q => q.elim, fun _ _ _ _ _ _ _ q => q.elim, fun _ _ _ _ _ _ _ q => q.elim, fun v H' F2 u M' s' m' r' q => ?_⟩⟩
    obtain ⟨d, r', ⟨b', h1, hs⟩, q⟩ := rtD_of (q := fun d M' => (∃ b', b - c ≤ b' ∧ Sub (mset M p (.op (φ b'))) M') ∧ P' d) q r'
    have a1 := m'.sub hs
    have a2 := AgM.less (b' := b - c) L h1 a1 mset_same
    rw [mset_mset] at a2
    exact kk v H' F2 d s' a2 r' q
end L4
set_option Elab.async false
set_option linter.all false
set_option maxRecDepth 100000
namespace L4
open PySem PySem.Spec PyProof.Rows L2 L3
section
variable {K : PySem.W.Frag} {Z F G H : Hp} {M : Mm}
end
section
variable {M M1 M2 : Mm} {d : D} {u : U} {ds es : List D} {us ws : List U} {p : Addr}
end
end L4
set_option Elab.async false
set_option linter.all false
set_option maxRecDepth 100000
namespace L4
open PySem PySem.Spec PyProof.Rows L2 L3
noncomputable abbrev WU := Rho → Mm → (U → Rho → Mm → Prop) → Prop
noncomputable def lfU (K : PySem.W.Frag) (f : WU) : TE := fun σ H Q => ∃ Z F ρ M P, Ag K Z F M H ρ σ ∧ f ρ M P ∧ ∀ v H' F' u ρ' M', Same F F' → Ag K Z F' M' H' ρ' σ → RU K F' u v → P u ρ' M' → Q v H'
structure JU (X : Cx) (e : Expr) (f : WU) : Prop where
  h : PE X e (lfU X.K f)
section
variable {K : PySem.W.Frag} {Z F H : Hp} {M : Mm} {ρ : Rho} {σ : L2.St} {p : Addr}
private theorem Ag.adopt {vs : List V} {us : List U} (ag : Ag K Z F M H ρ σ) (n2 : H p = some (.lst vs)) (n3 : F p = none) (n4 : M p = none) (nz : Z p = none) (n5 : ∀ (j : Nat) (es : List D), ρ[j]? = some (.ow es) → σ[j]? ≠ some (some (.ref p))) (r : RUs K F us vs) : Ag K Z F (mset M p (.own us)) H ρ σ := by
  refine ⟨⟨ag.m.sm, fun q o e => ?_, fun q o e => ?_⟩, ag.len, fun i e h => ?_, ag.di⟩
  · obtain ⟨z1, z2, z3⟩ := ag.m.zz q o e
    exact ⟨z1, z2, by rw [mset_ne (fun z => by rw [z, nz] at e; cases e)]; exact z3⟩
  · by_cases z : q = p
    · subst z
      rw [mset_same] at e
      cases e
      exact ⟨n3, vs, n2, r⟩
    · rw [mset_ne z] at e; exact ag.m.mo q o e
  · have := ag.en i e h
    cases e with
    | un => trivial
    | sh d => exact this
    | rf p => exact this
    | ut u => exact this
    | ow ds =>
      obtain ⟨q, ws, h1, h2, h3, h4, h6, h5⟩ := this
      have hne : q ≠ p := fun z => by
        subst z
        have hj' : σ[i]? = some (some (.ref q)) := by
          cases y : σ[i]? with
          | none => rw [y] at h1; cases h1
          | some o => rw [y] at h1; simp at h1; rw [h1]
        exact n5 i ds h hj'
      exact ⟨q, ws, h1, h2, h3, by rw [mset_ne hne]; exact h4, h6, h5⟩
end
private theorem sl_of {σ : L2.St} {i : Nat} {v : V} (g1 : (σ[i]?).join = some v) : σ[i]? = some (some v) := by
  cases q : σ[i]? with
  | none => rw [q] at g1; cases g1
  | some o => rw [q] at g1; simp at g1; rw [g1]
section
variable {X : Cx} {a b c e : Expr} {es rest : List Expr} {pos p p2 : Pos} {fa fb fe : WE} {ft : WT} {fl : WA} {fn : WN} {ga gb ge : WU} {gl : WUA} {st : Stmt} {sts : List Stmt} {fs : WS} {x : Str}
noncomputable def uD (f : WE) : WU := fun ρ M P => f ρ M fun d ρ1 M1 => P (.d d) ρ1 M1
private theorem ju_d (h : JE X e fe) : JU X e (uD fe) := ⟨imE h.h fun σ H Q hh => ex5 hh fun Z F ρ M P ag hf k => ⟨Z, F, ρ, M, _, ag, hf, fun v H' F' d ρ' M' s' ag' r h => k v H' F' _ ρ' M' s' ag' (by rw [RU]; exact r) h⟩⟩
noncomputable def uV (i : Nat) : WU := fun ρ M P => match ρ[i]? with
  | some (.sh d) => P (.d d) ρ M
  | some (.ut u) => P u ρ M
  | some (.rf p) => P (.adr p) ρ M
  | some (.ow ds) => ∀ p, M p = none → P (.adr p) (ρ.set i (.rf p)) (mset M p (.own (ds.map U.d)))
  | _ => False
private theorem ju_v (i : Nat) {x : Str} (hN : X.N[i]? = some x := by rfl) (hv : Vis X.env.scope x := by first | exact Or.inl rfl | exact Or.inr (Or.inl rfl) | exact Or.inr (Or.inr rfl)) (hd : (x == ("__debug__" : Str)) = false := by decide) (hcd : (x == ("__classdict__" : Str)) = false := by decide) : JU X (.Name x pos) (uV i) := ⟨imE (L2.pv i hN hv hd hcd) fun σ H Q hh => ex5 hh fun Z F ρ M P ag hf k => by
  unfold uV at hf
  split at hf
  · rename_i d hd
    obtain ⟨v, h1, h2⟩ := ag.en i _ hd
    exact ⟨v, sl_of h1, k v H F _ ρ M (Same.refl _) ag (by rw [RU]; exact h2) hf⟩
  · rename_i u hd
    obtain ⟨v, h1, h2⟩ := ag.en i _ hd
    exact ⟨v, sl_of h1, k v H F _ ρ M (Same.refl _) ag h2 hf⟩
  · rename_i q hd
    have h1 : (σ[i]?).join = some (.ref q) := ag.en i _ hd
    exact ⟨.ref q, sl_of h1, k _ H F _ ρ M (Same.refl _) ag (by rw [RU]) hf⟩
  · rename_i ds hd
    obtain ⟨q, vs, h1, h2, h3, h4, h5, h6⟩ := ow_get ag hd
    refine ⟨.ref q, h1, ?_⟩
    have hi : i < ρ.length := (List.getElem?_eq_some_iff.mp hd).1
    have ag1 : Ag X.K Z F M H (ρ.set i (.rf q)) σ := by
      have := ag.put (i := i) (e := .rf q) (o := some (.ref q)) rfl fun _ _ z => nomatch z
      rw [set_id h1] at this
      exact this
    refine k _ H F _ _ _ (Same.refl _) (ag1.adopt h2 h3 h4 h5 (fun j es hj z => ?_) (.ofD h6)) (by rw [RU]) (hf q h4)
    by_cases hji : j = i
    · subst hji; rw [List.getElem?_set_self hi] at hj; cases hj
    · rw [List.getElem?_set_ne (Ne.symm hji)] at hj
      exact ag.di i j ds es q (Ne.symm hji) hd hj h1 z
  · exact hf.elim⟩
section
variable {i : Nat} {pos' : Pos}
noncomputable def uSet (i : Nat) (f : WU) : WS := fun E ρ M => f ρ M fun u ρ1 M1 => E.nx (ρ1.set i (.ut u)) M1
private theorem js_setU (hN : X.N.Nodup) (hi : X.N[i]? = some x) (hx : Loc X.env.scope x) (he : JU X e ge) (hs : swapsWith e (some (.Name x pos')) pos.line X.env = pure false := by rfl) (hf : X.fn x = true ∨ X.env.scope.names.lookup x = some .local := by first | exact .inl rfl | exact .inr rfl | assumption) :
    JS X (.Assign [.Name x pos'] e pos) (uSet i ge) := ⟨imS (ps_set hN hi hx he.h hs hf) fun D' σ H hh => ex5 hh fun Z F ρ M E ag hf k => ⟨Z, F, ρ, M, _, ag, hf, fun v H' F' d ρ' M' s' ag' r h => k.nx _ H' F' _ M' s' (ag'.setU r) h⟩⟩
end
end
end L4
set_option Elab.async false
set_option linter.all false
set_option maxRecDepth 100000
namespace L4
open PySem PySem.Spec PyProof.Rows L2 L3
section
variable {X : Cx} {a b c e tg elt iter : Expr} {es ifs : List Expr} {pos cpos pos' p2 : Pos} {fi : WI} {fg : WG} {fc : WT} {fe : WU} {scope : Scope} {N : List Str} {src : List (Option Nat)} {x : Str} {k : Nat}
end
section
variable {X : Cx} {e : Expr} {es : List Expr} {pos p : Pos} {fl : WA} {x : Str} {g : List D → (D → Prop) → Prop} {k : Nat} {ps : List Str}
end
section
variable {K : PySem.W.Frag} {Z F H : Hp} {M : Mm} {A : List Addr}
end
section
variable {X : Cx} {e : Expr} {ft : WT} {i : Nat}
end
end L4
set_option Elab.async false
set_option linter.all false
set_option maxRecDepth 100000
namespace L4
open PySem PySem.Spec PyProof.Rows L2 L3
section
variable {X : Cx} {a b c e : Expr} {es rest : List Expr} {pos p p2 : Pos} {fa fb fe : WE} {ft : WT} {fl : WA} {ga gb ge : WU} {x : Str}
private theorem boot_min : bootBuiltins "min" = some (.builtin "min") := by decide +kernel
noncomputable def RMx (g : Int → Int → Int) : List D → (D → Prop) → Prop := fun xs P => match xs with
  | [.int i, .int j] => P (.int (g i j))
  | _ => False
private theorem w_mx {g : Int → Int → Int} : CaW X (fun xs H Q => ∃ i j, xs = [.int i, .int j] ∧ Q (.int (g i j)) H) (RMx g) := by
  intro xs vs F H Q P sm rs h k
  unfold RMx at h
  split at h
  · obtain ⟨v, u, rfl, r1, r2⟩ := rps2 rs
    rw [Rp] at r1 r2
    subst r1 r2
    exact ⟨_, _, rfl, k _ _ F H .rf (by rw [Rp]) h⟩
  · exact h.elim
private theorem j_min2 (hg : Gl X "min") (hm : X.mg "min" = none) (hc : X.calm = true) (ha : JA X [a, b] fl) (he : starEach [a, b] X.env = (false, eval a X.env) :: starEach [b] X.env := by rfl) (hpl : (backTo pos (starEach [b] X.env)).any (·.1) = false := by rfl) : JE X (.Call (.Name "min" p) [a, b] [] pos) (wCall (RMx fun i j => if j < i then j else i) fl) := j_callB (call_min2 hc) w_mx hg hm boot_min ha (by decide) (by decide) he hpl
noncomputable def RTupC : List D → (D → Prop) → Prop := fun xs P => match xs with
  | [.lst ds] => P (.tup ds)
  | [.tup ds] => P (.tup ds)
  | _ => False
private theorem w_tupc : CaW X (fun xs H Q => ∃ p ys, xs = [.ref p] ∧ ((SqL X.K H p ys ∧ ∀ l, H l = none → Q (.ref l) (upd H l (.tup ys))) ∨ (SqT X.K H p ys ∧ Q (.ref p) H))) RTupC := by
  intro xs vs F H Q P sm rs h k
  unfold RTupC at h
  split at h
  · obtain ⟨v, rfl, r⟩ := rps1 rs
    rw [Rp] at r
    obtain ⟨q, ws, rfl, h1, h2⟩ := r
    refine ⟨q, ws, rfl, .inl ⟨.inl (rd_same sm h1), fun l hl => ?_⟩⟩
    have sn : Same F (upd F l (.tup ws)) := Same.new (sub_none sm hl)
    exact k _ _ _ _ (.nw hl) (by rw [Rp]; exact ⟨l, ws, rfl, SqT.of upd_same, h2.same sn⟩) h
  · obtain ⟨v, rfl, r⟩ := rps1 rs
    have r0 := r
    rw [Rp] at r
    obtain ⟨q, ws, rfl, h1, h2⟩ := r
    exact ⟨q, ws, rfl, .inr ⟨sqT_same sm h1, k _ _ F H .rf r0 h⟩⟩
  · exact h.elim
end
noncomputable def spMk (K : PySem.W.Frag) (Pl : Pool) (gk : List D → Prop) (φ : HO → Prop) : Sp := fun vs H Q _ => ∃ Z F M a vs' ds, vs = .ref a :: vs' ∧ AgM K Z F M H ∧ Pl M a ∧ Rps K F ds vs' ∧ gk ds ∧ ∀ p H' F', M p = none → Same F F' → AgM K Z F' (mset M p (.op φ)) H' → Q (.ref p) H'
section
variable {K : PySem.W.Frag} {Z F H : Hp} {M : Mm} {ρ : Rho} {σ : L2.St} {p : Addr}
end
section
variable {X : Cx} {e : Expr} {es : List Expr} {pos np p cpos pos' : Pos} {fl : WA} {x y f : Str} {Pl : Pool} {gk : List D → Prop} {φ : HO → Prop} {k i : Nat} {ps : List Str}
noncomputable def wMk (i j : Nat) (Pl : Pool) (gk : List D → Prop) (φ : HO → Prop) (fl : WA) : WS := fun E ρ M => match ρ[j]? with
  | some (.rf a) => fl ρ M fun ds ρ1 M1 => Pl M1 a ∧ gk ds ∧ ∀ p, M1 p = none → E.nx (ρ1.set i (.rf p)) (mset M1 p (.op φ))
  | _ => False
private theorem js_mk (j : Nat) (F : Has X.prog X.w X.K X.mg X.base CX0 k f ps (spMk X.K Pl gk φ)) (hr : Room k X.A) (hg : Gl X f) (hN : X.N.Nodup) (hi : X.N[i]? = some x) (hx : Loc X.env.scope x) (ha : JA X es fl) (hj : X.N[j]? = some y := by rfl) (hv : Vis X.env.scope y := by first | exact Or.inl rfl | exact Or.inr (Or.inl rfl) | exact Or.inr (Or.inr rfl)) (hd : (y == ("__debug__" : Str)) = false := by decide) (hcd : (y == ("__classdict__" : Str)) = false := by decide)
    (hdb : (f == ("__debug__" : Str)) = false := by decide) (he : starEach (.Name y np :: es) X.env = (false, eval (.Name y np) X.env) :: starEach es X.env := by rfl) (hpl : (backTo cpos (starEach es X.env)).any (·.1) = false := by rfl)
    (hs : swapsWith (.Call (.Name f p) (.Name y np :: es) [] cpos) (some (.Name x pos')) pos.line X.env = pure false := by rfl) (hf : X.fn x = true ∨ X.env.scope.names.lookup x = some .local := by first | exact .inl rfl | exact .inr rfl | assumption) :
    JS X (.Assign [.Name x pos'] (.Call (.Name f p) (.Name y np :: es) [] cpos) pos) (wMk i j Pl gk φ fl) := ⟨imS (ps_set hN hi hx (pe_h F hr hg pass0 (pa_cons (L2.pv j hj hv hd hcd) ha.h he) hdb he hpl) hs hf) fun D' σ H hh => ex5 hh fun Z F ρ M E ag hf k => by
  unfold wMk at hf
  split at hf
  · rename_i q hq
    have hs : σ[j]? = some (some (.ref q)) := sl_of (ag.en j _ hq)
    refine ⟨.ref q, hs, Z, F, ρ, M, _, ag, hf, fun vs H1 F1 ds ρ1 M1 s1 ag1 r1 h1 => ?_⟩
    show spMk X.K Pl gk φ ((.ref q :: vs) ++ []) H1 _ E0
    rw [List.append_nil]
    refine ⟨_, F1, M1, q, vs, ds, rfl, ag1.m.inner, h1.1, r1, h1.2.1, fun p H2 F2 hp s2 m2 => ?_⟩
    exact k.nx _ _ F2 _ _ (s1.trans s2) ((ag1.back s2 m2).put (e := .rf p) rfl fun _ _ z => nomatch z) (h1.2.2 p hp)
  · exact hf.elim⟩
end
end L4
set_option Elab.async false
set_option linter.all false
set_option maxRecDepth 100000
namespace L4
open PySem PySem.Spec PyProof.Rows L2 L3
noncomputable def isScr (ns : List Int) : HO → Prop := fun o => o = .lst (ns.map V.int) ∨ ∃ ob, o = .frz ob (.lst (ns.map V.int))
noncomputable def ScrN (K : PySem.W.Frag) (M : Mm) (p : Addr) (ns : List Int) : Prop := ns.length ≤ 63 ∧ (M p = some (.op (isScr ns)) ∨ ∃ (o : Obj) (its : Array Value) (n : Nat), K.lookup p = some o ∧ o.cls = .type "list" ∧ o.dict = none ∧ o.data = .seq its n ∧ its.size ≤ sizeLine ∧ Vals (ns.map V.int) its.toList)
noncomputable def Scr (K : PySem.W.Frag) : Pool := fun M p => ∃ ns : List Int, ScrN K M p ns
section
variable {K : PySem.W.Frag}
private theorem ScrN.sq {Z F H : Hp} {M : Mm} {p : Addr} {ns : List Int} (ag : AgM K Z F M H) (h : ScrN K M p ns) : SqL K H p (ns.map V.int) := by
  obtain ⟨l, h | h⟩ := h
  · obtain ⟨_, o, ho, e⟩ := ag.mo p _ h
    rcases e with rfl | ⟨ob, rfl⟩
    · exact .inl (.inl ho)
    · exact .inl (.inr ⟨ob, ho⟩)
  · exact .inr h
private theorem Scr.start {H : Hp} {a : Addr} {ns : List Int} {N : List Str} (l : ns.length ≤ 63) (h : SqL K H a (ns.map V.int)) : ∃ M, Ag K (fun _ => none) (fun _ => none) M H (startD N a []) (L2.start N [.ref a]) ∧ ScrN K M a ns := by
  rcases h with h | h
  · refine ⟨mset (fun _ => none) a (.op (isScr ns)), ag_startD N ⟨fun _ _ e => (nomatch e), fun _ _ e => (nomatch e), fun b o e => ?_⟩ .nil, l, .inl mset_same⟩
    by_cases e1 : b = a
    · subst e1
      rw [mset_same] at e
      cases e
      rcases h with h | ⟨ob, h⟩
      · exact ⟨rfl, _, h, .inl rfl⟩
      · exact ⟨rfl, _, h, .inr ⟨ob, rfl⟩⟩
    · rw [mset_ne e1] at e; cases e
  · exact ⟨fun _ => none, ag_startD N ⟨fun _ _ e => (nomatch e), fun _ _ e => (nomatch e), fun b o e => (nomatch e)⟩ .nil, l, .inr h⟩
end
section
variable {X : Cx} {a b c e : Expr} {es : List Expr} {pos np p cpos pos' spos : Pos} {fa fb fe fk : WE} {fl : WA} {ge : WU} {x y : Str}
noncomputable def wLenS (K : PySem.W.Frag) (i : Nat) : WE := fun ρ M P => match ρ[i]? with
  | some (.rf q) => ∃ ns, ScrN K M q ns ∧ P (.int ns.length) ρ M
  | _ => False
private theorem j_lenS (i : Nat) (hg : Gl X "len") (hm : X.mg "len" = none) (hN : X.N[i]? = some x := by rfl) (hv : Vis X.env.scope x := by first | exact Or.inl rfl | exact Or.inr (Or.inl rfl) | exact Or.inr (Or.inr rfl)) (hd : (x == ("__debug__" : Str)) = false := by decide) (hcd : (x == ("__classdict__" : Str)) = false := by decide)
    (he : starEach [.Name x np] X.env = [(false, eval (.Name x np) X.env)] := by rfl) : JE X (.Call (.Name "len" p) [.Name x np] [] pos) (wLenS X.K i) := by
  refine ⟨imE (pe_callB (pos := pos) (p := p) call_len_seq hg hm boot_len (pa_cons (L2.pv (pos := np) i hN hv hd hcd) pa_nil he) (by decide) (by decide) he rfl) fun σ H Q hh => ex5 hh fun Z F ρ M P ag hf k => ?_⟩
  unfold wLenS at hf
  split at hf
  · rename_i q hq
    obtain ⟨ns, hs, hp⟩ := hf
    refine ⟨.ref q, sl_of (ag.en i _ hq), q, _, rfl, .inl (hs.sq ag.m), k _ H F _ ρ M (Same.refl _) ag ?_ hp⟩
    rw [Rp, List.length_map]
  · exact hf.elim
end
private theorem ScrN.mono {K : PySem.W.Frag} {M M' : Mm} {p : Addr} {ns : List Int} (s : Sub M M') (h : ScrN K M p ns) : ScrN K M' p ns := by
  obtain ⟨l, h | h⟩ := h
  · exact ⟨l, .inl (s _ _ h)⟩
  · exact ⟨l, .inr h⟩
private theorem Sub.mset {M M' : Mm} {q : Addr} {o : MO} (s : Sub M M') (h : M q = none) : Sub M (mset M' q o) := fun p u e => by
  rw [mset_ne (fun z => by rw [z, h] at e; cases e)]; exact s p u e
end L4
set_option Elab.async false
set_option linter.all false
set_option maxRecDepth 100000
namespace L4
open PySem PySem.Spec PyProof.Rows L2 L3
noncomputable def vOf : D → Option V
  | .int i => some (.int i)
  | .bl b => some (.bl b)
  | _ => none
private theorem vOf_rp {K : PySem.W.Frag} {F : Hp} {d : D} {v u : V} (h : vOf d = some v) (r : Rp K F d u) : u = v := by
  cases d with
  | int i => rw [Rp] at r; cases h; exact r
  | bl i => rw [Rp] at r; cases h; exact r
  | _ => cases h
section
variable {X : Cx} {e1 e2 e3 : Expr} {f1 f2 f3 : WE} {k1 k2 k3 : Str} {j1 j2 j3 : Nat} {pos p1 p2 p3 rpos : Pos}
noncomputable def wRetD3 (φ : HO → Prop) (k1 k2 k3 : Str) (f1 f2 f3 : WE) : WS := fun E ρ M => f1 ρ M fun d1 ρ1 M1 => f2 ρ1 M1 fun d2 ρ2 M2 => f3 ρ2 M2 fun d3 ρ3 M3 => ∃ v1 v2 v3, vOf d1 = some v1 ∧ vOf d2 = some v2 ∧ vOf d3 = some v3 ∧ φ (.dK (mergeK [] [(.inr k1, v1), (.inr k2, v2), (.inr k3, v3)])) ∧ ∀ p, M3 p = none → E.rt (.adr p) (mset M3 p (.op φ))
private theorem js_retD3 (φ : HO → Prop) (h1 : JE X e1 f1) (h2 : JE X e2 f2) (h3 : JE X e3 f3) : JS X (.Return (some (.Dict [some (.Constant (.str k1) j1 p1), some (.Constant (.str k2) j2 p2), some (.Constant (.str k3) j3 p3)] [e1, e2, e3] pos)) rpos) (wRetD3 φ k1 k2 k3 f1 f2 f3) :=
  ⟨imS (ps_ret (pe_disp (pps_cons pe_str h1.h (pps_cons pe_str h2.h (pps_cons pe_str h3.h pps_nil))) rfl rfl (by simp) (by show 3 ≤ 15; decide))) fun D' σ H hh => ex5 hh fun Z F ρ M E ag hf k => by
    intro p hp
    have zp : Z p = none := by
      cases q : Z p with
      | none => rfl
      | some o => have := (ag.m.zz p o q).1; rw [hp] at this; cases this
    have mp : M p = none := by
      cases q : M p with
      | none => rfl
      | some o =>
        obtain ⟨_, k⟩ := ag.m.mo p o q
        obtain ⟨u, hu⟩ := k.there
        rw [hp] at hu; cases hu
    have fp := sub_none ag.m.sm hp
    have a0 := ag.newO (o := .dK []) hp
    have az : Ag X.K (upd Z p (.dK [])) F M (upd H p (.dK [])) ρ σ := by
      refine ⟨⟨a0.m.sm, fun q o e => ?_, a0.m.mo⟩, a0.len, fun i en h => ?_, a0.di⟩
      · by_cases z : q = p
        · subst z; rw [upd_same] at e; cases e; exact ⟨upd_same, fp, mp⟩
        · rw [upd_ne z] at e; exact a0.m.zz q o e
      · have := a0.en i en h
        cases en with
        | un => trivial
        | sh d => exact this
        | rf p => exact this
        | ut u => exact this
        | ow ds =>
          obtain ⟨q, ws, g1, g2, g3, g4, g6, g5⟩ := ag.en i _ h
          have hne : q ≠ p := fun z => by rw [z, hp] at g2; cases g2
          exact ⟨q, ws, g1, by rw [upd_ne hne]; exact g2, g3, g4, by rw [upd_ne hne]; exact g6, g5⟩
    refine ⟨upd Z p (.dK []), F, ρ, M, _, az, hf, fun v1 H1 F1 d1 ρ1 M1 s1 ag1 r1 g1 => ⟨upd Z p (.dK []), F1, ρ1, M1, _, ag1, g1, fun v2 H2 F2 d2 ρ2 M2 s2 ag2 r2 g2 => ⟨upd Z p (.dK []), F2, ρ2, M2, _, ag2, g2, fun v3 H3 F3 d3 ρ3 M3 s3 ag3 r3 g3 => ?_⟩⟩⟩
    obtain ⟨w1, w2, w3, e1, e2, e3, hφ, hk⟩ := g3
    have := vOf_rp e1 r1
    subst this
    have := vOf_rp e2 r2
    subst this
    have := vOf_rp e3 r3
    subst this
    obtain ⟨y1, y2, y3⟩ := ag3.m.zz p _ upd_same
    refine ⟨y1, [(.inr k1, v1), (.inr k2, v2), (.inr k3, v3)], rfl, by show 3 ≤ 15; decide, k.rt _ _ F3 (.adr p) (mset M3 p (.op φ)) (s1.trans (s2.trans s3)) ⟨fun q u e => ?_, fun q o e => ?_, fun q o e => ?_⟩ (by rw [RU]) (hk p y3)⟩
    · rw [upd_ne (fun z => by rw [z, y2] at e; cases e)]; exact ag3.m.sm q u e
    · have z : q ≠ p := fun z => by rw [z, zp] at e; cases e
      obtain ⟨x1, x2, x3⟩ := ag3.m.zz q o (by rw [upd_ne z]; exact e)
      exact ⟨by rw [upd_ne z]; exact x1, x2, by rw [mset_ne z]; exact x3⟩
    · by_cases z : q = p
      · subst z; rw [mset_same] at e; cases e; exact ⟨y2, _, upd_same, hφ⟩
      · rw [mset_ne z] at e
        obtain ⟨x1, x2⟩ := ag3.m.mo q o e
        exact ⟨x1, x2.same (Same.refl _) (upd_ne z)⟩⟩
end
private theorem _root_.L3.Def.hasMkO {P : Program} {w : World} {K : PySem.W.Frag} {mg : Str → Option Value} {base : Heap} {k : Nat} {x : Str} {st : Stmt} {N ps : List Str} {Pl : Pool} {gk : List D → Prop} {φ : HO → Prop} (F : Def K mg x st ps) (sc : FnScope N ps (defScope st)) (len : ∀ ds, gk ds → ds.length + 1 = ps.length)
    (hbody : ∀ (f : Addr) (cdv : Value) (A : Around) (outer : List Env) (s : Shared) (H : Hp) (E : XK), Room k (A.deeper (envOfC x (defScope st) s.heap.objs.size f cdv)) →
      ∃ G, JSs (cxOf CX0 P w K mg base N x (defScope st) f cdv A outer s H E).nox (defBody st) G ∧ ∀ p ds M, Pl M p → gk ds → G ⟨fun _ _ => False, fun u M' => ∃ q, u = .adr q ∧ M q = none ∧ Sub (mset M q (.op φ)) M', fun _ _ => False, fun _ _ => False⟩ (startD N p ds) M) : Has P w K mg base CX0 (k + 1) x ps (spMk K Pl gk φ) := by
  refine F.has sc (fun vs H Q E h => ?_) fun f cdv A outer s H vs Q E hr h => ?_
  · obtain ⟨Z, F', M, p, vs', ds, rfl, m, hp, r, hg, _⟩ := h
    rw [List.length_cons, ← r.length]
    exact len ds hg
  · obtain ⟨Z, F', M, p, vs', ds, rfl, m, hp, r, hg, kk⟩ := h
    obtain ⟨G, hG, hh⟩ := hbody f cdv A outer s H E hr
    refine ⟨_, hG.h, Z, F', startD N p ds, M, _, ag_startD N m r, hh p ds M hp hg, ⟨fun _ _ _ _ _ _ _ q => q.elim, fun _ _ _ _ _ _ _ q => q.elim, fun _ _ _ _ _ _ _ q => q.elim, fun v H' F2 u M' s' m' r' ⟨q, e, hq, hs⟩ => ?_⟩⟩
    subst e
    rw [RU] at r'
    subst r'
    exact kk q H' F2 hq s' (m'.sub hs)
section
variable {X : Cx} {es es2 : List Expr} {pos np p p2 cpos : Pos} {fl fl2 : WA} {x y f : Str} {Pl : Pool} {gk : List D → Prop} {φ : Int → HO → Prop} {g : List D → (D → Prop) → Prop} {k k' : Nat} {b c : Int} {ps ps' : List Str}
end
end L4
set_option Elab.async false
set_option linter.all false
set_option maxRecDepth 100000
namespace L4
open PySem PySem.Spec PyProof.Rows L2 L3
section
variable {K : PySem.W.Frag} {F : Hp} {A : List Addr}
end
section
variable {K : PySem.W.Frag} {Z F F' H H' : Hp} {M M' : Mm} {ρ : Rho} {σ : L2.St} {A : List Addr} {d d' : D} {u u' : U} {v : V}
private theorem none_of (a : AgM K Z F M H) {p : Addr} (h : H p = none) : F p = none ∧ M p = none ∧ Z p = none := by
  refine ⟨sub_none a.sm h, ?_, ?_⟩
  · cases q : M p with
    | none => rfl
    | some o =>
      obtain ⟨_, k⟩ := a.mo p o q
      obtain ⟨u, hu⟩ := k.there
      rw [h] at hu; cases hu
  · cases q : Z p with
    | none => rfl
    | some o => have := (a.zz p o q).1; rw [h] at this; cases this
end
section
variable {X : Cx} {e : Expr} {es : List Expr} {pos p : Pos} {fl : WA} {x : Str} {g : List D → (D → Prop) → Prop} {k i : Nat} {ps : List Str}
end
section
variable {X : Cx} {a b c e tg elt iter : Expr} {es ifs : List Expr} {pos cpos pos' p2 : Pos} {fe : WE} {fi : WI} {fg : WG} {fc : WT} {scope : Scope} {N : List Str} {src : List (Option Nat)} {x : Str} {k : Nat}
end
section
variable {K : PySem.W.Frag} {Z F G H : Hp} {M : Mm}
end
end L4
set_option Elab.async false
set_option linter.all false
set_option maxRecDepth 100000
namespace L4
open PySem PySem.Spec PyProof.Rows L2 L3
section
variable {X : Cx} {pins : List (Addr × Obj)} {σ : L2.St} {H : Hp} {s : Shared}
end
section
variable {K : PySem.W.Frag} {Z F H : Hp} {M : Mm} {ρ : Rho} {σ : L2.St} {p : Addr}
private theorem Ag.adoptM {o : HO} {mo : MO} (ag : Ag K Z F M H ρ σ) (n2 : H p = some o) (n3 : F p = none) (n4 : M p = none) (nz : Z p = none) (n5 : ∀ (j : Nat) (es : List D), ρ[j]? = some (.ow es) → σ[j]? ≠ some (some (.ref p))) (r : MOk K F H p mo) : Ag K Z F (mset M p mo) H ρ σ := by
  refine ⟨⟨ag.m.sm, fun q o e => ?_, fun q o e => ?_⟩, ag.len, fun i e h => ?_, ag.di⟩
  · obtain ⟨z1, z2, z3⟩ := ag.m.zz q o e
    exact ⟨z1, z2, by rw [mset_ne (fun z => by rw [z, nz] at e; cases e)]; exact z3⟩
  · by_cases z : q = p
    · subst z
      rw [mset_same] at e
      cases e
      exact ⟨n3, r⟩
    · rw [mset_ne z] at e; exact ag.m.mo q o e
  · have := ag.en i e h
    cases e with
    | un => trivial
    | sh d => exact this
    | rf p => exact this
    | ut u => exact this
    | ow ds =>
      obtain ⟨q, ws, h1, h2, h3, h4, h6, h5⟩ := this
      exact ⟨q, ws, h1, h2, h3, by rw [mset_ne (fun z => n5 i ds h (by rw [← z]; exact sl_of h1))]; exact h4, h6, h5⟩
end
section
variable {X : Cx} {a b c e f : Expr} {es : List Expr} {pos np p apos cpos pos' dpos : Pos} {fl : WA} {x y : Str} {i : Nat}
end
end L4
set_option Elab.async false
set_option linter.all false
set_option maxRecDepth 100000
namespace L4
open PySem PySem.Spec PyProof.Rows L2 L3
section
variable {X : Cx} {a b c e tg : Expr} {es : List Expr} {pos np p p2 pos2 apos cpos : Pos} {fl : WA} {fn : WN} {x : Str}
noncomputable def wExt (i : Nat) (fn : WN) : WS := fun E ρ M => isOw ρ[i]? ∧ fn ρ M fun ds ρ1 M1 => match ρ1[i]? with
  | some (.ow es) => es.length + ds.length ≤ sizeLine ∧ E.nx (ρ1.set i (.ow (es ++ ds))) M1
  | _ => False
private theorem js_extN (i : Nat) (hn : JN X e fn) (hN : X.N[i]? = some x := by rfl) (hv : Vis X.env.scope x := by first | exact Or.inl rfl | exact Or.inr (Or.inl rfl) | exact Or.inr (Or.inr rfl)) (hd : (x == ("__debug__" : Str)) = false := by decide) (hcd : (x == ("__classdict__" : Str)) = false := by decide)
    (hbase : attributeBase (.Name x np) "extend" X.env (eval (.Name x np) X.env) = eval (.Name x np) X.env := by rfl)
    (hfew : ((backTo cpos (starEach [e] X.env)).all (fun x => !x.1) && (backToKw cpos (keywordEach [] X.env)).all (fun x => x.1.isSome) && decide ([e].length + ([] : List Keyword).length + (if ([] : List Keyword).isEmpty then 0 else 1) < 30)) = true := by rfl)
    (hline : (apos.endLine == cpos.line) = true := by rfl) (hs : starEach [e] X.env = [(false, eval e X.env)] := by rfl) (hplain : (backTo cpos (starEach [] X.env)).any (·.1) = false := by rfl)
    (hsw : swapsWith (.Call (.Attribute (.Name x np) "extend" apos) [e] [] cpos) none pos.line X.env = pure false := by rfl) : JS X (.Expr (.Call (.Attribute (.Name x np) "extend" apos) [e] [] cpos) pos) (wExt i fn) :=
  ⟨imS (ps_expr (pe_bm PySem.F.plainAttrs_list PySem.F.slot_list_extend PySem.F.type_list_extend mt_extend (L2.pv i hN hv hd hcd) (pa_cons hn.h pa_nil hs) hbase hfew hline hs hplain) hsw) fun D' σ H hh => ex5 hh fun Z F ρ M E ag hf k => by
    obtain ⟨ho, hf⟩ := hf
    obtain ⟨ds0, ho⟩ := isOw_of ho
    obtain ⟨p, vs, h1, h2, h3, h4, h5, h6⟩ := ow_get ag ho
    refine ⟨.ref p, h1, .inl ⟨rfl, vs, SqL.of h2⟩, Z, F, ρ, M, _, ag, hf, fun q ws H1 F1 ds ρ1 M1 s1 ag1 n2 n3 n4 nz n5 r1 hh => ?_⟩
    split at hh
    · rename_i es hd
      obtain ⟨p', us, g1, g2, g3, g4, g5, g6⟩ := ow_get ag1 hd
      rw [h1] at g1
      cases g1
      exact ⟨p, q, us, ws, rfl, rfl, g2, n2, by rw [← g6.length, ← r1.length]; exact hh.1, k.nx σ _ F1 _ M1 s1 (ag1.chg hd h1 g2 g3 g4 g5 (g6.append r1)) hh.2⟩
    · exact hh.elim⟩
end
noncomputable def wSetZ (k : Nat) (f : WN) : WS := fun E ρ M => f ρ M fun ds ρ1 M1 => E.nx (ρ1.set k (.sh (.lst ds))) M1
private theorem js_setCZ {X : Cx} {tg elt iter : Expr} {ifs : List Expr} {pos cpos pos' : Pos} {fe : WE} {fi : WI} {fg : WG} {fc : WT} {scope : Scope} {x : Str} {k : Nat} (hN : X.N.Nodup) (hk : X.N[k]? = some x) (hx : Loc X.env.scope x) (N : List Str) (src : List (Option Nat)) (ok : CompOk X scope N src) (hcalm : X.calm = true) (hi : JI X tg iter fi)
    (hg : ∀ pins s2 H2 C fp, JG (cxComp X pins s2 H2 N scope C fp) tg fg) (hc : ∀ pins s2 H2 C fp, JC (cxComp X pins s2 H2 N scope C fp) ifs fc) (he : ∀ pins s2 H2 C fp, JE (cxComp X pins s2 H2 N scope C fp) elt fe)
    (hsw : swapsWith (.ListComp elt [⟨tg, iter, ifs, 0⟩] scope cpos) (some (.Name x pos')) pos.line X.env = pure true := by rfl)
    (hs : ∀ x, foldedSetIterable iter X.env x = pure x := by intro _; rfl) (hfn : X.fn x = true ∨ X.env.scope.names.lookup x = some .local := by first | exact .inl rfl | exact .inr rfl | assumption) :
    JS X (.Assign [.Name x pos'] (.ListComp elt [⟨tg, iter, ifs, 0⟩] scope cpos) pos) (wSetZ k (wComp fi fg fc fe src)) :=
  ⟨imS (ps_setComp hN hk hx N src ok hcalm hi.h (fun a b c d e => (hg a b c d e).h) (fun a b c d e => (hc a b c d e).h) (fun a b c d e => (he a b c d e).h) hsw hs hfn) fun D' σ H hh => ex5 hh fun Z F ρ M E ag hf kk =>
    of_comp (fun _ _ _ _ h => h) (fun _ _ _ h => h) (fun _ _ _ h => h) σ H _ ⟨Z, F, ρ, M, _, ag, hf, fun p vs H' F' ds ρ' M' s' ag' n2 n3 n4 nz n5 r h => by
      have a := ag'.setO (i := k) n2 n3 n4 nz r n5
      by_cases c : k < ρ'.length
      · obtain ⟨F2, v, h1, h2, h3, h4⟩ := a.fz (i := k) (ds := ds) (by rw [List.getElem?_set_self c])
        rw [List.set_set] at h4
        exact kk.nx _ H' F2 _ M' (s'.trans h2) h4 h
      · have e1 : ρ'.set k (.ow ds) = ρ' := List.set_eq_of_length_le (by omega)
        have e2 : ρ'.set k (.sh (.lst ds)) = ρ' := List.set_eq_of_length_le (by omega)
        rw [e1] at a
        rw [e2] at h
        exact kk.nx _ H' F' _ M' s' a h⟩⟩
end L4
set_option Elab.async false
set_option linter.all false
set_option maxRecDepth 100000
namespace L4
open PySem PySem.Spec PyProof.Rows L2 L3 PySem.SeqAt
noncomputable def spE (K : PySem.W.Frag) (C : Addr) (g : List D → (Option D → Prop) → Prop) : Sp := fun vs H Q E => ∃ Z F M ds P, AgM K Z F M H ∧ Rps K F ds vs ∧ g ds P ∧ (∀ v H' F' d, Same F F' → AgM K Z F' M H' → Rp K F' d v → P (some d) → Q v H') ∧ (∀ x H' F', Same F F' → AgM K Z F' M H' → H' x = none → P none → E (.ref C) (some x) H')
private theorem Ag.unset {K : PySem.W.Frag} {Z F H : Hp} {M : Mm} {ρ : Rho} {σ : L2.St} {j : Nat} (a : Ag K Z F M H ρ σ) : Ag K Z F M H (ρ.set j .un) (σ.set j none) := a.put (e := .un) (o := none) trivial fun _ _ z => nomatch z
section
variable {X : Cx} {e : Expr} {es : List Expr} {fl : WA} {fs : WS} {x n f S : Str} {i j : Nat} {g : List D → (Option D → Prop) → Prop} {k : Nat} {ps : List Str} {b0 : Stmt} {suite : List Stmt} {pos pos' p cpos np hpos tpos : Pos} {C Sa : Addr}
end
section
variable {X : Cx} {a b e : Expr} {pos np p np2 : Pos} {x y : Str}
end
section
variable {X : Cx} {a b : Expr} {pos : Pos} {fa fb : WE}
end
end L4
set_option Elab.async false
set_option linter.all false
set_option maxRecDepth 100000
namespace L4
open PySem PySem.Spec PySem.Calls PyProof.Rows L2 L3
section
variable {P : Program} {w : World} {K : PySem.W.Frag} {mg : Str → Option Value} {base : Heap} {k : Nat} {x : Str} {st : Stmt} {N ps : List Str} {g : WFU}
end
section
variable {X : Cx} {a e : Expr} {es : List Expr} {pos p apos : Pos} {gl : WUA} {ga ge : WU} {fe : WE} {fl : WA} {x f : Str} {k : Nat} {ps : List Str}
end
section
variable {K : PySem.W.Frag} {Z F H H' : Hp} {M : Mm} {ρ : Rho} {σ : L2.St} {P : Addr} {lpos : Pos} {q : Str}
end
section
variable {X : Cx} {e : Expr} {fe : WE} {i j : Nat} {x y fld : Str} {c P cy C : Addr} {params : Arguments} {scope : Scope} {p pos lpos kp1 kp2 np p1 p2 p3 p4 : Pos} {ns : List Str}
end
end L4
set_option Elab.async false
set_option linter.all false
set_option maxRecDepth 100000
namespace L4
open PySem PySem.Spec PySem.Calls PyProof.Rows L2 L3
section
variable {X : Cx} {a b : Expr} {pos : Pos} {fa fb : WE}
end
private theorem len1 {α : Type} : ∀ {l : List α}, l.length = 1 → ∃ a, l = [a]
  | [a], _ => ⟨a, rfl⟩
private theorem len2 {α : Type} : ∀ {l : List α}, l.length = 2 → ∃ a b, l = [a, b] := fun {l} h => match l with
  | a :: l => let ⟨b, e⟩ := len1 (l := l) (Nat.succ.inj h); ⟨a, b, congrArg _ e⟩
private theorem len3 {α : Type} : ∀ {l : List α}, l.length = 3 → ∃ a b c, l = [a, b, c] := fun {l} h => match l with
  | a :: l => let ⟨b, c, e⟩ := len2 (l := l) (Nat.succ.inj h); ⟨a, b, c, congrArg _ e⟩
end L4
set_option Elab.async false
set_option linter.all false
set_option maxRecDepth 100000
set_option maxHeartbeats 4000000
namespace M
open PySem PySem.Spec PyProof.Rows L2 L3 L4
noncomputable def top (i : Nat) : Stmt := PySem.Challenge.pw_shimright_k77_whole_texts_changed.main.body.getD i (.Pass ⟨0, 0, 0, 0⟩)
section
variable {P : Program} {w : World} {K : PySem.W.Frag} {mg : Str → Option Value} {base : Heap}
/-! ### texts, read -/
section
variable {X : Cx} {a b e o tg : Expr} {es : List Expr} {pos p p2 : Pos} {fa fb : WE} {fl : WA}
noncomputable def MtW (X : Cx) (r : V → List V → Hp → VK → Prop) (R : Str → List D → (D → Prop) → Prop) : Prop := ∀ (x : Str) (xs : List D) (vs : List V) (F H : Hp) (Q : VK) (P : D → Prop), Same F H → Rps X.K F xs vs → R x xs P → (∀ d w F' H', Gw F H F' H' → Rp X.K F' d w → P d → Q w H') → r (.str x) vs H Q
noncomputable def wMt (R : Str → List D → (D → Prop) → Prop) (fa : WE) (fl : WA) : WE := fun ρ M P => fa ρ M fun x ρ1 M1 => match x with
  | .str x => fl ρ1 M1 fun xs ρ2 M2 => R x xs fun d => P d ρ2 M2
  | _ => False
private theorem j_mt {E : Expr} {r : V → List V → Hp → VK → Prop} {R : Str → List D → (D → Prop) → Prop} (hh : ∀ {to : TE} {t : TA}, PE X o to → PA X es t → PE X E (tBM X.K "str" r to t)) (w : MtW X r R) (ho : JE X o fa) (ha : JA X es fl) : JE X E (wMt R fa fl) :=
  ⟨imE (hh ho.h ha.h) fun σ H Q hh => ex5 hh fun Z F ρ M P ag hf k => ⟨Z, F, ρ, M, _, ag, hf, fun v H1 F1 d1 ρ1 M1 s1 ag1 r1 h1 => by
    split at h1
    · rename_i x
      rw [Rp] at r1
      subst r1
      exact ⟨rfl, Z, F1, ρ1, M1, _, ag1, h1, fun vs H2 F2 ds ρ2 M2 s2 ag2 r2 h2 => w x ds vs F2 H2 Q _ ag2.m.sm r2 h2 fun d w F' H' g rp hp => k w H' F' d ρ2 M2 (s1.trans (s2.trans (g.same ag2.m.sm))) (g.ag ag2) rp hp⟩
    · exact h1.elim⟩⟩
noncomputable def rStarts : V → List V → Hp → VK → Prop := fun x xs H Q => ∃ t y, x = .str t ∧ xs = [.str y] ∧ Q (.bl (Txt.startswith t y)) H
private theorem mt_starts : MtR X "str.startswith" rStarts := by
  intro pins s σ H x xs v us Q I rx rs h
  obtain ⟨t, y, rfl, rfl, q⟩ := h
  obtain ⟨k, rfl⟩ := rx
  obtain ⟨u, rfl, t2, rfl⟩ := vals1 rs
  exact SC.startswith ⟨.bl _, H, I, rfl, q⟩
noncomputable def RStarts : Str → List D → (D → Prop) → Prop := fun x xs P => match xs with
  | [.str y] => P (.bl (Txt.startswith x y))
  | _ => False
private theorem w_starts : MtW X rStarts RStarts := by
  intro x xs vs F H Q P sm rs h k
  unfold RStarts at h
  split at h
  · obtain ⟨v, rfl, r⟩ := rps1 rs
    rw [Rp] at r
    exact ⟨x, _, rfl, by rw [r], k _ _ F H .rf (by rw [Rp]) h⟩
  · exact h.elim
noncomputable def rJoin (K : PySem.W.Frag) : V → List V → Hp → VK → Prop := fun x xs H Q => ∃ (t : Str) (l : Addr) (ts : List Str), x = .str t ∧ xs = [.ref l] ∧ SqL K H l (ts.map V.str) ∧ (ts.map (·.length)).sum + ts.length * t.length ≤ 16777216 ∧ Q (.str (Txt.join t ts)) H
private theorem strs_are : ∀ {ts : List Str} {us : List Value}, Vals (ts.map V.str) us → PyProof.Rows.StrsAre us ts
  | [], _, .nil => .nil
  | t :: ts, _, .cons r rs => by
    obtain ⟨k, rfl⟩ := r
    exact .cons t k (strs_are rs)
private theorem mt_join : MtR X "str.join" (rJoin X.K) := by
  intro pins s σ H x xs v us Q I rx rs h
  obtain ⟨t, l, ts, rfl, rfl, hq, hz, q⟩ := h
  obtain ⟨k, rfl⟩ := rx
  obtain ⟨u, rfl, ru⟩ := vals1 rs
  cases ru
  obtain ⟨its, rv, pl, _⟩ := I.list hq
  exact PyProof.Rows.join_list pl.isList (by rw [List.toList_toArray]; exact strs_are rv) hz fun t' k => ⟨.str _, H, I.tok _, ⟨_, rfl⟩, q⟩
noncomputable def RJoin : Str → List D → (D → Prop) → Prop := fun t xs P => ∃ ts : List Str, xs = [.lst (ts.map D.str)] ∧ (ts.map (·.length)).sum + ts.length * t.length ≤ 16777216 ∧ P (.str (Txt.join t ts))
private theorem rps_strs {K : PySem.W.Frag} {F : Hp} : ∀ {ts : List Str} {vs : List V}, Rps K F (ts.map D.str) vs → vs = ts.map V.str
  | [], vs, h => by rw [List.map_nil, Rps] at h; exact h
  | t :: ts, vs, h => by
    rw [List.map_cons, Rps] at h
    obtain ⟨v, r, rfl, h1, h2⟩ := h
    rw [Rp] at h1
    rw [h1, rps_strs h2]; rfl
private theorem strs_rps {K : PySem.W.Frag} {F : Hp} : ∀ (ts : List Str), Rps K F (ts.map D.str) (ts.map V.str)
  | [] => .nil
  | t :: ts => .cons (by rw [Rp]) (strs_rps ts)
private theorem w_join : MtW X (rJoin X.K) RJoin := by
  intro x xs vs F H Q P sm rs h k
  obtain ⟨ts, rfl, hz, hp⟩ := h
  obtain ⟨v, rfl, r⟩ := rps1 rs
  rw [Rp] at r
  obtain ⟨q, ws, rfl, g1, g2⟩ := r
  have := rps_strs g2
  subst this
  exact ⟨x, q, ts, rfl, rfl, .inl (rd_same sm g1), hz, k _ _ F H .rf (by rw [Rp]) hp⟩
noncomputable def rSplit : V → List V → Hp → VK → Prop := fun x xs H Q => ∃ (t y : Str), x = .str t ∧ xs = [.str y] ∧ (y.length == 0) = false ∧ t.length ≤ sizeLine ∧ (Txt.split t y).length ≤ sizeLine ∧ ∀ p, H p = none → Q (.ref p) (upd H p (.lst ((Txt.split t y).map V.str)))
private theorem vals_strs (tk : Nat) (ts : List Str) : Vals (ts.map V.str) (strsFrom tk ts) := by
  rw [strsFrom_eq]
  have e := numbered_texts tk ts
  generalize numbered tk ts = l at e
  subst e
  induction l with
  | nil => exact .nil
  | cons p l ih => exact .cons ⟨p.2, rfl⟩ ih
private theorem mt_split : MtR X "str.split" rSplit := by
  intro pins s σ H x xs v us Q I rx rs h
  obtain ⟨t, y, rfl, rfl, hy, hz, hl, q⟩ := h
  obtain ⟨k, rfl⟩ := rx
  obtain ⟨u, rfl, t2, rfl⟩ := vals1 rs
  have hf := I.hok.fresh (Nat.le_refl s.heap.objs.size)
  have one : Txt.split t y = [t] → ∃ v H', Inv X pins σ H' { s with heap := s.heap.push { cls := .type "list", data := .seq #[.str t k] } } ∧ RelV v (.ref s.heap.objs.size) ∧ Q v H' := fun e => by
    rw [e] at q
    exact ⟨.ref s.heap.objs.size, _, I.laid (t' := s.toks) (o := .lst ([t].map V.str)) (fun b ob q => Heap.get?_push_of_some _ q) (Nat.le_refl _) ⟨by show 1 ≤ sizeLine; decide, [.str t k], 0, .cons ⟨_, rfl⟩ .nil, Heap.get?_push_size _ rfl⟩, rfl, q _ hf⟩
  cases hc : (decide (t.length < y.length) || decide (Builtin.Str.strKind t < Builtin.Str.strKind y)) with
  | true => exact call_meets F.slot_str_split (typeIs_str ..) F.entry_str_split (F.args_str_split_2 _ _) (meets_str_split_cannot_occur t y k t2 hc) (one (by unfold Txt.split; rw [if_pos hc]))
  | false =>
    cases ho : (Builtin.Str.occurrences t y 0 t.length (t.length + 1)).isEmpty with
    | true => exact call_meets F.slot_str_split (typeIs_str ..) F.entry_str_split (F.args_str_split_2 _ _) (meets_str_split_not_found t y k t2 hc hy ho) (one (by unfold Txt.split; rw [if_neg (by rw [hc]; decide), if_pos ho]))
    | false =>
      have e : Txt.split t y = Builtin.Str.partsBetween t (Builtin.Str.occurrences t y 0 t.length (t.length + 1)) y.length := by unfold Txt.split; rw [if_neg (by rw [hc]; decide), if_neg (by rw [ho]; decide)]
      rw [e] at hl q
      refine call_meets F.slot_str_split (typeIs_str ..) F.entry_str_split (F.args_str_split_2 _ _) (meets_str_split_sep t y k t2 hc hy ho hz hl) ?_
      exact ⟨.ref s.heap.objs.size, _, I.laid (o := .lst ((Builtin.Str.partsBetween t (Builtin.Str.occurrences t y 0 t.length (t.length + 1)) y.length).map V.str)) (fun b ob q => Heap.get?_push_of_some _ q) (Nat.le_refl _) ⟨by rw [List.length_map]; exact hl, _, 0, vals_strs _ _, Heap.get?_push_size _ rfl⟩, rfl, q _ hf⟩
noncomputable def RSplit : Str → List D → (D → Prop) → Prop := fun t xs P => ∃ y : Str, xs = [.str y] ∧ (y.length == 0) = false ∧ t.length ≤ sizeLine ∧ (Txt.split t y).length ≤ sizeLine ∧ P (.lst ((Txt.split t y).map D.str))
private theorem w_split : MtW X rSplit RSplit := by
  intro x xs vs F H Q P sm rs h k
  obtain ⟨y, rfl, h1, h2, h3, hp⟩ := h
  obtain ⟨v, rfl, r⟩ := rps1 rs
  rw [Rp] at r
  refine ⟨x, y, rfl, by rw [r], h1, h2, h3, fun q hq => ?_⟩
  exact k _ _ _ _ (.nw hq) (by rw [Rp]; exact ⟨q, _, rfl, .inl upd_same, strs_rps _⟩) hp
noncomputable def rSlS : V → Option Int → Option Int → Hp → VK → Prop := fun x lo hi H Q => ∃ t, x = .str t ∧ t.length ≤ sizeLine ∧ Q (.str (Txt.slice t lo hi)) H
private theorem sl_str : SlR X rSlS := by
  intro pins s σ H x v vl vu lo hi sl Q I rx hs pl pu h
  obtain ⟨t, rfl, hz, q⟩ := h
  obtain ⟨k, rfl⟩ := rx
  refine ⟨"str", _, F.slot_str_getitem.lookup, typeIs_str .., ?_⟩
  have fin : ∀ (l u : Option (Int × Tok)), s.heap.IsSlice sl l u none → l.map (·.1) = lo → u.map (·.1) = hi → wpAny (model X.prog X.w) X.A (getItem (.str t k) (.ref sl)) (EP X pins σ Q) X.xe s := fun l u h1 h2 h3 => by
    subst h2 h3
    refine wpAny_getItem_str_slice h1 rfl (post_val_or_str ⟨Nat.le_trans (Txt.slice_le t _ _) hz, fun t' k' => ⟨.str _, H, I.tok _, ⟨_, rfl⟩, q⟩⟩)
  cases pl with
  | none =>
    cases pu with
    | none => exact fin none none hs rfl rfl
    | int j tj => exact fin none (some (j, tj)) hs rfl rfl
  | int i ti =>
    cases pu with
    | none => exact fin (some (i, ti)) none hs rfl rfl
    | int j tj => exact fin (some (i, ti)) (some (j, tj)) hs rfl rfl
noncomputable def wSlS (fa : WE) (fl fh : WO) : WE := fun ρ M P => fa ρ M fun x ρ1 M1 => fl ρ1 M1 fun lo ρ2 M2 => fh ρ2 M2 fun hi ρ3 M3 => match x with
  | .str t => t.length ≤ sizeLine ∧ P (.str (Txt.slice t lo hi)) ρ3 M3
  | _ => False
private theorem j_slS {lo hi : Option Expr} {fl fh : WO} (ha : JE X a fa) (hl : JO X lo fl) (hh : JO X hi fh) : JE X (.Subscript a (.Slice lo hi none p2) pos) (wSlS fa fl fh) := ⟨imE (pe_slice sl_str ha.h hl.h hh.h) fun σ H Q hh => ex5 hh fun Z F ρ M P ag hf k => ⟨Z, F, ρ, M, _, ag, hf, fun v H1 F1 d ρ1 M1 s1 ag1 r1 h1 => ⟨Z, F1, ρ1, M1, _, ag1, h1, fun lo H2 F2 ρ2 M2 s2 ag2 h2 => ⟨Z, F2, ρ2, M2, _, ag2, h2, fun hi H3 F3 ρ3 M3 s3 ag3 h3 => by
  split at h3
  · rename_i t
    rw [Rp] at r1
    exact ⟨t, r1, h3.1, k _ _ F3 _ ρ3 M3 (s1.trans (s2.trans s3)) ag3 (by rw [Rp]) h3.2⟩
  · exact h3.elim⟩⟩⟩⟩
noncomputable def rRepS : R2 := fun x y H Q => ∃ (t : Str) (n : Int), x = .str t ∧ y = .int n ∧ (n = 0 ∨ n = 1) ∧ Q (.str (if n = 1 then t else Str.empty)) H
private theorem op_repS : OpR X (binaryOp .Mult) rRepS := by
  intro pins s σ H x y v u Q I rx ry h
  obtain ⟨t, n, rfl, rfl, hn, q⟩ := h
  obtain ⟨k, rfl⟩ := rx
  obtain ⟨k2, rfl⟩ := ry
  rcases hn with rfl | rfl
  · refine PySem.P.mul_str (by decide) (fun h => absurd (by decide) h) (fun h => absurd (by decide) h) ?_
    rw [if_pos (by decide)]
    exact ⟨by decide, .str _, H, I.tok _, ⟨_, rfl⟩, q⟩
  · refine PySem.P.mul_str (by decide) (fun _ h => by simp at h) (fun _ h => by simp at h) ?_
    rw [if_neg (by decide), if_pos (by simp)]
    exact ⟨.str t, H, I, ⟨_, rfl⟩, q⟩
noncomputable def RRepS : D → D → (D → Prop) → Prop := fun x y P => match x, y with
  | .str t, .int n => (n = 0 ∨ n = 1) ∧ P (.str (if n = 1 then t else Str.empty))
  | _, _ => False
private theorem w_repS : OpW X rRepS RRepS := by
  intro x y v u F H Q P sm rx ry h k
  unfold RRepS at h
  split at h
  · rename_i t n
    rw [Rp] at rx
    rw [Rp] at ry
    exact ⟨t, n, rx, ry, h.1, k _ _ F H .rf (by rw [Rp]) h.2⟩
  · exact h.elim
private theorem j_repS (ha : JE X a fa) (hb : JE X b fb) : JE X (.BinOp a .Mult b pos) (wOp RRepS fa fb) := j_op op_repS w_repS ha hb
noncomputable def RCatS : D → D → (D → Prop) → Prop := fun x y P => match x, y with
  | .str t, .str n => t.length + n.length ≤ sizeLine ∧ P (.str (t ++ n))
  | _, _ => False
private theorem w_catS : OpW X (fun x y H Q => ∃ i j, x = .str i ∧ y = .str j ∧ i.length + j.length ≤ sizeLine ∧ Q (.str (i ++ j)) H) RCatS := by
  intro x y v u F H Q P sm rx ry h k
  unfold RCatS at h
  split at h
  · rename_i t n
    rw [Rp] at rx ry
    exact ⟨t, n, rx, ry, h.1, k _ _ F H .rf (by rw [Rp]) h.2⟩
  · exact h.elim
private theorem j_catS (ha : JE X a fa) (hb : JE X b fb) : JE X (.BinOp a .Add b pos) (wOp RCatS fa fb) := j_op op_add_str w_catS ha hb
noncomputable def RInS : D → D → (D → Prop) → Prop := fun x y P => match x, y with
  | .str i, .str j => P (.bl (!(Builtin.Str.occurrences j i 0 j.length 1).isEmpty))
  | _, _ => False
private theorem w_inS : OpW X (fun x y H Q => ∃ i j, x = .str i ∧ y = .str j ∧ Q (.bl (!(Builtin.Str.occurrences j i 0 j.length 1).isEmpty)) H) RInS := by
  intro x y v u F H Q P sm rx ry h k
  unfold RInS at h
  split at h
  · rename_i i j
    rw [Rp] at rx ry
    exact ⟨i, j, rx, ry, k _ _ F H .rf (by rw [Rp]) h⟩
  · exact h.elim
private theorem j_inS (ha : JE X a fa) (hb : JE X b fb) (hm : behindInMarks .In b = false := by with_unfolding_all rfl) : JE X (.Compare a [.In] [b] pos) (wOp RInS fa fb) := j_cmp op_in_str w_inS ha hb hm
noncomputable def RLenS : List D → (D → Prop) → Prop := fun xs P => match xs with
  | [.str z] => z.length ≤ sizeLine ∧ P (.int z.length)
  | _ => False
private theorem w_lenS : CaW X (fun xs H Q => ∃ z, xs = [.str z] ∧ z.length ≤ sizeLine ∧ Q (.int z.length) H) RLenS := by
  intro xs vs F H Q P sm rs h k
  unfold RLenS at h
  split at h
  · obtain ⟨v, rfl, r⟩ := rps1 rs
    rw [Rp] at r
    exact ⟨_, by rw [r], h.1, k _ _ F H .rf (by rw [Rp]) h.2⟩
  · exact h.elim
private theorem j_lenT (hg : Gl X "len") (hm : X.mg "len" = none) (ha : JA X [a] fl) (he : starEach [a] X.env = [(false, eval a X.env)] := by rfl) : JE X (.Call (.Name "len" p) [a] [] pos) (wCall RLenS fl) := j_callB call_len_str w_lenS hg hm boot_len ha (by decide) (by decide) he
noncomputable def RStrI : List D → (D → Prop) → Prop := fun xs P => match xs with
  | [.int i] => i.natAbs.log2 < 1920 ∧ P (.str (Str.ofString (toString i)))
  | _ => False
private theorem w_strI : CaW X (fun xs H Q => ∃ i : Int, xs = [.int i] ∧ i.natAbs.log2 < 1920 ∧ Q (.str (Str.ofString (toString i))) H) RStrI := by
  intro xs vs F H Q P sm rs h k
  unfold RStrI at h
  split at h
  · obtain ⟨v, rfl, r⟩ := rps1 rs
    rw [Rp] at r
    exact ⟨_, by rw [r], h.1, k _ _ F H .rf (by rw [Rp]) h.2⟩
  · exact h.elim
private theorem j_strI (hg : Gl X "str") (hm : X.mg "str" = none) (ha : JA X [a] fl) (he : starEach [a] X.env = [(false, eval a X.env)] := by rfl) : JE X (.Call (.Name "str" p) [a] [] pos) (wCall RStrI fl) := j_callTy call_str_int w_strI hg hm (by kernel_rfl) ha (by decide) (by decide) he
private theorem call_int_str : CallR X (.type "int") (fun xs H Q => ∃ (z : Str) (n : Int), xs = [.str z] ∧ z.length ≤ 640 ∧ intText? z = some n ∧ Q (.int n) H) := by
  intro pins s σ H xs us Q I r h
  obtain ⟨z, n, rfl, hz, hn, q⟩ := h
  obtain ⟨u, rfl, t, rfl⟩ := vals1 r
  exact PySem.W.KIN.call_text hn hz ⟨.int n, H, I.tok _, ⟨_, rfl⟩, q⟩
noncomputable def RIntS : List D → (D → Prop) → Prop := fun xs P => match xs with
  | [.str z] => z.length ≤ 640 ∧ ∃ n, intText? z = some n ∧ P (.int n)
  | _ => False
private theorem w_intS : CaW X (fun xs H Q => ∃ (z : Str) (n : Int), xs = [.str z] ∧ z.length ≤ 640 ∧ intText? z = some n ∧ Q (.int n) H) RIntS := by
  intro xs vs F H Q P sm rs h k
  unfold RIntS at h
  split at h
  · obtain ⟨v, rfl, r⟩ := rps1 rs
    rw [Rp] at r
    obtain ⟨h1, n, h2, h3⟩ := h
    exact ⟨_, n, by rw [r], h1, h2, k _ _ F H .rf (by rw [Rp]) h3⟩
  · exact h.elim
private theorem j_intS (hg : Gl X "int") (hm : X.mg "int" = none) (ha : JA X [a] fl) (he : starEach [a] X.env = [(false, eval a X.env)] := by rfl) : JE X (.Call (.Name "int" p) [a] [] pos) (wCall RIntS fl) := j_callTy call_int_str w_intS hg hm boot_int ha (by decide) (by decide) he
noncomputable def Its (t : Str) : It := ⟨fun i _ => i < t.cps.size, fun i H x H' => H' = H ∧ ∃ c, t.cps[i]? = some c ∧ x = .str ⟨#[c]⟩, fun i _ => t.cps.size ≤ i⟩
private theorem turn_str {P : Program} {w : World} {K : PySem.W.Frag} {tg : Expr} (t : Str) (tk : Tok) (it : Addr) : Turn P w K tg (Its t) [it] it (fun i h => h.IsStrIter it "str_ascii_iterator" t tk i) where
  mem := by simp
  obj := fun i h st b hb => by
    have e : b = it := by simpa using hb
    subst e
    obtain ⟨o, e, c, d⟩ := st
    exact ⟨o, e, fun v z => by rw [d] at z; cases z⟩
  keep := fun i h h' st k => by
    obtain ⟨o, e, c⟩ := st
    exact ⟨o, k it (by simp) o e, c⟩
  item := by
    intro X hP hw hK hc i pins s σ H E I hf st hg
    subst hP hw hK
    have hg : i < t.cps.size := hg
    obtain ⟨f0, f1, f2, f3, f4, f5⟩ := hf it (by simp)
    refine wpAny_pyNext_ascii_item st (Array.getElem?_eq_getElem hg) fun h' st' sb => ?_
    have I1 : Inv X pins σ H { s with heap := h', toks := s.toks + 1 } := I.turned (t' := s.toks + 1) (fun b o hb e => (sb.2 b hb).trans e) f0 f1 f3 f4 f5
    obtain ⟨o, e, c, d⟩ := id st'
    exact ⟨_, rfl, go_of (s := { s with heap := h', toks := s.toks + 1 }) e c d (by decide) ⟨.str _, H, I1, ⟨_, rfl⟩, ⟨rfl, _, Array.getElem?_eq_getElem hg, rfl⟩, st', fun b hb => (hf b hb).1⟩⟩
  done := by
    intro X hP hw hK hc i pins s σ H E I hf st hg
    subst hP hw hK
    have hg : t.cps.size ≤ i := hg
    obtain ⟨f0, f1, f2, f3, f4, f5⟩ := hf it (by simp)
    exact wpAny_pyNext_ascii_end (I.ok.hd hc) st (Array.getElem?_eq_none hg) fun h' eb => ⟨rfl, I.turned (t' := s.toks) (fun b o hb e => eb b o hb e) f0 f1 f3 f4 f5⟩
  self := fun _ _ _ _ _ st h => wpAny_pyIter_striter_ascii st h
noncomputable def iStr (tl : TE) : TI := fun σ H R => tl σ H fun v H' => ∃ t : Str, v = .str t ∧ (t.cps.all fun x => decide (x < 128)) = true ∧ R (Its t) H'
private theorem pi_str {l : Expr} {tl : TE} (hl : PE X l tl) : PI X tg l (iStr tl) := by
  intro pins s σ H R I h
  refine thn (hl pins s σ H _ I h) fun v s1 zz => e23 zz fun x H1 I1 r1 q1 => ?_
  obtain ⟨t, rfl, ha, q⟩ := q1
  obtain ⟨tk, rfl⟩ := r1
  refine wpAny_pyIter_ascii ha ?_
  refine ⟨s1.heap.objs.size, [s1.heap.objs.size], _, _, H1, rfl, I1.kept (t' := s1.toks) fun b o e => Heap.get?_push_of_some _ e, turn_str t tk _, ⟨_, Heap.get?_push_size _ rfl, rfl, rfl⟩, fun b hb => ?_, q⟩
  have e : b = s1.heap.objs.size := by simpa using hb
  subst e
  exact I1.fpOk (Nat.le_refl _) (I1.hok.fresh (Nat.le_refl _))
noncomputable def sgD (t : Str) : List D := t.cps.toList.map fun c => .str ⟨#[c]⟩
noncomputable def wIS (f : WE) : WI := fun ρ M P => f ρ M fun d ρ1 M1 => match d with
  | .str t => (t.cps.all fun x => decide (x < 128)) = true ∧ P (sgD t) ρ1 M1
  | _ => False
private theorem ji_str (ha : JE X a fa) : JI X tg a (wIS fa) := ⟨imI (pi_str ha.h) fun σ H R hh => ex5 hh fun Z F ρ M P ag hf k => ⟨Z, F, ρ, M, _, ag, hf, fun v H1 F1 d ρ1 M1 s1 ag1 r1 h1 => by
  split at h1
  · rename_i t
    rw [Rp] at r1
    have hl : (sgD t).length = t.cps.size := by unfold sgD; simp
    refine ⟨t, r1, h1.1, k _ H1 F1 (sgD t) ρ1 M1 s1 ag1 ⟨fun i F' H hi s s' => ?_, fun F' H s s' => ?_, fun i d F' H x H' hd s s' y => ?_⟩ h1.2⟩
    · rw [hl] at hi; exact hi
    · rw [hl]; exact Nat.le_refl t.cps.size
    · obtain ⟨rfl, c, hc, rfl⟩ := y
      have : d = .str ⟨#[c]⟩ := by
        unfold sgD at hd
        rw [List.getElem?_map, Array.getElem?_toList, hc] at hd
        exact (Option.some.inj hd).symm
      subst this
      exact ⟨F', .rf, by rw [Rp]⟩
  · exact h1.elim⟩⟩
end

/-! ### a list or a tuple, walked -/
section
variable {X : Cx} {a tg : Expr} {fa : WE}
noncomputable def iSeq (K : PySem.W.Frag) (tl : TE) : TI := fun σ H R => tl σ H fun x H1 => ∃ a, x = .ref a ∧ (((∃ xs, SqL K H1 a xs) ∧ R (Itl K a) H1) ∨ ((∃ xs, SqT K H1 a xs) ∧ R (Itt K a) H1))
private theorem pi_seq {l : Expr} {tl : TE} (hl : PE X l tl) : PI X tg l (iSeq X.K tl) := by
  intro pins s σ H R I h
  refine thn (hl pins s σ H _ I h) fun v s1 zz => e23 zz fun x H1 I1 r1 q1 => ?_
  obtain ⟨a, e, q1⟩ := q1
  subst e
  cases r1
  rcases q1 with ⟨⟨xs, hq⟩, q⟩ | ⟨⟨xs, hq⟩, q⟩
  · obtain ⟨its, rv, p, hz⟩ := I1.list hq
    refine wpAny_pyIter_list p.isList ?_
    refine ⟨s1.heap.objs.size, [s1.heap.objs.size], _, _, H1, rfl, I1.kept (t' := s1.toks) fun b o e => Heap.get?_push_of_some _ e, turn_list a _, ⟨_, Heap.get?_push_size _ rfl, rfl, rfl⟩, fun b hb => ?_, q⟩
    have e : b = s1.heap.objs.size := by simpa using hb
    subst e
    exact I1.fpOk (Nat.le_refl _) (I1.hok.fresh (Nat.le_refl _))
  · obtain ⟨its, rv, p, hz⟩ := I1.tuple hq
    refine wpAny_pyIter_tuple (show s1.heap.IsTuple a its.toArray from p) ?_
    refine ⟨s1.heap.objs.size, [s1.heap.objs.size], _, _, H1, rfl, I1.kept (t' := s1.toks) fun b o e => Heap.get?_push_of_some _ e, turn_tuple a _, ⟨_, Heap.get?_push_size _ rfl, rfl, rfl⟩, fun b hb => ?_, q⟩
    have e : b = s1.heap.objs.size := by simpa using hb
    subst e
    exact I1.fpOk (Nat.le_refl _) (I1.hok.fresh (Nat.le_refl _))
noncomputable def wISeq (f : WE) : WI := fun ρ M P => f ρ M fun d ρ1 M1 => match d with
  | .lst ds => P ds ρ1 M1
  | .tup ds => P ds ρ1 M1
  | _ => False
private theorem ji_seq (ha : JE X a fa) : JI X tg a (wISeq fa) := ⟨imI (pi_seq ha.h) fun σ H R hh => ex5 hh fun Z F ρ M P ag hf k => ⟨Z, F, ρ, M, _, ag, hf, fun v H1 F1 d ρ1 M1 s1 ag1 r1 h1 => by
  split at h1
  · rename_i ds
    rw [Rp] at r1
    obtain ⟨q, vs, rfl, g1, g2⟩ := r1
    refine ⟨q, rfl, .inl ⟨⟨vs, .inl (rd_same ag1.m.sm g1)⟩, k _ H1 F1 ds ρ1 M1 s1 ag1 ⟨fun i F' H hi s s' => ?_, fun F' H s s' => ?_, fun i d F' H x H' hd s s' y => ?_⟩ h1⟩⟩
    · exact ⟨vs, _, .inl (rd_same s' (rd_same s g1)), List.getElem?_eq_getElem (by rw [← g2.length]; exact hi)⟩
    · exact ⟨vs, .inl (rd_same s' (rd_same s g1)), by rw [g2.length]; exact Nat.le_refl _⟩
    · obtain ⟨rfl, y⟩ := y
      obtain ⟨w, h2, h3⟩ := g2.get hd
      have := y vs (.inl (rd_same s' (rd_same s g1)))
      rw [h2] at this
      cases this
      exact ⟨F', .rf, h3.same s⟩
  · rename_i ds
    rw [Rp] at r1
    obtain ⟨q, vs, rfl, g1, g2⟩ := r1
    refine ⟨q, rfl, .inr ⟨⟨vs, sqT_same ag1.m.sm g1⟩, k _ H1 F1 ds ρ1 M1 s1 ag1 ⟨fun i F' H hi s s' => ?_, fun F' H s s' => ?_, fun i d F' H x H' hd s s' y => ?_⟩ h1⟩⟩
    · exact ⟨vs, _, sqT_same s' (sqT_same s g1), List.getElem?_eq_getElem (by rw [← g2.length]; exact hi)⟩
    · exact ⟨vs, sqT_same s' (sqT_same s g1), by rw [g2.length]; exact Nat.le_refl _⟩
    · obtain ⟨rfl, y⟩ := y
      obtain ⟨w, h2, h3⟩ := g2.get hd
      have := y vs (sqT_same s' (sqT_same s g1))
      rw [h2] at this
      cases this
      exact ⟨F', .rf, h3.same s⟩
  · exact h1.elim⟩⟩
end

/-! ### figures of numbers -/
noncomputable def dgL (n : Nat) : List Nat := (Nat.toDigits 10 n).map Char.toNat
private theorem dg_lt {n : Nat} (h : n < 10) : dgL n = [48 + n] := by
  unfold dgL
  rw [Nat.toDigits_of_lt_base h, List.map_cons, List.map_nil, Nat.toNat_digitChar_of_lt_ten h]
private theorem dg_step {n : Nat} (h : 10 ≤ n) : dgL n = dgL (n / 10) ++ [48 + n % 10] := by
  unfold dgL
  have hm : n % 10 < 10 := Nat.mod_lt _ (by decide)
  have := Nat.toDigits_append_toDigits (b := 10) (n := n / 10) (d := n % 10) (by decide) (by omega) hm
  rw [show 10 * (n / 10) + n % 10 = n by omega] at this
  rw [← this, List.map_append, Nat.toDigits_of_lt_base hm, List.map_cons, List.map_nil, Nat.toNat_digitChar_of_lt_ten hm]
private theorem dg_mem : ∀ {n c : Nat}, c ∈ dgL n → 48 ≤ c ∧ c ≤ 57 := by
  intro n
  induction n using Nat.strongRecOn with
  | ind n ih =>
    intro c hc
    by_cases h : n < 10
    · rw [dg_lt h, List.mem_singleton] at hc; omega
    · rw [dg_step (by omega)] at hc
      rcases List.mem_append.mp hc with hc | hc
      · exact ih (n / 10) (by omega) hc
      · rw [List.mem_singleton] at hc; omega
noncomputable def valL (l : List Nat) : Nat := l.foldl (fun a c => a * 10 + (c - 48)) 0
private theorem val_dg : ∀ n : Nat, valL (dgL n) = n := by
  intro n
  induction n using Nat.strongRecOn with
  | ind n ih =>
    by_cases h : n < 10
    · rw [dg_lt h]; show 0 * 10 + (48 + n - 48) = n; omega
    · rw [dg_step (by omega)]
      unfold valL at *
      rw [List.foldl_append, ih (n / 10) (by omega)]
      show n / 10 * 10 + (48 + n % 10 - 48) = n
      omega
private theorem dg_inj {a b : Nat} (h : dgL a = dgL b) : a = b := by rw [← val_dg a, ← val_dg b, h]
private theorem dg_ne (n : Nat) : dgL n ≠ [] := by
  by_cases h : n < 10
  · rw [dg_lt h]; simp
  · rw [dg_step (by omega)]; simp
noncomputable def zpad : Nat → Nat → List Nat
  | 0, _ => []
  | k + 1, m => zpad k (m / 10) ++ [48 + m % 10]
private theorem zpad_len (k : Nat) : ∀ m, (zpad k m).length = k := by
  induction k with
  | zero => intro m; rfl
  | succ k ih => intro m; rw [zpad, List.length_append, ih]; rfl
private theorem dg_pad {r : Nat} (hr : 0 < r) (k : Nat) : ∀ m, m < 10 ^ k → dgL (r * 10 ^ k + m) = dgL r ++ zpad k m := by
  induction k with
  | zero => intro m h; rw [Nat.pow_zero] at h; have : m = 0 := by omega
            subst this; rw [Nat.pow_zero, Nat.mul_one, Nat.add_zero, zpad, List.append_nil]
  | succ k ih =>
    intro m h
    have p : 0 < 10 ^ k := Nat.pow_pos (by decide)
    have e : 10 ^ (k + 1) = 10 * 10 ^ k := by rw [Nat.pow_succ, Nat.mul_comm]
    have hd : (r * 10 ^ (k + 1) + m) / 10 = r * 10 ^ k + m / 10 := by rw [e, show r * (10 * 10 ^ k) = 10 * (r * 10 ^ k) by rw [Nat.mul_left_comm]]; omega
    have hm : (r * 10 ^ (k + 1) + m) % 10 = m % 10 := by rw [e, show r * (10 * 10 ^ k) = 10 * (r * 10 ^ k) by rw [Nat.mul_left_comm]]; omega
    have ge : 10 ≤ r * 10 ^ (k + 1) + m := by
      have : 1 * (10 * 10 ^ k) ≤ r * (10 * 10 ^ k) := Nat.mul_le_mul_right _ hr
      rw [e]; omega
    rw [dg_step ge, hd, hm, ih (m / 10) (by omega), zpad, List.append_assoc]
private theorem pad_dg (k : Nat) : ∀ m, m < 10 ^ (k + 1) → (dgL m).length ≤ k + 1 ∧ zpad (k + 1) m = List.replicate (k + 1 - (dgL m).length) 48 ++ dgL m := by
  induction k with
  | zero =>
    intro m h
    have h : m < 10 := h
    rw [dg_lt h]
    refine ⟨Nat.le_refl _, ?_⟩
    show [] ++ [48 + m % 10] = [] ++ [48 + m]
    rw [Nat.mod_eq_of_lt h]
  | succ k ih =>
    intro m h
    have e : 10 ^ (k + 2) = 10 * 10 ^ (k + 1) := by rw [Nat.pow_succ, Nat.mul_comm]
    obtain ⟨i1, i2⟩ := ih (m / 10) (by rw [e] at h; omega)
    by_cases c : m < 10
    · rw [zpad, i2]
      have z : m / 10 = 0 := by omega
      rw [z, dg_lt (by decide : 0 < 10), dg_lt c, Nat.mod_eq_of_lt c]
      refine ⟨by show 1 ≤ k + 1 + 1; omega, ?_⟩
      show List.replicate (k + 1 - 1) 48 ++ [48] ++ [48 + m] = List.replicate (k + 1 + 1 - 1) 48 ++ [48 + m]
      rw [show k + 1 + 1 - 1 = (k + 1 - 1) + 1 by omega, List.replicate_succ']
    · rw [dg_step (by omega), zpad, i2, List.length_append]
      refine ⟨by show _ + 1 ≤ _; omega, ?_⟩
      rw [← List.append_assoc]
      congr 2
      congr 1
      show _ = k + 1 + 1 - (_ + 1)
      omega
noncomputable def st (l : List Nat) : Str := ⟨l.toArray⟩
private theorem st_inj {a b : List Nat} (h : st a = st b) : a = b := by
  have := congrArg (fun s : Str => s.cps.toList) h
  exact this
private theorem st_len (l : List Nat) : (st l).length = l.length := by show l.toArray.size = _; simp
private theorem st_app (a b : List Nat) : st a ++ st b = st (a ++ b) := by
  show (⟨a.toArray ++ b.toArray⟩ : Str) = ⟨(a ++ b).toArray⟩
  simp
private theorem str_int {n : Int} (h : 0 ≤ n) : Str.ofString (toString n) = st (dgL n.toNat) := by
  obtain ⟨m, rfl⟩ := Int.eq_ofNat_of_zero_le h
  have e : toString (m : Int) = String.ofList (Nat.toDigits 10 m) := Nat.toString_eq_ofList_toDigits
  show Str.ofString (toString (m : Int)) = _
  rw [e, PySem.W.Fast.ofString_ofList]
  rfl
private theorem dg_len (k : Nat) {m : Nat} (h : m < 10 ^ (k + 1)) : (dgL m).length ≤ k + 1 := (pad_dg k m h).1
private theorem pad_st (n : Nat) (l : List Nat) : Builtin.Str.padded (st l) n 0 48 = st (List.replicate n 48 ++ l) := by
  show (⟨Array.replicate n 48 ++ l.toArray ++ Array.replicate 0 48⟩ : Str) = ⟨(List.replicate n 48 ++ l).toArray⟩
  congr 1
  apply Array.toList_inj.mp
  simp
private theorem zfilled_st {l : List Nat} (n : Nat) (h : ∀ c ∈ l, 48 ≤ c) : zfilled (st l) n = st (List.replicate n 48 ++ l) := by
  have e0 : (st l).cps[0]? = l[0]? := by show l.toArray[0]? = _; simp
  unfold zfilled
  rw [e0]
  cases e : l[0]? with
  | none => exact pad_st n l
  | some c0 =>
    have := h c0 (List.mem_of_getElem? e)
    split
    · rename_i e; cases e; omega
    · rename_i e; cases e; omega
    · exact pad_st n l
private theorem zfill_st {k m : Nat} (h : m < 10 ^ (k + 1)) : Txt.zfill (st (dgL m)) ((k + 1 : Nat) : Int) = st (zpad (k + 1) m) := by
  obtain ⟨h1, h2⟩ := pad_dg k m h
  unfold Txt.zfill
  rw [st_len]
  by_cases c : ((k + 1 : Nat) : Int) ≤ ((dgL m).length : Int)
  · rw [if_pos c, h2, show k + 1 - (dgL m).length = 0 by omega, List.replicate_zero, List.nil_append]
  · rw [if_neg c, zfilled_st _ fun c hc => (dg_mem hc).1, h2, Int.toNat_natCast]
private theorem zfill_dg {m : Nat} (h : m < 10 ^ 60) : Txt.zfill (st (dgL m)) 60 = st (zpad 60 m) := zfill_st (k := 59) h
private theorem glued_st : ∀ (ls : List (List Nat)), Builtin.Str.glued Str.empty (ls.map st) = st ls.flatten := by
  intro ls
  cases ls with
  | nil => rfl
  | cons l ls =>
    show (⟨List.foldl (fun acc p => acc ++ Str.empty.cps ++ p.cps) l.toArray (ls.map st)⟩ : Str) = ⟨(l ++ ls.flatten).toArray⟩
    have go : ∀ (ls : List (List Nat)) (a : List Nat), List.foldl (fun (acc : Array Nat) (p : Str) => acc ++ Str.empty.cps ++ p.cps) a.toArray (ls.map st) = (a ++ ls.flatten).toArray := by
      intro ls
      induction ls with
      | nil => intro a; simp
      | cons l ls ih =>
        intro a
        rw [List.map_cons, List.foldl_cons]
        have e : a.toArray ++ Str.empty.cps ++ (st l).cps = (a ++ l).toArray := by
          show a.toArray ++ #[] ++ l.toArray = _
          simp
        rw [e, ih, List.flatten_cons, List.append_assoc]
    rw [go]
noncomputable def txL (q : Rat) : List Nat := (if q.num < 0 then [45] else []) ++ dgL q.num.natAbs ++ (if q.den = 1 then [] else 47 :: dgL q.den)
private theorem split_at {c : Nat} : ∀ {a a' b b' : List Nat}, c ∉ a → c ∉ a' → a ++ c :: b = a' ++ c :: b' → a = a' ∧ b = b' := by
  intro a
  induction a with
  | nil =>
    intro a' b b' _ h h2
    cases a' with
    | nil => cases h2; exact ⟨rfl, rfl⟩
    | cons x a' => cases h2; exact absurd (.head _) h
  | cons x a ih =>
    intro a' b b' h h1 h2
    cases a' with
    | nil => cases h2; exact absurd (.head _) h
    | cons y a' =>
      rw [List.cons_append, List.cons_append] at h2
      injection h2 with e1 e2
      obtain ⟨r1, r2⟩ := ih (fun m => h (.tail _ m)) (fun m => h1 (.tail _ m)) e2
      exact ⟨by rw [e1, r1], r2⟩
private theorem no_dg {c n : Nat} (h : c < 48) : c ∉ dgL n := fun m => by have := (dg_mem m).1; omega
private theorem tx_inj {q r : Rat} (h : txL q = txL r) : q = r := by
  have sg : ∀ q : Rat, (47 : Nat) ∉ (if q.num < 0 then [45] else []) ++ dgL q.num.natAbs := fun q m => by
    rcases List.mem_append.mp m with m | m
    · split at m
      · simp at m
      · cases m
    · exact no_dg (by decide) m
  have tops : ∀ {q r : Rat}, (if q.num < 0 then [45] else []) ++ dgL q.num.natAbs = (if r.num < 0 then [45] else []) ++ dgL r.num.natAbs → q.num = r.num := fun {q r} e => by
    have f45 : ∀ {n : Nat} {l : List Nat}, dgL n = 45 :: l → False := fun e => no_dg (show 45 < 48 by decide) (by rw [e]; exact .head _)
    split at e
    · split at e
      · have := dg_inj (by injection e : dgL q.num.natAbs = dgL r.num.natAbs); omega
      · exact (f45 e.symm).elim
    · split at e
      · exact (f45 e).elim
      · have := dg_inj (a := q.num.natAbs) (b := r.num.natAbs) e; omega
  unfold txL at h
  by_cases c1 : q.den = 1
  · by_cases c2 : r.den = 1
    · rw [if_pos c1, if_pos c2, List.append_nil, List.append_nil] at h
      exact Rat.ext (tops h) (by rw [c1, c2])
    · rw [if_pos c1, if_neg c2, List.append_nil] at h
      exact absurd (by rw [h]; exact List.mem_append_right _ (.head _)) (sg q)
  · by_cases c2 : r.den = 1
    · rw [if_neg c1, if_pos c2, List.append_nil] at h
      exact absurd (by rw [← h]; exact List.mem_append_right _ (.head _)) (sg r)
    · rw [if_neg c1, if_neg c2] at h
      obtain ⟨e1, e2⟩ := split_at (sg q) (sg r) h
      exact Rat.ext (tops e1) (dg_inj e2)

/-! ### ''.join(reversed(x)) -/
private theorem boot_reversed : bootBuiltins "reversed" = some (.type "reversed") := by kernel_rfl
private theorem rev_len : typeLookup (.type "list_reverseiterator") "__len__" = pure none := by rw [typeLookup_type, builtinLookup_eq_fast]; kernel_rfl
private theorem rev_hint : typeLookup (.type "list_reverseiterator") "__length_hint__" = pure (some (.builtin "list_reverseiterator.__length_hint__")) := by rw [typeLookup_type, builtinLookup_eq_fast]; kernel_rfl
private theorem rev_sub : isSubtype (.type "list_reverseiterator") (.type "list_reverseiterator") = pure true := by rw [isSubtype_type]; kernel_rfl
section
variable {prog : Program} {w : World} {A : Around} {E : Value → Shared → Prop} {s : Shared}
private theorem loop_rev {S it l : Addr} {us : List Value} {R : Result → Shared → Prop} {res : Value} (hh : A.in1.handled = none) (nSi : S ≠ it) (nSl : S ≠ l) (nil : it ≠ l) (hz : us.length ≤ 10000) :
    ∀ (k i : Nat) (s : Shared) (c : Nat), us.length - i = k → i ≤ us.length → s.heap.IsRevIter it l ((us.length : Int) - 1 - i) → s.heap.IsList l us.toArray → s.heap.get? S = some { cls := .type "list", dict := none, data := .seq (us.reverse.take i).toArray c, slots := #[] } →
    (∀ h' c', (∀ b o, b ≠ S → b ≠ it → s.heap.get? b = some o → h'.get? b = some o) → h'.get? S = some { cls := .type "list", dict := none, data := .seq us.reverse.toArray c', slots := #[] } → R (.ok (.ret res)) { s with heap := h' }) →
    codeAny (model prog w) A (.builtin "list.extend.loop" ⟨[.ref S, .ref it, res], []⟩) R s := by
  have lv : us.reverse.length = us.length := List.length_reverse
  intro k
  induction k with
  | zero =>
    intro i s c hk hi hit hm hS hR
    have hin : i = us.length := by omega
    refine codeAny_builtin F.entry_extend_loop ?_
    rw [Around.under_plainId F.plain_extend_loop _]
    show wpAny _ A.in1 (pyNext (.ref it) >>= _) _ _ s
    have e : (us.length : Int) - 1 - i = -1 := by omega
    rw [e] at hit
    refine wpAny_bind (wpAny_pyNext_rev_end hh hit fun h' kk => ?_)
    refine wpAny_pure (hR h' c (fun b o _ hb e => kk b o hb e) ?_)
    have := kk S _ nSi hS
    rw [hin, ← lv, List.take_length] at this
    exact this
  | succ k ih =>
    intro i s c hk hi hit hm hS hR
    have hlt : i < us.length := by omega
    have hj : us.length - 1 - i < us.length := by omega
    have e : (us.length : Int) - 1 - i = ((us.length - 1 - i : Nat) : Int) := by omega
    rw [e] at hit
    refine codeAny_builtin F.entry_extend_loop ?_
    rw [Around.under_plainId F.plain_extend_loop _]
    show wpAny _ A.in1 (pyNext (.ref it) >>= _) _ _ s
    have hx : us.toArray[us.length - 1 - i]? = some us[us.length - 1 - i] := by simp [hj]
    generalize hy : us[us.length - 1 - i] = y at hx
    refine wpAny_bind (wpAny_pyNext_rev_item hit hm hx fun h' hit' sb => ?_)
    have kk : ∀ b o, b ≠ it → s.heap.get? b = some o → h'.get? b = some o := fun b o hb e => (sb.2 b hb).trans e
    have hS2 := kk S _ nSi hS
    show wpAny _ A.in1 (updateSeq S (·.push y) >>= _) _ _ _
    refine wpAny_bind ?_
    have lps : (us.reverse.take i).toArray.size = i := by simp; omega
    refine wpAny_updateSeq hS2 rfl (wpAny_pure ⟨plainId_quiet F.plain_extend_loop _, ?_⟩) (by rw [lps, sizeLine_eq]; omega) (by show ((us.reverse.take i).toArray.push _).size ≤ sizeLine + 1; rw [Array.size_push, lps, sizeLine_eq]; omega)
    have upS := Heap.get?_update_self (Obj.mapSeq (·.push y)) hS2 rfl
    have upO : ∀ b o, b ≠ S → h'.get? b = some o → (h'.update S (Obj.mapSeq (·.push y))).get? b = some o := fun b o hb e => (Heap.get?_update_other _ _ (Ne.symm hb)).trans e
    have earr : (us.reverse.take (i + 1)).toArray = (us.reverse.take i).toArray.push y := by
      have : us.reverse[i]? = some y := by
        rw [List.getElem?_reverse hlt, List.getElem?_eq_getElem hj, hy]
      rw [List.take_add_one, this]; simp
    refine ih (i + 1) { s with heap := h'.update S (Obj.mapSeq (·.push y)) } _ (by omega) hlt ?_ ?_ (by rw [earr]; exact upS) fun h'' c'' k2 q2 => ?_
    · have e2 : (us.length : Int) - 1 - ((i + 1 : Nat) : Int) = ((us.length - 1 - i : Nat) : Int) - 1 := by omega
      rw [e2]
      obtain ⟨o, h1, h2⟩ := hit'
      exact ⟨o, upO _ _ (Ne.symm nSi) h1, h2⟩
    · obtain ⟨o, h1, h2⟩ := hm
      exact ⟨o, upO _ _ (Ne.symm nSl) (kk _ _ (Ne.symm nil) h1), h2⟩
    · exact hR h'' c'' (fun b o h1 h2 e => k2 b o h1 h2 (upO b o h1 (kk b o h2 e))) q2
private theorem ext_rev {S it l : Addr} {us : List Value} {res : Value} {R : Result → Shared → Prop} {c : Nat} (hh : A.in1.handled = none) (nSi : S ≠ it) (nSl : S ≠ l) (nil : it ≠ l) (hz : us.length ≤ 10000) (i1 : s.heap.IsRevIter it l ((us.length : Int) - 1)) (m1 : s.heap.IsList l us.toArray) (q1 : s.heap.get? S = some { cls := .type "list", dict := none, data := .seq #[] c, slots := #[] })
    (hR : ∀ h' c', (∀ b o, b ≠ S → b ≠ it → s.heap.get? b = some o → h'.get? b = some o) → h'.get? S = some { cls := .type "list", dict := none, data := .seq us.reverse.toArray c', slots := #[] } → R (.ok (.ret res)) { s with heap := h' }) :
    wpAny (model prog w) A.in1 (Builtin.List.listExtendWith (.ref S) (.ref it) res)
      (fun fin s' => match fin with | .done f => R (.ok f) s' | .again c' => c'.quiet = true ∧ codeAny (model prog w) A c' R s') (fun e s' => R (.error e) s') s := by
  have T1 : Shared.TypeIs s (.ref it) "list_reverseiterator" := Heap.IsRevIter.typeIs i1
  unfold Builtin.List.listExtendWith
  refine wpAny_bind (wpAny_typeOf T1 ?_)
  have b1 : Builtin.List.listSameRef (.ref S) (.ref it) = false := by simp [Builtin.List.listSameRef, nSi]
  have b2 : (Value.type "list_reverseiterator" == Value.type "list") = false := by decide
  have b3 : (Value.type "list_reverseiterator" == Value.type "tuple") = false := by decide
  simp only [b1, b2, b3, Bool.or_false, Bool.false_eq_true, if_false]
  refine wpAny_bind (wpAny_pyIter_revIter i1 (wpAny_bind (wpAny_holding ?_)))
  unfold Builtin.List.listLengthHint
  refine wpAny_bind (wpAny_specialOf T1 rev_len ?_)
  show wpAny _ A.in1 (specialOf (Value.ref it) (Str.ofString "__length_hint__") >>= _) _ _ _
  refine wpAny_bind (wpAny_specialOf T1 rev_hint ?_)
  show wpAny _ A.in1 (isInstance (.ref it) (.type "list_reverseiterator") >>= _) _ _ _
  refine wpAny_bind (wpAny_isInstance T1 rev_sub ?_)
  simp only [Bool.not_true, Bool.false_eq_true, if_false]
  show wpAny _ A.in1 (pure false) _ _ _
  refine wpAny_pure ?_
  show wpAny _ A.in1 (again (.builtin "list.extend.loop" ⟨[.ref S, .ref it, res], []⟩)) _ _ _
  refine wpAny_pure ⟨plainId_quiet F.plain_extend_loop _, ?_⟩
  exact loop_rev (res := res) hh nSi nSl nil hz us.length 0 _ _ rfl (Nat.zero_le _) (by simpa using i1) m1 q1 fun h' c' kk u1 => hR h' c' kk u1
private theorem code_collect_rev {it l : Addr} {us : List Value} {R : Result → Shared → Prop} (hh : A.in1.handled = none) (nil : it ≠ l) (hz : us.length ≤ 10000) (i1 : s.heap.IsRevIter it l ((us.length : Int) - 1)) (m1 : s.heap.IsList l us.toArray)
    (hR : ∀ h' c', (∀ b o, b ≠ it → s.heap.get? b = some o → h'.get? b = some o) → h'.get? s.heap.objs.size = some { cls := .type "list", dict := none, data := .seq us.reverse.toArray c', slots := #[] } → R (.ok (.ret (.ref s.heap.objs.size))) { s with heap := h' }) : codeAny (model prog w) A (.builtin "proto.collect" ⟨[.ref it], []⟩) R s := by
  have lti : it < s.heap.objs.size := by obtain ⟨o, e, _⟩ := i1; exact Heap.lt_size e
  have ltl : l < s.heap.objs.size := by obtain ⟨o, e, _⟩ := m1; exact Heap.lt_size e
  refine codeAny_builtin PyProof.Rows.entry_proto_collect' ?_
  show wpAny _ _ (newList [] >>= fun L => again (.builtin "list.__iadd__" ⟨[L, .ref it], []⟩)) _ _ _
  refine wpAny_bind (wpAny_newList ?_)
  refine wpAny_pure ⟨plainId_quiet F.plain_list_iadd _, codeAny_builtin F.entry_list_iadd ?_⟩
  rw [Around.under_plainId F.plain_list_iadd _]
  show wpAny _ A.in1 (Builtin.List.listExtendWith (.ref s.heap.objs.size) (.ref it) (.ref s.heap.objs.size)) _ _ _
  have k1 : ∀ b o, s.heap.get? b = some o → (s.heap.push { cls := .type "list", data := .seq ([] : List Value).toArray }).get? b = some o := fun b o e => Heap.get?_push_of_some _ e
  refine ext_rev (S := s.heap.objs.size) (R := R) (s := { s with heap := s.heap.push { cls := .type "list", data := .seq ([] : List Value).toArray } }) hh (Nat.ne_of_gt lti) (Nat.ne_of_gt ltl) nil hz (let ⟨o, y1, y2⟩ := i1; ⟨o, k1 _ _ y1, y2⟩) (let ⟨o, y1, y2⟩ := m1; ⟨o, k1 _ _ y1, y2⟩) (Heap.get?_push_size _ rfl) fun h' c' kk u1 => hR h' c' (fun b o hb e => kk b o (Nat.ne_of_lt (Heap.lt_size e)) hb (k1 b o e)) u1
private theorem collect_rev {it l : Addr} {us : List Value} {Q : List Value → Shared → Prop} (hh : A.in1.handled = none) (nil : it ≠ l) (hz : us.length ≤ 10000) (i1 : s.heap.IsRevIter it l ((us.length : Int) - 1)) (m1 : s.heap.IsList l us.toArray)
    (hQ : ∀ h', (∀ b o, b ≠ it → s.heap.get? b = some o → h'.get? b = some o) → Q us.reverse { s with heap := h' }) : wpAny (model prog w) A (collect (.ref it)) Q E s := by
  unfold collect
  refine wpAny_bind (wpAny_runValue (code_collect_rev hh nil hz i1 m1 fun h' c' kk u1 => ?_))
  show wpAny _ A (load s.heap.objs.size >>= _) Q E _
  refine wpAny_bind (wpAny_load u1 ?_)
  exact wpAny_pure (hQ h' kk)
end
private theorem give_join (sep : Str) (L : List (Str × Tok)) (hl : Builtin.Str.tooLong (Array.foldl (fun x1 x2 => x1 + x2.length + sep.length) 0 (List.map (fun x => x.1) L).toArray) = false) : Gives (joinTail sep (strValues L)) (joinMade sep L) := by
  have g := gives_joinTail sep L hl
  cases L with
  | nil => exact g
  | cons p L =>
    cases L with
    | nil => exact g
    | cons _ _ => exact g
private theorem meets_join_rev (sep : Str) (t : Tok) (it l : Addr) (ls : List (Str × Tok)) (nil : it ≠ l) (hz : ls.length ≤ 10000) (hl : Builtin.Str.tooLong (Array.foldl (fun x1 x2 => x1 + x2.length + sep.length) 0 (List.map (fun x => x.1) ls.reverse).toArray) = false) :
    Meets (Builtin.«str.join» ⟨[.str sep t, .ref it], []⟩) fun A R s => A.in1.in1.handled = none ∧ s.heap.IsRevIter it l ((ls.length : Int) - 1) ∧ s.heap.IsList l (strValues ls).toArray ∧ ∀ h', (∀ b o, b ≠ it → s.heap.get? b = some o → h'.get? b = some o) → (joinMade sep ls.reverse).post (fun v s' => R (.ok (.ret v)) s') { s with heap := h' } := by
  intro prog w A R s h
  obtain ⟨hh, i1, m1, hQ⟩ := h
  have T1 : Shared.TypeIs s (.ref it) "list_reverseiterator" := Heap.IsRevIter.typeIs i1
  show wpAny _ A.in1 (typeOf (.ref it) >>= _) _ _ _
  refine wpAny_bind (wpAny_typeOf T1 ?_)
  show wpAny _ A.in1 ((pyIter (.ref it)).tryCatch _ >>= fun v => collect v >>= fun items => joinTail sep items) _ _ _
  refine wpAny_bind (wpAny_tryCatch (wpAny_pyIter_revIter i1 (wpAny_bind ?_)))
  have ls' : ((strValues ls).length : Int) = (ls.length : Int) := by unfold strValues; rw [List.length_map]
  refine collect_rev (us := strValues ls) hh nil (by omega) (by rw [ls']; exact i1) m1 fun h' kk => ?_
  have er : (strValues ls).reverse = strValues ls.reverse := by unfold strValues; rw [List.map_reverse]
  rw [er]
  exact give_join sep ls.reverse hl prog w A R _ (hQ h' kk)
section
variable {X : Cx} {o a : Expr} {to : TE} {ta : TA} {p2 pos2 apos cpos : Pos}
private theorem strs_vals : ∀ {ts : List Str} {us : List Value}, Vals (ts.map V.str) us → ∃ ls : List (Str × Tok), us = strValues ls ∧ ls.map (·.1) = ts
  | [], _, .nil => ⟨[], rfl, rfl⟩
  | t :: ts, _, .cons r rs => by
    obtain ⟨ls, rfl, e⟩ := strs_vals rs
    obtain ⟨k, rfl⟩ := r
    exact ⟨(t, k) :: ls, rfl, by rw [List.map_cons, e]⟩
noncomputable def tJoinRev (K : PySem.W.Frag) (to : TE) (ta : TA) : TE := fun σ H Q => to σ H fun x H1 => x = .str Str.empty ∧ ta σ H1 fun vs H2 => ∃ (l : Addr) (ts : List Str), vs = [.ref l] ∧ SqL K H2 l (ts.map V.str) ∧ ts.length ≤ 10000 ∧ Builtin.Str.tooLong (Array.foldl (fun x1 x2 => x1 + x2.length + 0) 0 ts.reverse.toArray) = false ∧ (Builtin.Str.glued Str.empty ts.reverse).length ≤ sizeLine ∧ Q (.str (Builtin.Str.glued Str.empty ts.reverse)) H2
private theorem pe_joinrev (hgz : Gl X "reversed") (hmz : X.mg "reversed" = none) (hc : X.calm = true) (ho : PE X o to) (ha : PA X [a] ta) (m : M1 X o "join" apos (.Call (.Name "reversed" p2) [a] [] pos2) cpos)
    (hs : starEach [a] X.env = [(false, eval a X.env)] := by rfl) : PE X (.Call (.Attribute o "join" apos) [.Call (.Name "reversed" p2) [a] [] pos2] [] cpos) (tJoinRev X.K to ta) := by
  intro pins s σ H Q I h
  refine wpAny_Call_method m.base m.few m.line PySem.F.plainAttrs_str PySem.F.slot_str_join PySem.F.type_str_join (thn (ho pins s σ H _ I h) fun u s1 ⟨x, H1, I1, rx, ex, q1⟩ => ?_)
  subst ex
  obtain ⟨tk, rfl⟩ : ∃ t, u = Value.str Str.empty t := rx
  refine ⟨rfl, ?_, ?_⟩
  · intro b e; cases e
  rw [m.trees]
  refine Calls.callWith_builtin rfl (Calls.evalArgs_plain (Calls.spliced_cons (wpAny_Call_Name_kw (ld_blt I1 hgz hmz boot_reversed (PyProof.Rows.callWith_type1 (thn (ha pos2 pins s1 σ H1 _ I1 q1) fun us s2 ⟨vs, H2, I2, r2, q2⟩ => ?_) hs rfl)))))
  obtain ⟨l, ts, rfl, hq, hz, htl, hn, q⟩ := q2
  obtain ⟨v, rfl, rv⟩ := r2.one
  cases rv
  obtain ⟨its, rv, pl, hz2⟩ := I2.list hq
  obtain ⟨ls, rfl, el⟩ := strs_vals rv
  refine call_reversed_list pl.isList (Calls.spliced_nil ?_)
  have ltl : l < s2.heap.objs.size := by obtain ⟨o, e, _⟩ := pl.isList; exact Heap.lt_size e
  have i0 : (s2.heap.push (revObj l (((strValues ls).toArray.size : Int) - 1))).IsRevIter s2.heap.objs.size l ((ls.length : Int) - 1) := ⟨_, Heap.get?_push_size _ rfl, rfl, by simp [revObj, strValues]⟩
  have k1 : ∀ b o, s2.heap.get? b = some o → (s2.heap.push (revObj l (((strValues ls).toArray.size : Int) - 1))).get? b = some o := fun b o e => Heap.get?_push_of_some _ e
  have lz : ls.length ≤ 10000 := by rw [← el, List.length_map] at hz; exact hz
  have fz : Builtin.Str.tooLong (Array.foldl (fun x1 x2 => x1 + x2.length + Str.empty.length) 0 (List.map (fun x => x.1) ls.reverse).toArray) = false := by
    rw [List.map_reverse, el]; exact htl
  refine call_meets F.slot_str_join rfl F.entry_str_join (F.args_str_join_2 _ _) (meets_join_rev Str.empty tk s2.heap.objs.size l ls (Nat.ne_of_gt ltl) lz fz) ⟨I2.ok.hd hc, i0, let ⟨o, y1, y2⟩ := pl.isList; ⟨o, k1 _ _ y1, y2⟩, fun h' kk => ?_⟩
  have keep : ∀ b o, s2.heap.get? b = some o → h'.get? b = some o := fun b o e => kk b o (Nat.ne_of_lt (Heap.lt_size e)) (k1 b o e)
  have J : Inv X pins σ H2 { s2 with heap := h' } := I2.un (t' := s2.toks) ⟨fun b o e _ _ _ => keep b o e, fun b o e _ _ _ => ⟨o.slots, keep b o e⟩, fun b o e n _ => n, fun b o e _ => ⟨o, keep b o e⟩, fun b xs e => e, fun b o u e => e, fun b ps e => ⟨#[], by rw [e]; simp⟩⟩ fun b o e => (I2.hok b o e).stay (fun c v _ q => keep c v q) (fun c q => q) fun c _ q => q
  rw [← el, ← List.map_reverse] at q hn
  generalize ls.reverse = L at q hn
  cases L with
  | nil =>
    exact ⟨hn, .str _, H2, J.tok _, ⟨_, rfl⟩, q⟩
  | cons p L =>
    cases L with
    | nil => exact ⟨.str p.1, H2, J, ⟨p.2, rfl⟩, q⟩
    | cons p' L => exact ⟨hn, .str _, H2, J.tok _, ⟨_, rfl⟩, q⟩
noncomputable def rZfill : V → List V → Hp → VK → Prop := fun x xs H Q => ∃ (t : Str) (i : Int), x = .str t ∧ xs = [.int i] ∧ PadOk i = true ∧ Q (.str (Txt.zfill t i)) H
private theorem mt_zfill : MtR X "str.zfill" rZfill := by
  intro pins s σ H x xs v us Q I rx rs h
  obtain ⟨t, i, rfl, rfl, hp, q⟩ := h
  obtain ⟨k, rfl⟩ := rx
  obtain ⟨u, rfl, t2, rfl⟩ := vals1 rs
  exact SC.zfill hp fun t' k' => ⟨.str _, H, I.tok _, ⟨_, rfl⟩, q⟩
end

private theorem cpow {i j : Int} (h : 0 ≤ j) (h2 : j ≤ 1000000) (h3 : i.natAbs < 2 ^ 64) : CPow i j := ⟨h, h2, h3⟩

/-! ### figures, show -/
private theorem p60 : (10 : Int) ^ (60 : Int).toNat = ((10 ^ 60 : Nat) : Int) := by decide
private theorem log_ok {n : Nat} (h : n < 2 ^ 1900) : ((n : Int)).natAbs.log2 < 1920 := by
  rw [Int.natAbs_natCast]
  by_cases c : n = 0
  · subst c; decide
  · exact Nat.lt_of_lt_of_le ((Nat.log2_lt c).mpr h) (by decide)
private theorem lt60_log {n : Nat} (h : n < 10 ^ 60) : ((n : Int)).natAbs.log2 < 1920 := log_ok (Nat.lt_trans h (by
  have : (10 : Nat) ^ 60 < 2 ^ 200 := by decide
  exact Nat.lt_of_lt_of_le this (Nat.pow_le_pow_right (by decide) (by decide))))
private theorem str_nat (m : Nat) : Str.ofString (toString (m : Int)) = st (dgL m) := str_int (n := (m : Int)) (by omega)
private theorem glue_len : ∀ (ls : List (List Nat)) (k : Nat), (∀ l ∈ ls, l.length ≤ k) → ls.flatten.length ≤ k * ls.length
  | [], k, _ => by simp
  | l :: ls, k, h => by
    rw [List.flatten_cons, List.length_append, List.length_cons, Nat.mul_add, Nat.mul_one]
    have h1 := h l (.head _)
    have h2 := glue_len ls k fun x hx => h x (.tail _ hx)
    omega
private theorem fold_len : ∀ (ls : List (List Nat)), Array.foldl (fun (x1 : Nat) (x2 : Str) => x1 + x2.length + 0) 0 (ls.map st).toArray = ls.flatten.length := by
  intro ls
  have go : ∀ (ls : List (List Nat)) (a : Nat), (ls.map st).foldl (fun (x1 : Nat) (x2 : Str) => x1 + x2.length + 0) a = a + ls.flatten.length := by
    intro ls
    induction ls with
    | nil => intro a; simp
    | cons l ls ih => intro a; rw [List.map_cons, List.foldl_cons, ih, st_len, List.flatten_cons, List.length_append]; omega
  rw [List.foldl_toArray', go]
  · omega
  · rfl
noncomputable def sgL (n : Int) : List Nat := (if n < 0 then [45] else []) ++ dgL n.natAbs
noncomputable def spFig : Sp := fun vs H Q _ => ∃ n : Int, vs = [.int n] ∧ Sm 1000 n ∧ ∀ H', Same H H' → Q (.str (st (sgL n))) H'
private theorem small1000' {n : Nat} (h : n ≤ 5000) : n < sizeLine := Nat.lt_of_le_of_lt h (by rw [sizeLine_eq]; decide)
noncomputable abbrev s_figures : Stmt := top 9
private theorem sc_figures : FnScope ["number", "unit", "rest", "pieces"] ["number"] (defScope s_figures) := ⟨rfl, rfl, rfl, by decide +kernel, rfl, by decide +kernel, by decide +kernel⟩
private theorem h_figures (B : Bl2 mg) (F : Def K mg "figures" s_figures ["number"]) : Has P w K mg base CX0 1 "figures" ["number"] spFig := by
  refine F.has sc_figures (fun vs H Q E h => by obtain ⟨n, rfl, _⟩ := h; rfl) (fun f cdv A outer s H vs Q E hr h => ?_)
  obtain ⟨n, rfl, sn, q⟩ := h
  have nd := sc_figures.nd
  refine ⟨_, (pss_cons (ps_set (i := 1) nd rfl (Or.inl rfl) (pe_op op_pow pe_int pe_int))
    (pss_cons (ps_set (i := 2) nd rfl (Or.inl rfl) (pe_callB call_abs rfl B.abs boot_abs (pa_cons (pv 0) pa_nil)))
    (pss_cons (ps_set (i := 3) nd rfl (Or.inl rfl) (pe_lstN pa_nil))
    (pss_cons (ps_while PassesOwn.never (pt_cmpR op_ge (pv 2) (pv 1) (nomark _)) (pss_cons (ps_expr (pe_bm PySem.F.plainAttrs_list PySem.F.slot_list_append PySem.F.type_list_append mt_append (pv 3) (pa_cons (pe_bm PySem.F.plainAttrs_str PySem.F.slot_str_zfill PySem.F.type_str_zfill mt_zfill (pe_callTy call_str_int rfl B.str boot_str (pa_cons (pe_op op_mod (pv 2) (pv 1)) pa_nil)) (pa_cons pe_int pa_nil)) pa_nil)))
    (pss_one (ps_set (i := 2) nd rfl (Or.inl rfl) (pe_op op_fdivS (pv 2) (pv 1))))))
    (pss_cons (ps_expr (pe_bm PySem.F.plainAttrs_list PySem.F.slot_list_append PySem.F.type_list_append mt_append (pv 3) (pa_cons (pe_callTy call_str_int rfl B.str boot_str (pa_cons (pv 2) pa_nil)) pa_nil)))
    (pss_cons (ps_if (pt_cmpR op_lt (pv 0) pe_int (nomark _)) (pss_one (ps_expr (pe_bm PySem.F.plainAttrs_list PySem.F.slot_list_append PySem.F.type_list_append mt_append (pv 3) (pa_cons pe_str pa_nil)))) pss_nil)
    (pss_one (ps_ret (pe_joinrev rfl B.reversed rfl pe_str (pa_cons (pv 3) pa_nil) ⟨rfl, rfl, rfl, rfl⟩))))))))), ?_⟩
  have ea : (if n < 0 then -n else n) = ((n.natAbs : Nat) : Int) := by split <;> omega
  have sa : n.natAbs < 2 ^ 1000 := sn
  have U0 : 0 < (10 : Nat) ^ 60 := by decide
  have U2 : 2 ≤ (10 : Nat) ^ 60 := by decide
  have UL : (10 : Nat) ^ 60 < 2 ^ 200 := by decide
  have eU := p60
  refine ⟨_, _, rfl, rfl, cpow (by decide) (by decide) (by decide), _, rfl, n, rfl, by show 0 ≤ sizeLine; decide, fun p H1 hp sm hH => ?_⟩
  have dp := fun (r : Nat) (hr : 0 < r) (m : Nat) (hm : m < 10 ^ 60) => dg_pad (r := r) hr 60 m hm
  have zf := fun (m : Nat) (hm : m < 10 ^ 60) => zfill_dg hm
  have lg := fun (m : Nat) (hm : m < 10 ^ 60) => lt60_log hm
  have dl := fun (m : Nat) (hm : m < 10 ^ 60) => dg_len 59 (m := m) hm
  generalize (10 : Nat) ^ 60 = U at *
  have keep : ∀ {H2 : Hp} {o : HO}, Same H H2 → Same H (upd H2 p o) := fun {H2 o} h b u e => by
    rw [upd_ne (show b ≠ p from fun z => by rw [z, hp] at e; cases e)]; exact h b u e
  refine ⟨fun m σ H' => ∃ (r : Nat) (ts : List (List Nat)), σ = [some (.int n), some (.int (U : Int)), some (.int (r : Int)), some (.ref p)] ∧ m = r ∧ Same H H' ∧ H' p = some (.lst ((ts.map st).map V.str)) ∧ dgL n.natAbs = dgL r ++ ts.reverse.flatten ∧ 2 ^ ts.length * r ≤ n.natAbs ∧ (r = 0 → ts = []) ∧ ∀ t ∈ ts, t.length ≤ 60, ⟨_, n.natAbs, [], ?_, rfl, sm, hH, by simp, by simp, fun _ => rfl, by simp⟩, ?_⟩
  · show [some (V.int n), some (V.int ((10 : Int) ^ (60 : Int).toNat)), some (V.int (if n < 0 then -n else n)), some (V.ref p)] = _
    rw [ea, eU]
  rintro m σ H2 ⟨r, ts, rfl, rfl, sm2, h2, ed, ep, e0, el⟩
  have lt : m ≠ 0 → ts.length < 1000 := fun h => by
    apply Classical.byContradiction
    intro c
    have h1 : 2 ^ 1000 ≤ 2 ^ ts.length := Nat.pow_le_pow_right (by decide) (by omega)
    have h3 : 2 ^ ts.length * 1 ≤ 2 ^ ts.length * m := Nat.mul_le_mul_left _ (by omega)
    generalize (2 : Nat) ^ 1000 = Z at *
    omega
  refine ⟨_, rfl, _, rfl, _, _, rfl, rfl, _, rfl, ?_⟩
  refine iteB (fun c => ?_) (fun c => ?_)
  · have c : U ≤ m := by
      have : (U : Int) ≤ (m : Int) := by simpa using c
      omega
    have l1 := lt (by omega)
    have md : m % U < U := Nat.mod_lt _ U0
    have dv : 0 < m / U := Nat.div_pos c U0
    have em : m / U * U + m % U = m := by rw [Nat.mul_comm]; exact Nat.div_add_mod m U
    have ei : (m : Int) % (U : Int) = ((m % U : Nat) : Int) := rfl
    have ef : (m : Int).fdiv (U : Int) = ((m / U : Nat) : Int) := by rw [Int.fdiv_eq_ediv_of_nonneg _ (by omega)]; rfl
    refine ⟨fun σ' H'' => ∃ m', m' < m ∧ ∃ (r : Nat) (ts : List (List Nat)), σ' = [some (.int n), some (.int (U : Int)), some (.int (r : Int)), some (.ref p)] ∧ m' = r ∧ Same H H'' ∧ H'' p = some (.lst ((ts.map st).map V.str)) ∧ dgL n.natAbs = dgL r ++ ts.reverse.flatten ∧ 2 ^ ts.length * r ≤ n.natAbs ∧ (r = 0 → ts = []) ∧ ∀ t ∈ ts, t.length ≤ 60, fun _ _ h => h, ?_⟩
    refine ⟨_, rfl, .inl ⟨rfl, _, SqL.of h2⟩, _, rfl, _, rfl, _, _, rfl, rfl, ?_, ?_⟩
    · show (0 : Int) < (U : Int); omega
    refine ⟨((m % U : Nat) : Int), rfl, lg _ md, rfl, Str.ofString (toString ((m % U : Nat) : Int)), 60, rfl, rfl, by decide, p, _, _, rfl, rfl, h2, by rw [List.length_map, List.length_map]; exact small1000' (by omega), ?_⟩
    refine ⟨_, rfl, _, rfl, _, _, rfl, rfl, ⟨by show (U : Int) ≠ 0; omega, Sm.mono (a := 200) (by unfold Sm; rw [Int.natAbs_natCast]; exact UL) (by decide)⟩, ?_⟩
    refine ⟨m / U, Nat.div_lt_self (by omega) U2, m / U, ts ++ [zpad 60 (m % U)], ?_, rfl, keep sm2, by rw [upd_same, str_nat, zf _ md, List.map_append, List.map_append]; rfl, ?_, ?_, fun z => by omega, ?_⟩
    · show [some (V.int n), some (V.int (U : Int)), some (V.int ((m : Int).fdiv (U : Int))), some (V.ref p)] = _
      rw [ef]
    · rw [ed, List.reverse_append, List.reverse_singleton, List.singleton_append, List.flatten_cons, ← List.append_assoc, ← dp _ dv _ md, em]
    · rw [List.length_append, List.length_singleton, Nat.pow_succ, Nat.mul_assoc]
      refine Nat.le_trans (Nat.mul_le_mul_left _ ?_) ep
      have : 2 * (m / U) ≤ U * (m / U) := Nat.mul_le_mul_right _ U2
      have := Nat.mul_div_le m U
      omega
    · intro t ht
      rcases List.mem_append.mp ht with ht | ht
      · exact el t ht
      · rw [List.mem_singleton.mp ht, zpad_len]; exact Nat.le_refl _
  · have c : m < U := by
      have : ¬ (U : Int) ≤ (m : Int) := by simpa using c
      omega
    have l1 : ts.length ≤ 1000 := by
      by_cases z : m = 0
      · rw [e0 z]; exact Nat.zero_le _
      · have := lt z; omega
    have lm : (dgL m).length ≤ 60 := dl m c
    refine ⟨_, rfl, .inl ⟨rfl, _, SqL.of h2⟩, _, rfl, (m : Int), rfl, lg _ c, p, _, _, rfl, rfl, h2, by rw [List.length_map, List.length_map]; exact small1000' (by omega), ?_⟩
    have h3 : upd H2 p (.lst ((ts.map st).map V.str ++ [V.str (Str.ofString (toString (m : Int)))])) p = some (.lst (((ts ++ [dgL m]).map st).map V.str)) := by
      rw [upd_same, str_nat, List.map_append, List.map_append]; rfl
    have sm3 : Same H (upd H2 p (.lst ((ts.map st).map V.str ++ [V.str (Str.ofString (toString (m : Int)))]))) := keep sm2
    have el2 : ∀ t ∈ ts ++ [dgL m], t.length ≤ 60 := fun t ht => by
      rcases List.mem_append.mp ht with ht | ht
      · exact el t ht
      · rw [List.mem_singleton.mp ht]; exact lm
    have fin : ∀ (us : List (List Nat)) (H4 : Hp), us.length ≤ 1002 → (∀ t ∈ us, t.length ≤ 60) → us.reverse.flatten = sgL n → Same H H4 → H4 p = some (.lst ((us.map st).map V.str)) → tJoinRev (cxOf CX0 P w K mg base ["number", "unit", "rest", "pieces"] "figures" (defScope s_figures) f cdv A outer s H E).nox.K (tC (.str (Str.ofString ""))) (tCons (tVar 3) tNil) [some (.int n), some (.int (U : Int)), some (.int (m : Int)), some (.ref p)] H4 fun v H5 => Q v H5 := fun us H4 l4 e4 f4 s4 h4 => by
      have rl := glue_len us.reverse 60 fun t ht => e4 t (List.mem_reverse.mp ht)
      rw [List.length_reverse] at rl
      have sz : us.reverse.flatten.length ≤ sizeLine := Nat.le_trans rl (by rw [sizeLine_eq]; omega)
      have er : (us.map st).reverse = us.reverse.map st := by rw [List.map_reverse]
      refine ⟨congrArg V.str PyProof.Rows.ofString_empty, _, rfl, p, us.map st, rfl, SqL.of h4, by rw [List.length_map]; omega, ?_, ?_, ?_⟩
      · rw [er, fold_len]
        unfold Builtin.Str.tooLong
        simpa using sz
      · rw [er, glued_st, st_len]; exact sz
      · rw [er, glued_st, f4]; exact q H4 s4
    have ef : (ts ++ [dgL m]).reverse.flatten = dgL n.natAbs := by rw [ed, List.reverse_append, List.reverse_singleton, List.singleton_append, List.flatten_cons]
    have l2 : (ts ++ [dgL m]).length ≤ 1001 := by rw [List.length_append]; show ts.length + 1 ≤ 1001; omega
    refine ⟨_, rfl, _, _, rfl, rfl, _, rfl, ?_⟩
    refine iteB (fun cn => ?_) (fun cn => ?_)
    · have cn : n < 0 := by simpa using cn
      refine ⟨_, rfl, .inl ⟨rfl, _, SqL.of h3⟩, p, _, _, rfl, rfl, h3, by rw [List.length_map, List.length_map]; exact small1000' (by omega), ?_⟩
      refine fin (ts ++ [dgL m] ++ [[45]]) _ (by rw [List.length_append]; show (ts ++ [dgL m]).length + 1 ≤ 1002; omega) (fun t ht => ?_) ?_ (keep sm3) ?_
      · rcases List.mem_append.mp ht with ht | ht
        · exact el2 t ht
        · rw [List.mem_singleton.mp ht]; show 1 ≤ 60; decide
      · unfold sgL
        rw [if_pos cn, List.reverse_append, List.reverse_singleton, List.singleton_append, List.flatten_cons, ef]
      · have e45 : Str.ofString "-" = st [45] := by rw [PySem.Str.ofString_eq_toList]; rfl
        rw [upd_same, e45, List.map_append (l₁ := ts ++ [dgL m]), List.map_append (l₁ := (ts ++ [dgL m]).map st)]; rfl
    · have cn : ¬ n < 0 := by simpa using cn
      refine fin (ts ++ [dgL m]) _ (by omega) el2 ?_ sm3 h3
      unfold sgL
      rw [if_neg cn, ef]; rfl

/-! ### texts split, begun, cut, read -/
noncomputable def inter (c : Nat) : List (List Nat) → List Nat
  | [] => []
  | l :: ls => l ++ (ls.map (c :: ·)).flatten
private theorem inter_cons (c : Nat) (l m : List Nat) (ls : List (List Nat)) : inter c (l :: m :: ls) = l ++ c :: inter c (m :: ls) := by
  show l ++ ((m :: ls).map (c :: ·)).flatten = l ++ c :: (m ++ (ls.map (c :: ·)).flatten)
  rw [List.map_cons, List.flatten_cons]; rfl
private theorem glue_st (c : Nat) : ∀ ls : List (List Nat), Builtin.Str.glued (st [c]) (ls.map st) = st (inter c ls) := by
  intro ls
  cases ls with
  | nil => rfl
  | cons l ls =>
    show (⟨List.foldl (fun acc p => acc ++ (st [c]).cps ++ p.cps) l.toArray (ls.map st)⟩ : Str) = ⟨(l ++ (ls.map (c :: ·)).flatten).toArray⟩
    have go : ∀ (ls : List (List Nat)) (a : List Nat), List.foldl (fun (acc : Array Nat) (p : Str) => acc ++ (st [c]).cps ++ p.cps) a.toArray (ls.map st) = (a ++ (ls.map (c :: ·)).flatten).toArray := by
      intro ls
      induction ls with
      | nil => intro a; simp
      | cons l ls ih =>
        intro a
        rw [List.map_cons, List.foldl_cons]
        have e : a.toArray ++ (st [c]).cps ++ (st l).cps = (a ++ (c :: l)).toArray := by
          show a.toArray ++ #[c] ++ l.toArray = _
          simp
        rw [e, ih, List.map_cons, List.flatten_cons, List.append_assoc]
    rw [go]
private theorem inter_inj {c : Nat} : ∀ {ls ls' : List (List Nat)}, ls ≠ [] → ls' ≠ [] → (∀ l ∈ ls, c ∉ l) → (∀ l ∈ ls', c ∉ l) → inter c ls = inter c ls' → ls = ls' := by
  intro ls
  induction ls with
  | nil => intro ls' h; exact absurd rfl h
  | cons l ls ih =>
    intro ls' _ h' f f' e
    cases ls' with
    | nil => exact absurd rfl h'
    | cons l' ls' =>
      have fl := f l (.head _)
      have fl' := f' l' (.head _)
      cases ls with
      | nil =>
        cases ls' with
        | nil =>
          have e : l ++ [] = l' ++ [] := e
          rw [List.append_nil, List.append_nil] at e
          rw [e]
        | cons m' ls' =>
          rw [inter_cons] at e
          have e : l ++ [] = _ := e
          rw [List.append_nil] at e
          exact absurd (by rw [e]; exact List.mem_append_right _ (.head _)) fl
      | cons m ls =>
        cases ls' with
        | nil =>
          rw [inter_cons] at e
          have e : _ = l' ++ [] := e
          rw [List.append_nil] at e
          exact absurd (by rw [← e]; exact List.mem_append_right _ (.head _)) fl'
        | cons m' ls' =>
          rw [inter_cons, inter_cons] at e
          obtain ⟨e1, e2⟩ := split_at fl fl' e
          rw [e1, ih (by simp) (by simp) (fun x hx => f x (.tail _ hx)) (fun x hx => f' x (.tail _ hx)) e2]
private theorem split_st {c : Nat} {ls : List (List Nat)} (h : ls ≠ []) (f : ∀ l ∈ ls, c ∉ l) : Txt.split (st (inter c ls)) (st [c]) = ls.map st := by
  have hj := StrLaws.join_split (st (inter c ls)) (st [c])
  have hf := StrLaws.split_free (st (inter c ls)) c
  generalize hP : Txt.split (st (inter c ls)) (st [c]) = Ps at hj
  have hf : ∀ p ∈ Ps, c ∉ p.cps.toList := fun p hp => hf p (by rw [← hP] at hp; exact hp)
  have eP : Ps = (Ps.map fun p => p.cps.toList).map st := by
    rw [List.map_map]
    exact (List.map_id' Ps).symm
  rw [← StrLaws.glued_eq_join] at hj
  rw [eP, glue_st] at hj
  have ne : Ps ≠ [] := fun z => by
    rw [z] at hj
    have e0 := st_inj hj
    have e0 : [] = inter c ls := e0
    rw [← e0] at hP
    rw [z] at hP
    have : Txt.split (st []) (st [c]) = [st []] := by
      unfold Txt.split
      rw [if_pos]
      simp [st, Str.length]
    rw [this] at hP
    cases hP
  have := inter_inj (c := c) (by intro z; exact ne (List.map_eq_nil_iff.mp z)) h (fun l hl => by
    obtain ⟨p, hp, rfl⟩ := List.mem_map.mp hl
    exact hf p hp) f (st_inj hj)
  rw [eP, this]
private theorem starts_cons (a c : Nat) (l : List Nat) : Txt.startswith (st (a :: l)) (st [c]) = (a == c) := by
  unfold Txt.startswith Builtin.Str.subAt
  rw [st_len, st_len]
  have e : (st (a :: l)).cps.extract 0 (0 + [c].length) = #[a] := by
    show (a :: l).toArray.extract 0 1 = #[a]
    simp
  rw [e]
  show (decide (0 + 1 ≤ l.length + 1) && (#[a] == #[c])) = _
  rw [decide_eq_true (by omega), Bool.true_and]
  rw [Bool.eq_iff_iff]
  simp
private theorem cut_cons (a : Nat) (l : List Nat) : Txt.slice (st (a :: l)) (some 1) none = st l := by
  have := PyProof.Rows.slice_closes_from (x := st (a :: l)) (i := 1) ⟨by decide, by show (1 : Int) ≤ ((a :: l).length : Int); rw [List.length_cons]; omega⟩
  rw [eq_of_beq this]
  show (⟨(List.take (((a :: l).length : Int) - 1).toNat (List.drop 1 (a :: l))).toArray⟩ : Str) = ⟨l.toArray⟩
  rw [List.length_cons, show (((l.length + 1 : Nat) : Int) - 1).toNat = l.length by omega]
  show (⟨(List.take l.length l).toArray⟩ : Str) = _
  rw [List.take_length]
private theorem int_dg {n : Nat} (h : (dgL n).length ≤ 4300) : intText? (st (dgL n)) = some (n : Int) := by
  have := intText_digits (x := st (dgL n)) (fun c hc => dg_mem hc) (dg_ne n) (by rw [st_len]; exact h)
  rw [this]
  have e : NumText.digitsVal (dgL n) = n := val_dg n
  show some ((NumText.digitsVal (dgL n) : Nat) : Int) = _
  rw [e]
private theorem sgL_cons (n : Int) : ∃ a l, sgL n = a :: l ∧ (a = 45 ↔ n < 0) ∧ (n < 0 → l = dgL n.natAbs) := by
  unfold sgL
  by_cases h : n < 0
  · rw [if_pos h]; exact ⟨45, _, rfl, by simp [h], fun _ => rfl⟩
  · rw [if_neg h]
    cases e : dgL n.natAbs with
    | nil => exact absurd e (dg_ne _)
    | cons a l =>
      refine ⟨a, l, rfl, ⟨fun z => ?_, fun z => absurd z h⟩, fun z => absurd z h⟩
      have := dg_mem (n := n.natAbs) (c := a) (by rw [e]; exact .head _)
      omega
private theorem dg_first : ∀ {n : Nat} {l : List Nat}, dgL n = 48 :: l → n = 0 := by
  intro n
  induction n using Nat.strongRecOn with
  | ind n ih =>
    intro l e
    by_cases h : n < 10
    · rw [dg_lt h] at e
      injection e with e1 e2
      omega
    · rw [dg_step (by omega)] at e
      cases e2 : dgL (n / 10) with
      | nil => exact absurd e2 (dg_ne _)
      | cons a l2 =>
        rw [e2, List.cons_append] at e
        injection e with e3 e4
        subst e3
        have := ih (n / 10) (by omega) e2
        omega

/-! ### fractions, over trees -/
noncomputable abbrev s_common_divisor : Stmt := top 7
private theorem sc_common_divisor : FnScope ["one", "other", "larger", "smaller", "rest"] ["one", "other"] (defScope s_common_divisor) := ⟨rfl, rfl, rfl, by decide +kernel, rfl, by decide +kernel, by decide +kernel⟩
noncomputable def gGcd : List D → (D → Prop) → Prop := fun ds P => ∃ a b : Int, ds = [.int a, .int b] ∧ P (.int (Int.gcd a b : Int))
private theorem abs_gcd (a b : Int) : Int.gcd (if a < 0 then -a else a) (if b < 0 then -b else b) = Int.gcd a b := by
  split <;> split <;> simp [Int.gcd_neg, Int.neg_gcd]
private theorem h_common_divisor (B : Bl mg) (F : Def K mg "common_divisor" s_common_divisor ["one", "other"]) : Has P w K mg base CX0 1 "common_divisor" ["one", "other"] (spW K (pur gGcd)) := by
  refine F.hasP sc_common_divisor (fun ds P h => by obtain ⟨a, b, rfl, _⟩ := h; rfl) fun f cdv A outer s H E hr => ?_
  have nd := sc_common_divisor.nd
  refine ⟨_, (jss_cons (js_set (i := 2) nd rfl (Or.inl rfl) (j_abs rfl B.abs (ja_cons (jv 0) ja_nil)))
    (jss_cons (js_set (i := 3) nd rfl (Or.inl rfl) (j_abs rfl B.abs (ja_cons (jv 1) ja_nil)))
    (jss_cons (js_while PassesOwn.never (jt_ne hr (jv 3) j_int) (jss_cons (js_set (i := 4) nd rfl (Or.inl rfl) (j_mod (jv 2) (jv 3)))
    (jss_cons (js_set (i := 2) nd rfl (Or.inl rfl) (jv 3))
    (jss_one (js_set (i := 3) nd rfl (Or.inl rfl) (jv 4))))))
    (jss_one (js_ret (jv 2)))))), ?_⟩
  rintro ds M Q ⟨a, b, rfl, q⟩
  refine ⟨fun m ρ M' => M' = M ∧ ∃ (l k : Int) (r : Ent), ρ = [.sh (.int a), .sh (.int b), .sh (.int l), .sh (.int k), r] ∧ m = k.natAbs ∧ 0 ≤ l ∧ 0 ≤ k ∧ Int.gcd l k = Int.gcd a b, ⟨_, rfl, _, _, _, rfl, rfl, ?_, ?_, abs_gcd a b⟩, ?_⟩
  · split <;> omega
  · split <;> omega
  rintro m ρ M' ⟨rfl, l, k, r, rfl, rfl, hl, hk, e⟩
  refine ⟨by show 0 ≤ 60; decide, ?_⟩
  show if (!(k == 0)) = true then _ else _
  refine iteB (fun c => ?_) (fun c => ?_)
  · have c' : k ≠ 0 := by simpa using c
    exact ⟨c', _, fmod_small (a := l) c', rfl, _, _, _, rfl, rfl, hk, Int.fmod_nonneg hl hk, by rw [gcd_step, e]⟩
  · have c' : k = 0 := by simpa using c
    subst c'
    have e2 : l = (Int.gcd a b : Int) := by
      rw [← e, Int.gcd_zero_right]
      omega
    exact ⟨_, Sub.refl _, by rw [e2]; exact q⟩
private theorem map_get {α : Type} {f : α → D} {l : List α} {i : Nat} {d : D} (h : (l.map f)[i]? = some d) : ∃ x, l[i]? = some x ∧ d = f x := by
  rw [List.getElem?_map, Option.map_eq_some_iff] at h
  obtain ⟨x, e, rfl⟩ := h
  exact ⟨x, e, rfl⟩

/-! ### figures, show over trees -/
noncomputable def gFig : List D → (D → Prop) → Prop := fun ds P => ∃ n : Int, ds = [.int n] ∧ Sm 1000 n ∧ P (.str (st (sgL n)))
private theorem fig4 {k : Nat} (F : Has P w K mg base CX0 k "figures" ["number"] spFig) : Has P w K mg base CX0 k "figures" ["number"] (spW K (pur gFig)) := by
  obtain ⟨f, fd, F, b, kp, m⟩ := F.ex
  refine ⟨f, fd, F.imp ?_, b, kp, m⟩
  rintro vs H Q E ⟨Z, F', M, ds, P, ag, r, ⟨n, rfl, sn, q⟩, kk⟩
  obtain ⟨v, rfl, rv⟩ := rps1 r
  rw [Rp] at rv
  exact ⟨n, by rw [rv], sn, fun H' sm => kk _ H' F' _ M (Same.refl _) (ag.grow (Same.refl _) sm (ag.sm.trans sm) fun p h _ => h) (by rw [Rp]) q⟩
private theorem sg_len {n : Int} (h : Sm 1000 n) : (sgL n).length ≤ 1001 := by
  have h1 := dg_len 999 (m := n.natAbs) (Nat.lt_of_lt_of_le (show n.natAbs < 2 ^ 1000 from h) (Nat.pow_le_pow_left (by decide) _))
  unfold sgL
  rw [List.length_append]
  split
  · show 1 + _ ≤ _; omega
  · show 0 + _ ≤ _; omega
private theorem e47 : Str.ofString "/" = st [47] := by rw [PySem.Str.ofString_eq_toList]; rfl
private theorem sz5 {k : Nat} (h : k ≤ 5000) : k ≤ sizeLine := Nat.le_of_lt (small1000' h)
private theorem tx_num {q : Rat} (h : q.den = 1) : txL q = sgL q.num := by unfold sgL txL; rw [if_pos h, List.append_nil]
private theorem tx_frac {q : Rat} (h : q.den ≠ 1) : txL q = sgL q.num ++ 47 :: dgL q.den := by unfold sgL txL; rw [if_neg h]
private theorem sg_nat (n : Nat) : sgL (n : Int) = dgL n := by unfold sgL; rw [if_neg (by omega), Int.natAbs_natCast]; rfl
noncomputable def gShow : List D → (D → Prop) → Prop := fun ds P => ∃ q : Rat, ds = [frD q] ∧ SmR 1000 q ∧ P (.str (st (txL q)))
noncomputable abbrev s_show : Stmt := top 10
private theorem sc_show : FnScope ["q"] ["q"] (defScope s_show) := ⟨rfl, rfl, rfl, by decide +kernel, rfl, by decide +kernel, by decide +kernel⟩
private theorem h_show (B : Bl mg) (F : Def K mg "show" s_show ["q"]) (F_figures : Has P w K mg base CX0 1 "figures" ["number"] (spW K (pur gFig))) : Has P w K mg base CX0 2 "show" ["q"] (spW K (pur gShow)) := by
  refine F.hasP sc_show (fun ds P h => by obtain ⟨q, rfl, _⟩ := h; rfl) fun f cdv A outer s H E hr => ?_
  have nd := sc_show.nd
  refine ⟨_, (jss_cons (js_if (jt_eq hr (j_atV 0 j_int) j_int) (jss_one (js_ret (j_h F_figures (hr.mono (by decide)) rfl (ja_cons (j_atV 0 j_int) ja_nil)))) jss_nil)
    (jss_one (js_ret (j_catS (j_catS (j_h F_figures (hr.mono (by decide)) rfl (ja_cons (j_atV 0 j_int) ja_nil)) j_str) (j_h F_figures (hr.mono (by decide)) rfl (ja_cons (j_atV 0 j_int) ja_nil)))))), ?_⟩
  rintro ds M Q ⟨q, rfl, sq, k⟩
  have l1 := sg_len sq.1
  have l2 := sg_len sq.2
  refine ⟨by show 0 ≤ 60; decide, ?_⟩
  show if ((q.den : Int) == 1) = true then _ else _
  refine iteB (fun c => ?_) (fun c => ?_)
  · have c : (q.den : Int) = 1 := by simpa using c
    refine ⟨q.num, rfl, sq.1, _, Sub.refl _, ?_⟩
    rw [← tx_num (by omega)]
    exact k
  · have c : ¬ (q.den : Int) = 1 := by simpa using c
    refine ⟨q.num, rfl, sq.1, ?_, q.den, rfl, sq.2, ?_, _, Sub.refl _, ?_⟩
    · rw [e47, st_len, st_len]; exact sz5 (by show _ + 1 ≤ 5000; omega)
    · rw [e47, st_app, st_len, st_len, List.length_append]; exact sz5 (by show _ + 1 + _ ≤ 5000; omega)
    · rw [e47, st_app, st_app, List.append_assoc, sg_nat]
      show Q (.str (st (sgL q.num ++ 47 :: dgL q.den))) M
      rw [← tx_frac (by omega)]
      exact k
private theorem e32 : Str.ofString " " = st [32] := by rw [PySem.Str.ofString_eq_toList]; rfl
private theorem enone : Str.ofString "none" = st [110, 111, 110, 101] := by rw [PySem.Str.ofString_eq_toList]; rfl
private theorem tx_len {q : Rat} (h : SmR 1000 q) : (txL q).length ≤ 2010 := by
  have l1 := sg_len h.1
  have l2 := sg_len h.2
  rw [sg_nat] at l2
  by_cases c : q.den = 1
  · rw [tx_num c]; omega
  · rw [tx_frac c, List.length_append, List.length_cons]; omega

/-! ### readings in which anything may be refused: the def's first frame held fast -/
noncomputable def lfX (K : PySem.W.Frag) (Z0 F0 : Hp) (f : WE) : TE := fun σ H Q => ∃ F ρ M P, Same F0 F ∧ Ag K Z0 F M H ρ σ ∧ f ρ M P ∧ ∀ v H' F' d ρ' M', Same F F' → Ag K Z0 F' M' H' ρ' σ → Rp K F' d v → P d ρ' M' → Q v H'
noncomputable def lfAX (K : PySem.W.Frag) (Z0 F0 : Hp) (f : WA) : TA := fun σ H Q => ∃ F ρ M P, Same F0 F ∧ Ag K Z0 F M H ρ σ ∧ f ρ M P ∧ ∀ vs H' F' ds ρ' M', Same F F' → Ag K Z0 F' M' H' ρ' σ → Rps K F' ds vs → P ds ρ' M' → Q vs H'
noncomputable def lfSX (K : PySem.W.Frag) (Z0 F0 : Hp) (f : WS) : TS := fun D' σ H => ∃ F ρ M E, Same F0 F ∧ Ag K Z0 F M H ρ σ ∧ f E ρ M ∧ EndsOk K Z0 F E D'
structure XEj (X : Cx) (Z0 F0 : Hp) (e : Expr) (f : WE) : Prop where
  h : PE X e (lfX X.K Z0 F0 f)
structure XAj (X : Cx) (Z0 F0 : Hp) (es : List Expr) (f : WA) : Prop where
  h : PA X es (lfAX X.K Z0 F0 f)
structure XS (X : Cx) (Z0 F0 : Hp) (st : Stmt) (f : WS) : Prop where
  h : PS X st (lfSX X.K Z0 F0 f)
structure XSs (X : Cx) (Z0 F0 : Hp) (st : List Stmt) (f : WS) : Prop where
  h : PSs X st (lfSX X.K Z0 F0 f)
section
variable {X : Cx} {Z0 F0 : Hp} {e c : Expr} {es : List Expr} {st : Stmt} {sts sa sb : List Stmt} {fe : WE} {fl : WA} {ft : WT} {fs gs : WS} {pos pos' np mp cpos p : Pos} {x f : Str} {i k : Nat} {ps : List Str}
private theorem jt_nox {X : Cx} {e : Expr} {G : WT} (h : JT X.nox e G) : JT X e G := ⟨h.h.nox⟩
private theorem js_nox {X : Cx} {s : Stmt} {G : WS} (h : JS X.nox s G) : JS X s G := ⟨fun pins s σ H D I hw => wpAny_mono (h.h pins s σ H D (I.wish _) hw) (fun _ _ q => q.unwish) fun _ _ z => False.elim z⟩
private theorem jss_nox {X : Cx} {ss : List Stmt} {G : WS} (h : JSs X.nox ss G) : JSs X ss G := ⟨h.h.nox⟩
private theorem ja_nox {X : Cx} {es : List Expr} {G : WA} (h : JA X.nox es G) : JA X es G := ⟨fun pos pins s σ H Q I hw => wpAny_mono (h.h pos pins s σ H Q (I.wish _) hw) (fun _ _ ⟨v, H', I', r, q⟩ => ⟨v, H', I'.unwish, r, q⟩) fun _ _ z => False.elim z⟩
private theorem xa_of (h : JA X es fl) : XAj X Z0 F0 es fl := ⟨imA h.h fun σ H Q ⟨F, ρ, M, P, _, ag, hf, k⟩ => ⟨Z0, F, ρ, M, P, ag, hf, k⟩⟩
private theorem xs_of (h : JS X st fs) : XS X Z0 F0 st fs := ⟨imS h.h fun D' σ H ⟨F, ρ, M, E, _, ag, hf, k⟩ => ⟨Z0, F, ρ, M, E, ag, hf, k⟩⟩
private theorem xss_of (h : JSs X sts fs) : XSs X Z0 F0 sts fs := ⟨imSs h.h fun D' σ H ⟨F, ρ, M, E, _, ag, hf, k⟩ => ⟨Z0, F, ρ, M, E, ag, hf, k⟩⟩
private theorem xa_cons (ha : XEj X Z0 F0 e fe) (hr : XAj X Z0 F0 es fl) (hs : starEach (e :: es) X.env = (false, eval e X.env) :: starEach es X.env := by rfl) : XAj X Z0 F0 (e :: es) (wCons fe fl) := ⟨imA (pa_cons ha.h hr.h hs) fun σ H Q ⟨F, ρ, M, P, s0, ag, hf, k⟩ =>
  ⟨F, ρ, M, _, s0, ag, hf, fun v H1 F1 d1 ρ1 M1 s1 ag1 r1 h1 => ⟨F1, ρ1, M1, _, s0.trans s1, ag1, h1, fun vs H2 F2 ds ρ2 M2 s2 ag2 r2 h2 => k _ H2 F2 _ ρ2 M2 (s1.trans s2) ag2 (.cons (r1.same s2) r2) h2⟩⟩⟩
private theorem xe_tup {x1} (h : XAj X Z0 F0 es fl) : XEj X Z0 F0 (.Tuple es x1 pos) (wTup fl) := ⟨imE (pe_tup h.h) fun σ H Q ⟨F, ρ, M, P, s0, ag, hf, k⟩ => ⟨F, ρ, M, _, s0, ag, hf, fun vs H1 F1 ds ρ1 M1 s1 ag1 r1 h1 => by
  refine ⟨by rw [← r1.length]; exact h1.1, fun p hp => ?_⟩
  have s2 : Same F1 (upd F1 p (.tup vs)) := Same.new (sub_none ag1.m.sm hp)
  exact k _ _ (upd F1 p (.tup vs)) _ ρ1 M1 (s1.trans s2) (ag1.new hp) (by rw [Rp]; exact ⟨p, vs, rfl, SqT.of upd_same, r1.same s2⟩) h1.2⟩⟩
private theorem xs_ret (h : XEj X Z0 F0 e fe) : XS X Z0 F0 (.Return (some e) pos) (wRet fe) := ⟨imS (ps_ret h.h) fun D' σ H ⟨F, ρ, M, E, s0, ag, hf, k⟩ => ⟨F, ρ, M, _, s0, ag, hf, fun v H' F' d ρ' M' s' ag' r h => k.rt v H' F' (.d d) M' s' ag'.m (by rw [RU]; exact r) h⟩⟩
private theorem xs_set (hN : X.N.Nodup) (hi : X.N[i]? = some x) (hx : Loc X.env.scope x) (he : XEj X Z0 F0 e fe) (hs : swapsWith e (some (.Name x pos')) pos.line X.env = pure false := by rfl) (hf : X.fn x = true ∨ X.env.scope.names.lookup x = some .local := by first | exact .inl rfl | exact .inr rfl | assumption) :
    XS X Z0 F0 (.Assign [.Name x pos'] e pos) (wSet i fe) := ⟨imS (ps_set hN hi hx he.h hs hf) fun D' σ H ⟨F, ρ, M, E, s0, ag, hf, k⟩ => ⟨F, ρ, M, _, s0, ag, hf, fun v H' F' d ρ' M' s' ag' r h => k.nx _ H' F' _ M' s' (ag'.set r) h⟩⟩
private theorem xss_one (h : XS X Z0 F0 st fs) : XSs X Z0 F0 [st] fs := ⟨pss_one h.h⟩
private theorem xss_cons (h : XS X Z0 F0 st fs) (h2 : XSs X Z0 F0 sts gs) : XSs X Z0 F0 (st :: sts) (wSeq fs gs) := ⟨imSs (pss_cons h.h h2.h) fun D' σ H ⟨F, ρ, M, E, s0, ag, hf, k⟩ =>
  ⟨F, ρ, M, _, s0, ag, hf, ⟨fun σ' H' F' ρ' M' s' ag' h => ⟨F', ρ', M', E, s0.trans s', ag', h, k.mono s'⟩, k.bk, k.ct, k.rt⟩⟩⟩
private theorem xs_if (hc : JT X c ft) (ha : XSs X Z0 F0 sa fs) (hb : XSs X Z0 F0 sb gs) : XS X Z0 F0 (.If c sa sb pos) (wIf ft fs gs) := ⟨imS (ps_if hc.h ha.h hb.h) fun D' σ H ⟨F, ρ, M, E, s0, ag, hf, k⟩ => ⟨Z0, F, ρ, M, _, ag, hf, fun b H' F' ρ' M' s' ag' h => by
  cases b with
  | true => rw [if_pos rfl] at h ⊢; exact ⟨F', ρ', M', E, s0.trans s', ag', h, k.mono s'⟩
  | false => rw [if_neg Bool.false_ne_true] at h ⊢; exact ⟨F', ρ', M', E, s0.trans s', ag', h, k.mono s'⟩⟩⟩
noncomputable def wRaise (XR : Mm → Prop) : WS := fun _ _ M => XR M
private theorem xs_raise {XR : Mm → Prop} {C : Addr} {R : XK} {msg : Str} {j : Nat} (hx : ∀ H' F' M', Same F0 F' → AgM X.K Z0 F' M' H' → XR M' → ∀ a, H' a = none → R (.ref C) (some a) H') (ar : Arr X fun _ => R) (hg : Gl X x) (hm : X.mg x = some (.ref C)) (q : PySem.W.excIn X.K C mroVE "ValueError.__new__" = true) (hc : X.calm = true := by rfl) (hdb : (x == ("__debug__" : Str)) = false := by decide) :
    XS X Z0 F0 (.Raise (some (.Call (.Name x np) [.Constant (.str msg) j mp] [] cpos)) none pos) (wRaise XR) := ⟨imS (ps_raise hg hm q ar (pa_cons pe_str pa_nil) (hc := hc) (hdb := hdb)) fun D' σ H ⟨F, ρ, M, E, s0, ag, hf, k⟩ => ⟨by show 1 ≤ sizeLine; decide, fun a ha => hx H F M s0 ag.m hf a ha⟩⟩
noncomputable def wFnX (XR : Mm → Prop) (g : List D → (Option D → Prop) → Prop) (fl : WA) : WE := fun ρ M P => fl ρ M fun ds ρ1 M1 => g ds fun o => match o with
  | some d => P d ρ1 M1
  | none => XR M1
private theorem xe_h {XR : Mm → Prop} {C : Addr} {R : XK} {g : List D → (Option D → Prop) → Prop} (F : Has X.prog X.w X.K X.mg X.base (CX1 X.prog X.w) k f ps (spE X.K C g)) (hx : ∀ H' F' M', Same F0 F' → AgM X.K Z0 F' M' H' → XR M' → ∀ a, H' a = none → R (.ref C) (some a) H') (ar : Arr X fun _ => R) (hr : Room k X.A) (hg : Gl X f) (ha : XAj X Z0 F0 (e :: es) fl)
    (hdb : (f == ("__debug__" : Str)) = false := by decide) (he : starEach (e :: es) X.env = (false, eval e X.env) :: starEach es X.env := by rfl) (hpl : (backTo pos (starEach es X.env)).any (·.1) = false := by rfl) : XEj X Z0 F0 (.Call (.Name f p) (e :: es) [] pos) (wFnX XR g fl) :=
  ⟨imE (pe_hX F hr hg ar ha.h hdb he hpl) fun σ H Q ⟨F, ρ, M, P, s0, ag, hf, k⟩ => ⟨F, ρ, M, _, s0, ag, hf, fun vs H1 F1 ds ρ1 M1 s1 ag1 r1 h1 =>
    ⟨_, F1, M1, ds, _, ag1.m.inner, r1, h1, fun v H' F' d s' m' r p => k v H' F' d ρ1 M1 (s1.trans s') (ag1.back s' m') r p, fun a H' F' s' m' ha p => hx H' F' M1 (s0.trans (s1.trans s')) (ag1.back s' m').m p a ha⟩⟩⟩
private theorem xs_expr (h : XEj X Z0 F0 e fe) (hs : swapsWith e none pos.line X.env = pure false := by rfl) : XS X Z0 F0 (.Expr e pos) (wDrop fe) := ⟨imS (ps_expr h.h hs) fun D' σ H ⟨F, ρ, M, E, s0, ag, hf, k⟩ => ⟨F, ρ, M, _, s0, ag, hf, fun v H' F' d ρ' M' s' ag' r h => k.nx σ H' F' ρ' M' s' ag' h⟩⟩
private theorem xe_callTy {T : String} {r : List V → Hp → VK → Prop} {R : List D → (D → Prop) → Prop} (hc : CallR X (.type T) r) (w : CaW X r R) (hg : Gl X x) (hm : X.mg x = none) (hv : bootBuiltins x = some (.type T)) (ha : XAj X Z0 F0 (e :: es) fl) (hn : x ≠ "__name__" := by decide) (hdb : (x == ("__debug__" : Str)) = false := by decide)
    (he : starEach (e :: es) X.env = (false, eval e X.env) :: starEach es X.env := by rfl) (hpl : (backTo pos (starEach es X.env)).any (·.1) = false := by rfl) : XEj X Z0 F0 (.Call (.Name x p) (e :: es) [] pos) (wCall R fl) :=
  ⟨imE (pe_callTy hc hg hm hv ha.h hn hdb he hpl) fun σ H Q ⟨F, ρ, M, P, s0, ag, hf, k⟩ => ⟨F, ρ, M, _, s0, ag, hf, fun vs H1 F1 ds ρ1 M1 s1 ag1 r1 h1 => w ds vs F1 H1 Q _ ag1.m.sm r1 h1 fun d v F' H' g r h => k v H' F' d ρ1 M1 (s1.trans (g.same ag1.m.sm)) (g.ag ag1) r h⟩⟩
end
private theorem hasXE {P : Program} {w : World} {K : PySem.W.Frag} {mg : Str → Option Value} {base : Heap} {k : Nat} {x : Str} {st : Stmt} {N ps : List Str} {C : Addr} {g : List D → (Option D → Prop) → Prop} (F : Def K mg x st ps) (sc : FnScope N ps (defScope st)) (len : ∀ ds P, g ds P → ds.length = ps.length)
    (hbody : ∀ (f : Addr) (cdv : Value) (A : Around) (outer : List Env) (s : Shared) (H : Hp) (E : XK) (Z F0 : Hp) (M : Mm) (ds : List D) (Q : Option D → Prop), Room k (A.deeper (envOfC x (defScope st) s.heap.objs.size f cdv)) → g ds Q →
      (∀ H' F' M', Same F0 F' → AgM K Z F' M' H' → (Sub M M' ∧ Q none) → ∀ a, H' a = none → E (.ref C) (some a) H') →
      ∃ G, XSs (cxOf (CX1 P w) P w K mg base N x (defScope st) f cdv A outer s H E) Z F0 (defBody st) G ∧ G ⟨fun _ M' => Sub M M' ∧ Q (some .non), rtD fun d M' => Sub M M' ∧ Q (some d), fun _ _ => False, fun _ _ => False⟩ (startR N ds) M) : Has P w K mg base (CX1 P w) (k + 1) x ps (spE K C g) := by
  refine F.hasX sc (fun vs H Q E h => ?_) fun f cdv A outer s H vs Q E hr h => ?_
  · obtain ⟨Z, F', M, ds, P, m, r, hg, _⟩ := h
    rw [← r.length]
    exact len ds P hg
  · obtain ⟨Z, F', M, ds, P', m, r, hg, kq, ke⟩ := h
    obtain ⟨G, hG, hh⟩ := hbody f cdv A outer s H E Z F' M ds P' hr hg fun H' F2 M' s2 m2 h2 a ha => ke a H' F2 s2 (m2.sub h2.1) ha h2.2
    refine ⟨_, hG.h, F', startR N ds, M, _, Same.refl _, ag_start N m r, hh, ⟨fun σ' H' F2 ρ' M' s' ag' q => kq .non H' F2 .non s' (ag'.m.sub q.1) (by rw [Rp]) q.2, fun _ _ _ _ _ _ _ q => q.elim, fun _ _ _ _ _ _ _ q => q.elim, fun v H' F2 u M' s' m' r' q => ?_⟩⟩
    obtain ⟨d, r', hs, q⟩ := rtD_of (M := M') (q := fun d M' => Sub M M' ∧ P' (some d)) q r'
    exact kq v H' F2 d s' (m'.sub hs) r' q

/-! ### list comprehensions whose element may be refused -/
noncomputable abbrev xeE (X : Cx) (xe : Value → Shared → Prop) : Cx := { X with xe := xe }
section
variable {X : Cx} {pins : List (Addr × Obj)} {σ : L2.St} {H : Hp} {s : Shared}
private theorem inv_xe {xe : Value → Shared → Prop} (I : Inv X pins σ H s) : Inv (xeE X xe) pins σ H s :=
  ⟨⟨I.ok.mod, I.ok.kind, I.ok.glob, I.ok.blt, I.ok.above, I.ok.inj, I.ok.has, I.ok.cab, I.ok.hd, I.ok.frames, I.ok.stk, I.ok.exf, I.ok.bs, I.ok.bsz, I.ok.noex, I.ok.exfs, I.ok.funs, I.ok.frf⟩, I.os, I.bare, I.base, I.loc, I.cell, I.free, I.freeC, I.pin, I.hok, I.len⟩
private theorem inv_unxe {xe : Value → Shared → Prop} (I : Inv (xeE X xe) pins σ H s) : Inv X pins σ H s :=
  ⟨⟨I.ok.mod, I.ok.kind, I.ok.glob, I.ok.blt, I.ok.above, I.ok.inj, I.ok.has, I.ok.cab, I.ok.hd, I.ok.frames, I.ok.stk, I.ok.exf, I.ok.bs, I.ok.bsz, I.ok.noex, I.ok.exfs, I.ok.funs, I.ok.frf⟩, I.os, I.bare, I.base, I.loc, I.cell, I.free, I.freeC, I.pin, I.hok, I.len⟩
end
private theorem flies_back {h h' : Heap} {e C T : Addr} (fl : Flies h e C (some T)) (k : ∀ b o, b = e ∨ b = T → h.get? b = some o → h'.get? b = some o) : Flies h' e C (some T) := by
  obtain ⟨⟨oe, vs, he, r⟩, tr⟩ := fl
  obtain ⟨n, oT, ts, hT, dT, z⟩ := tr T rfl
  refine ⟨⟨oe, vs, k _ _ (.inl rfl) he, r⟩, fun T' e' => ?_⟩
  cases e'
  exact ⟨n, oT, ts, k _ _ (.inr rfl) hT, dT, z⟩
noncomputable def freedO : Obj := { cls := .type "list", dict := none, data := .freed }
private theorem get_freed {h : Heap} {C : Addr} : (h.update C fun _ => freedO).get? C = none := by
  unfold Heap.get? Heap.update
  simp only [Array.getElem?_modify]
  cases h.objs[C]? <;> simp [freedO]
private theorem arr_comp {X : Cx} {pins : List (Addr × Obj)} {σ : L2.St} {H2 : Hp} {s2 : Shared} {scope : Scope} {N : List Str} {C : Addr} {fp : List Addr} {R : L2.St → XK} {RE : Value → Shared → Prop} (I : Inv X pins σ H2 s2) (hf : ∀ b ∈ fp, FpOk X pins H2 b) (ar : Arr X R)
    (hst : X.stack = X.env :: X.outer) (hfr : X.env.frame = some X.env.locals) (hC : s2.heap.objs.size ≤ C) (use : Option (Value → Sem Unit)) (Q : Value → Shared → Prop) (acc : Value)
    (hRE : ∀ x s', compPost (model X.prog X.w) X.A X.xe use Q acc C (.error x) s' → RE x s') :
    Arr (xeE (cxComp X pins s2 H2 N scope C fp) (notedBy (model X.prog X.w) X.A (compEnvC scope (clOf X.env scope.names []) C X.env) RE)) (fun _ => R σ) := by
  intro pins' σ' H H' s s' a C0 tb I' y hR
  have J := inv_unxe I'
  have I1 := comp_out I hf J
  have y : Lay X.prog X.w X.stack H H' s s' a C0 tb := y
  have fu := I1.stack
  have sf := I1.stkFree
  have fr := I1.ok.frames
  have yf := y.funs fu sf
  obtain ⟨m, ⟨oC, es, ep, hoC, hdC, hk, hm⟩, _⟩ := J.loc
  have hoC : s.heap.get? C = some oC := hoC
  have hHC : H C = none := J.free
  have fC := I.fpOk (H' := H) hC hHC
  have hCs : C ∉ frs X.stack := fpOk_stk I fC
  show wpAny (model X.prog X.w) X.A (noteFrame (.ref a) (compEnvC scope (clOf X.env scope.names []) C X.env)) (fun _ s'' => RE (.ref a) s'') RE s'
  have eN : noteFrame (.ref a) (compEnvC scope (clOf X.env scope.names []) C X.env) = noteFrame (.ref a) X.env := rfl
  rw [eN]
  rw [hst] at fr yf
  refine note1 fr yf hfr y.fl fun h' T hT fl kp => ?_
  rw [← hst] at kp
  have y' := y.noted fu sf hT fl kp
  have hT0 := y'.nS T rfl
  have hTC : C ≠ T := Nat.ne_of_lt (hT0 C oC hoC)
  have haC : a ≠ C := fun z => by have := y'.fa; rw [z, hoC] at this; cases this
  have hC' : h'.get? C = some oC := y'.un.keep C oC hoC hHC hCs (by simp)
  refine hRE _ _ ⟨m, ⟨oC, es, ep, hC', hdC, hk, hm⟩, fun h2 hs cenv hc => ?_⟩
  have k2 : ∀ b o, b ≠ C → h'.get? b = some o → h2.get? b = some o := fun b o hb q => (hs.2 b hb).trans q
  have fl2 : Flies h2 a C0 (some T) := flies_back fl fun b o hb q => k2 b o (by rcases hb with rfl | rfl; exact haC; exact Ne.symm hTC) q
  obtain ⟨⟨oe, vs, he, _, _, hd, h1, _⟩, _⟩ := id fl2
  unfold PySem.passOn
  refine wpAny_bind (wpAny_field he hd h1 ?_)
  dsimp only
  rw [if_neg (by simp)]
  refine wpAny_bind (flight_ok fl2 fun h3 fl3 k3 z3 => ?_)
  have no : ∀ b o, (s.heap.update C fun _ => freedO).get? b = some o → b ≠ C ∧ s.heap.get? b = some o := fun b o q => by
    by_cases hb : b = C
    · rw [hb, get_freed] at q; cases q
    · rw [Heap.get?_update_other _ _ (Ne.symm hb)] at q; exact ⟨hb, q⟩
  have up : ∀ b o, b ≠ C → b ≠ T → h'.get? b = some o → h3.get? b = some o := fun b o h1 h2 q => k3 b o h2 (k2 b o h1 q)
  obtain ⟨f0, f1, f2, f3, f4, f5⟩ := fC
  have It : Inv X pins σ H { s with heap := s.heap.update C fun _ => freedO, toks := s.toks } := I1.turned (fun b o hb q => (Heap.get?_update_other _ _ (Ne.symm hb)).trans q) f0 f1 f3 f4 f5
  have yt : Lay X.prog X.w X.stack H H' { s with heap := s.heap.update C fun _ => freedO } { s' with heap := h3 } a C0 (some T) := by
    refine ⟨y'.os, y'.bare, ⟨fun b o q n hb hx => ?_, fun b o q n hb hx => ?_, fun b o q n hx => ?_, fun b o q hx => ?_, y'.un.tups, y'.un.frzs, y'.un.tbls⟩, fun b o q => ?_, y'.na, fun T' z => ?_, ?_, fl3, fun T' z b o q => ?_⟩
    · obtain ⟨q1, q2⟩ := no b o q
      exact up b o q1 (Nat.ne_of_lt (hT0 b o q2)) (y'.un.keep b o q2 n hb hx)
    · obtain ⟨q1, q2⟩ := no b o q
      obtain ⟨sl, q3⟩ := y'.un.slot b o q2 n hb hx
      exact ⟨sl, up b _ q1 (Nat.ne_of_lt (hT0 b o q2)) q3⟩
    · exact y'.un.free b o (no b o q).2 n hx
    · obtain ⟨q1, q2⟩ := no b o q
      obtain ⟨o', q3⟩ := y'.un.there b o q2 hx
      exact ⟨o', up b o' q1 (Nat.ne_of_lt (hT0 b o q2)) q3⟩
    · have hC1 : H' C = none := y'.un.free C oC hoC hHC (by simp)
      have hT1 := (y'.nT T rfl).1
      refine (y'.hok b o q).stay (fun c u hc z => ?_) (fun _ z => z) fun _ _ z => z
      have : ∃ u', H' c = some u' := by
        rcases hc with rfl | hc
        · exact ⟨o, q⟩
        · exact ⟨_, hc⟩
      obtain ⟨u', hu⟩ := this
      exact up c u (fun x => by rw [x, hC1] at hu; cases hu) (fun x => by rw [x, hT1] at hu; cases hu) z
    · cases z
      refine ⟨(y'.nT T rfl).1, ?_⟩
      show (s.heap.update C fun _ => freedO).get? T = none
      rw [Heap.get?_update_other _ _ hTC]
      exact (y'.nT T rfl).2
    · show (s.heap.update C fun _ => freedO).get? a = none
      rw [Heap.get?_update_other _ _ (Ne.symm haC)]
      exact y'.fa
    · cases z
      exact hT0 b o (no b o q).2
  have fin := ar pins σ H H' _ _ a C0 (some T) It yt hR
  exact wpAny_throw fin
private theorem comp_loopX {prog : Program} {w : World} {A : Around} {R : Result → Shared → Prop} {s : Shared} {elt target iter : Expr} {ifs : List Expr} {scope : Scope} {pos : Pos} {it acc : Value} {env : Env} (J : Nat → Shared → Prop)
    (turn : ∀ n s, J n s → wpAny (model prog w) A (pyNext it) (fun r s1 => match r with
      | none => R (.ok .next) s1
      | some v => wpAny (model prog w) A (letOwnedTupleGo target it v) (fun _ s2 => wpAny (model prog w) A (assign target env v) (fun _ s3 =>
          wpAny (model prog w) A (forIn ifs true fun c r => if r = true then do let ok ← isTrue c env (eval c env); pure (ForInStep.yield ok) else pure (ForInStep.yield r)) (fun ok s4 =>
            if ok = true then wpAny (model prog w) A (eval elt env) (fun x s5 => wpAny (model prog w) A (call (.builtin "list.append") [acc, x]) (fun _ s6 => ∃ m, m < n ∧ J m s6) (fun _ _ => False) s5) (notedBy (model prog w) A env fun e s' => R (.error e) s') s4
            else ∃ m, m < n ∧ J m s4) (fun _ _ => False) s3) (fun _ _ => False) s2) (fun _ _ => False) s1) (fun _ _ => False) s)
    (n : Nat) (h : J n s) : codeAny (model prog w) A (.compLoop (.ListComp elt [⟨target, iter, ifs, 0⟩] scope pos) 0 it acc env) R s := by
  refine codeAny_loop rfl J (fun n s hJ => ?_) n h
  show wpAny (model prog w) A ((compTurn (.ListComp elt [⟨target, iter, ifs, 0⟩] scope pos) 0 it acc env).onRaise (fun x => do noteFrame x env; theTreesLotGoes x)) _ _ s
  refine wpAny_noted ?_
  rw [compTurn_list]
  refine wpAny_bind (wpAny_standAt (wpAny_bind (wpAny_mono (turn n s hJ) (fun r s1 h1 => ?_) fun _ _ z => z.elim)))
  cases r with
  | none => exact wpAny_pure h1
  | some v =>
    refine wpAny_bind (wpAny_mono h1 (fun _ s2 h2 => wpAny_bind (wpAny_mono h2 (fun _ s3 h3 => wpAny_bind (wpAny_mono h3 (fun ok s4 h4 => ?_) fun _ _ z => z.elim)) fun _ _ z => z.elim)) fun _ _ z => z.elim)
    cases ok with
    | false => exact wpAny_pure ⟨rfl, h4⟩
    | true => exact wpAny_bind (wpAny_bind (wpAny_mono h4 (fun x s5 h5 => wpAny_bind (wpAny_mono h5 (fun _ s6 h6 => wpAny_pure (wpAny_pure ⟨rfl, h6⟩)) fun _ _ z => z.elim)) fun _ _ z => z))

private theorem comp_coreX {Y : Cx → Prop} {X : Cx} {pins : List (Addr × Obj)} {σ : S} {H2 : Hp} {s2 : Shared} {scope : Scope} {N : List Str} {src : List (Option Nat)} {fp : List Addr} {it : Addr} {tn : Nat → Heap → Prop} {J : It} {tg elt iter : Expr} {ifs : List Expr} {pos : Pos} {g : TG} {tc : TT} {te : TE} {Q : VK}
    {E : Value → Shared → Prop} {RR : Value → Addr → Result → Shared → Prop}
    (ok : CompOk X scope N src) (hY : ∀ C, Y (cxComp X pins s2 H2 N scope C fp)) (I : Inv X pins σ H2 s2) (T : TurnY Y X.prog X.w X.K tg J fp it tn) (st : tn 0 s2.heap) (hf : ∀ b ∈ fp, FpOk X pins H2 b)
    (hg : ∀ C, PG (cxComp X pins s2 H2 N scope C fp) tg g) (hc : ∀ C, PIfs (cxComp X pins s2 H2 N scope C fp) ifs tc) (he : ∀ C, s2.heap.objs.size ≤ C → ∀ acc, PE (xeE (cxComp X pins s2 H2 N scope C fp) (notedBy (model X.prog X.w) X.A (compEnvC scope (clOf X.env scope.names []) C X.env) fun x s' => RR acc C (.error x) s')) elt te)
    (h : ∀ D, H2 D = none → CompG J g tc te D (ini src σ) (upd H2 D (.lst [])) (Q (.ref D)))
    (hRR : ∀ D C s' H', FpOk X pins H' C → (∃ m, s'.heap.Ns C m) → Inv X pins σ H' s' → Q (.ref D) H' → RR (.ref D) C (.ok .next) s') :
    wpAny (model X.prog X.w) X.A (newList []) (fun acc s3 => wpAny (model X.prog X.w) X.A (newFunctionEnv scope X.env.globals (clOf X.env scope.names []) [] X.env.qual none .none (some X.env)) (fun cenv s4 =>
      codeAny (model X.prog X.w) X.A (.compStart (.ListComp elt [⟨tg, iter, ifs, 0⟩] scope pos) 0 (.ref it) acc { cenv with scope := relabel scope X.env }) (RR acc cenv.locals) s4) E s3) E s2 := by
  refine wpAny_newObj_type (wpAny_newFunctionEnv ok.ncell (by intro y hy; simp at hy) (fun h1 hns1 hsb1 => ?_) ok.kind)
  have hfo : ∀ b ∈ fp, ∃ o, s2.heap.get? b = some o := fun b hb => let ⟨o, e, _⟩ := T.obj 0 _ st b hb; ⟨o, e⟩
  have hpush : (s2.heap.push { cls := .type "list", dict := none, data := .seq ([] : List Value).toArray }).objs.size = s2.heap.objs.size + 1 := Heap.size_push ..
  generalize hH : s2.heap.push { cls := .type "list", dict := none, data := .seq ([] : List Value).toArray } = hp at hns1 hsb1 hpush ⊢
  dsimp only at hns1 hsb1 ⊢
  have hD : s2.heap.objs.size ≤ s2.heap.objs.size := Nat.le_refl _
  have hC : s2.heap.objs.size ≤ hp.objs.size := by rw [hpush]; exact Nat.le_succ _
  have hCD : hp.objs.size ≠ s2.heap.objs.size := by rw [hpush]; exact Nat.succ_ne_self _
  have keep : ∀ b o, s2.heap.get? b = some o → h1.get? b = some o := fun b o e =>
    hsb1.extBut b o (Nat.ne_of_lt (Nat.lt_of_lt_of_le (Heap.lt_size e) hC)) (Heap.get?_push_of_some _ (hH ▸ Heap.get?_push_of_some _ e))
  have hnew : h1.get? s2.heap.objs.size = some { cls := .type "list", data := .seq #[] } :=
    hsb1.extBut _ _ (Ne.symm hCD) (Heap.get?_push_of_some _ (hH ▸ Heap.get?_push_size _ rfl))
  have hHD : H2 s2.heap.objs.size = none := I.hok.fresh hD
  obtain ⟨W, ⟨m0, w0⟩, turn⟩ := h _ hHD
  have I0 := comp_inv (t := s2.toks + ([] : List (Str × Value)).length) I ok hf hfo hD hC hCD keep hns1 hnew
  have f0 : ∀ b ∈ fp, upd H2 s2.heap.objs.size (.lst []) b = none := fun b hb => by
    obtain ⟨o, e⟩ := hfo b hb
    rw [upd_ne (Nat.ne_of_lt (Heap.lt_size e))]
    exact (hf b hb).1
  have st0 : tn 0 h1 := T.keep 0 _ _ st fun b _ o e => keep b o e
  have loop : codeAny (model X.prog X.w) X.A (.compLoop (.ListComp elt [⟨tg, iter, ifs, 0⟩] scope pos) 0 (.ref it) (.ref s2.heap.objs.size) (compEnvC scope (clOf X.env scope.names []) hp.objs.size X.env))
      (RR (.ref s2.heap.objs.size) hp.objs.size) { s2 with heap := h1, toks := s2.toks + ([] : List (Str × Value)).length } := by
    refine comp_loopX (fun n s => ∃ i σc Hc, Inv (cxComp X pins s2 H2 N scope hp.objs.size fp) [] σc Hc s ∧ tn i s.heap ∧ (∀ b ∈ fp, Hc b = none) ∧ W i n σc Hc) ?_ m0 ⟨0, _, _, I0, st0, f0, w0⟩
    rintro n s3 ⟨i, σ3, H3, I3, st3, fr3, w3⟩
    have fps := fun {Hc : Hp} (hn : ∀ b ∈ fp, Hc b = none) => fp_sub (N := N) I hf hfo hC ok.clos hn
    rcases turn i n σ3 H3 w3 with ⟨stop, qn⟩ | ⟨go, NN, hNN, step⟩
    · refine wpAny_mono (T.done (cxComp X pins s2 H2 N scope hp.objs.size fp) rfl rfl rfl (hY _) i [] s3 σ3 H3 (fun _ _ => False) I3 (fps fr3) st3 stop) (fun r s4 h4 => ?_) fun _ _ z => z
      obtain ⟨rfl, I4⟩ := h4
      have J4 := comp_out I hf I4
      obtain ⟨m4, n4, _⟩ := I4.loc
      exact hRR _ _ s4 H3 (I.fpOk hC I4.free) ⟨m4, n4⟩ J4 qn
    · refine wpAny_mono (T.item (cxComp X pins s2 H2 N scope hp.objs.size fp) rfl rfl rfl (hY _) i [] s3 σ3 H3 (fun _ _ => False) I3 (fps fr3) st3 go) (fun r s4 h4 => ?_) fun _ _ z => z
      obtain ⟨u, rfl, h4⟩ := h4
      refine wpAny_mono h4 (fun _ s5 h5 => ?_) fun _ _ z => z
      obtain ⟨x, H5, I5, r5, y5, st5, fr5⟩ := h5
      have I5' := I5.pinned (fps fr5) (T.obj _ _ st5)
      refine wpAny_mono (hg hp.objs.size _ s5 σ3 H5 x u _ I5' r5 (step x H5 y5)) (fun _ s6 h6 => ?_) fun _ _ z => z
      obtain ⟨σ6, H6, I6, q6⟩ := h6
      refine wpAny_mono (hc hp.objs.size _ s6 σ6 H6 _ I6 q6) (fun b s7 h7 => ?_) fun _ _ z => z
      obtain ⟨H7, I7, q7⟩ := h7
      have again : ∀ {s8 : Shared} {H8 : Hp}, Inv (cxComp X pins s2 H2 N scope hp.objs.size fp) ([] ++ pinsAt fp s5.heap) σ6 H8 s8 → NN σ6 H8 → ∃ m, m < n ∧ ∃ i σc Hc, Inv (cxComp X pins s2 H2 N scope hp.objs.size fp) [] σc Hc s8 ∧ tn i s8.heap ∧ (∀ b ∈ fp, Hc b = none) ∧ W i m σc Hc := fun {s8 H8} I8 q8 => by
        obtain ⟨m', hm, w8⟩ := hNN _ _ q8
        refine ⟨m', hm, i + 1, σ6, H8, I8.unpinned, T.keep _ _ _ st5 fun b hb o e => (I8.pin (b, o) (List.mem_append_right _ (List.mem_append_right _ (mem_pinsAt hb e)))).1, fun b hb => ?_, w8⟩
        obtain ⟨o, e, d⟩ := T.obj _ _ st5 b hb
        exact (I8.pin (b, o) (List.mem_append_right _ (List.mem_append_right _ (mem_pinsAt hb e)))).2.1
      cases b with
      | false =>
        rw [if_neg Bool.false_ne_true] at q7 ⊢
        exact again I7 q7
      | true =>
        rw [if_pos rfl] at q7 ⊢
        refine wpAny_mono (he hp.objs.size hC _ _ s7 σ6 H7 _ (inv_xe I7) q7) (fun yv s8 h8 => ?_) fun _ _ z => z
        obtain ⟨y, H8, I8', r8, ys, hys, hz, q8⟩ := h8
        have I8 := inv_unxe I8'
        refine wpAny_mono (mt_append (X := cxComp X pins s2 H2 N scope hp.objs.size fp) _ s8 σ6 H8 (.ref s2.heap.objs.size) [y] _ [yv] (fun _ H9 => NN σ6 H9) I8 rfl (.cons r8 .nil) ⟨_, ys, y, rfl, rfl, hys, hz, q8⟩) (fun _ s9 h9 => ?_) fun _ _ z => z
        obtain ⟨_, H9, I9, _, q9⟩ := h9
        exact again I9 q9
  exact codeAny_compStart_list loop (T.self _ _ _ _ _ st0 loop)

private theorem pe_compX {Y : Cx → Prop} {X : Cx} {scope : Scope} {tg elt iter : Expr} {ifs : List Expr} {pos : Pos} {wi : TI} {g : TG} {tc : TT} {te : XK → TE} {R : L2.St → XK} (N : List Str) (src : List (Option Nat)) (ok : CompOk X scope N src) (hY : ∀ pins s2 H2 C fp, Y (cxComp X pins s2 H2 N scope C fp)) (hi : PIY Y X tg iter wi)
    (hg : ∀ pins s2 H2 C fp, PG (cxComp X pins s2 H2 N scope C fp) tg g) (hc : ∀ pins s2 H2 C fp, PIfs (cxComp X pins s2 H2 N scope C fp) ifs tc) (he : ∀ pins s2 H2 C fp xe R', Arr (xeE (cxComp X pins s2 H2 N scope C fp) xe) (fun _ => R') → PE (xeE (cxComp X pins s2 H2 N scope C fp) xe) elt (te R')) (ar : Arr X R) (hst : X.stack = X.env :: X.outer := by rfl) (hfr : X.env.frame = some X.env.locals := by rfl)
    (hs : ∀ x, foldedSetIterable iter X.env x = pure x := by intro _; rfl) : PE X (.ListComp elt [⟨tg, iter, ifs, 0⟩] scope pos) (fun σ H Q => tComp wi g tc (te (R σ)) src σ H Q) := by
  intro pins s σ H Q I h
  rw [eval_ListComp]
  refine wpAny_comprehension_free (use := none) rfl hs (closure_of ok.clos) ok.kind ok.names (wpAny_mono (hi pins s σ H _ I h) (fun xv s1 h1 => wpAny_mono h1 (fun itv s2 h2 => ?_) fun _ _ e => e) fun _ _ e => e)
  obtain ⟨it, fp, tn, J, H2, rfl, I2, T, st2, f2, hh⟩ := h2
  refine comp_coreX (RR := fun acc C => compPost (model X.prog X.w) X.A X.xe none (EP X pins σ Q) acc C) ok (hY _ _ _ · _) I2 T st2 f2 (fun C => hg pins s2 H2 C fp) (fun C => hc pins s2 H2 C fp) (fun C hC acc => he pins s2 H2 C fp _ (R σ) (arr_comp I2 f2 ar hst hfr hC none (EP X pins σ Q) acc fun _ _ z => z)) hh ?_
  intro D C s' H' fC hns I' q
  obtain ⟨m, hm⟩ := hns
  refine ⟨m, hm, fun h' hs' => ?_⟩
  obtain ⟨f0, f1, f2, f3, f4, f5⟩ := fC
  exact ⟨.ref D, H', I'.turned (t' := s'.toks) (fun b o hb e => hs'.extBut b o hb e) f0 f1 f3 f4 f5, rfl, q⟩

noncomputable def HxR (K : PySem.W.Frag) (Z0 F0 : Hp) (R : XK) (Ca : Addr) (XR : Mm → Prop) : Prop := ∀ H' F' M', Same F0 F' → AgM K Z0 F' M' H' → XR M' → ∀ a, H' a = none → R (.ref Ca) (some a) H'
private theorem of_compR {K : PySem.W.Frag} {Z0 F0 : Hp} {R : XK} {XR : Mm → Prop} {Ca : Addr} {fi : WI} {fg : WG} {fc : WT} {fe : WE} {src : List (Option Nat)} {g : TG} {tc : TT} {te : TE}
    (hx : HxR K Z0 F0 R Ca XR) (hg : ∀ v σ H Q, lfG K fg v σ H Q → g v σ H Q) (hc : ∀ σ H Q, lfT K fc σ H Q → tc σ H Q) (he : ∀ Z1 F1, HxR K Z1 F1 R Ca XR → ∀ σ H Q, lfX K Z1 F1 fe σ H Q → te σ H Q) :
    ∀ σ H Q, lfX K Z0 F0 (wFz (wComp fi fg fc fe src)) σ H Q → tComp (lfI K fi) g tc te src σ H Q := fun σ H Q ⟨F, ρ, M, P, s0, ag, hf, k⟩ => ⟨Z0, F, ρ, M, _, ag, hf, fun J H1 F1 ds ρ1 M1 s1 ag1 it h1 D0 hD => by
  -- the new list at D0, the outer state as it was
  obtain ⟨In, i0, step, fin⟩ := h1
  obtain ⟨n1, n2, n3, n4, n5, n6, _⟩ := newN (ds := []) (vs := []) ag1 hD .nil
  refine ⟨fun i m σc Hc => m = ds.length - i ∧ i ≤ ds.length ∧ ∃ F' ρc M' out ws, Same F1 F' ∧ AgM K (Zof F1 M1 H1) F' M' Hc ∧ Hc D0 = some (.lst ws) ∧ F' D0 = none ∧ M' D0 = none ∧ Rps K F' out ws ∧
      Ag K (Zof F' M' Hc) F' M' Hc ρc σc ∧ In i out ρc M', ⟨_, rfl, Nat.zero_le _, F1, iniR src ρ1, M1, [], [], Same.refl _, ?_, n2, n3, n4, .nil, ?_, i0⟩, ?_⟩
  · refine ⟨n1.m.sm, fun p o h => ?_, n1.m.mo⟩
    obtain ⟨z1, z2, z3⟩ := zof_some h
    have : p ≠ D0 := fun z => by rw [z, hD] at z1; cases z1
    exact ⟨by rw [upd_ne this]; exact z1, z2, z3⟩
  · exact ag_ini src n1
  rintro i m σ2 H2 ⟨rfl, hi, F2, ρ2, M2, out, ws, s2, m2, d1, d2, d3, r2, ag2, h2⟩
  by_cases hl : i < ds.length
  · have e : ds[i]? = some ds[i] := List.getElem?_eq_getElem hl
    refine .inr ⟨it.go i F2 H2 hl s2 ag2.m.sm, fun σc Hc => ∃ F' ρc M' out ws, Same F1 F' ∧ AgM K (Zof F1 M1 H1) F' M' Hc ∧ Hc D0 = some (.lst ws) ∧ F' D0 = none ∧ M' D0 = none ∧ Rps K F' out ws ∧
      Ag K (Zof F' M' Hc) F' M' Hc ρc σc ∧ In (i + 1) out ρc M', fun σ' H' q => ⟨ds.length - (i + 1), by omega, rfl, hl, q⟩, fun x H' y => ?_⟩
    obtain ⟨F3, gw, r3⟩ := it.yld i _ F2 H2 x H' e s2 ag2.m.sm y
    have s3 := gw.same ag2.m.sm
    have zd : Zof F2 M2 H2 D0 = some (.lst ws) := zof_of d1 d2 d3
    refine hg _ _ _ _ ⟨Zof F2 M2 H2, F3, ρ2, M2, _, _, gw.ag ag2, r3, step i _ out ρ2 M2 e h2, fun σ4 H4 F4 ρ4 M4 s4 ag4 h4 => ?_⟩
    refine hc _ _ _ ⟨Zof F2 M2 H2, F4, ρ4, M4, _, ag4, h4, fun b H5 F5 ρ5 M5 s5 ag5 h5 => ?_⟩
    have s25 := s3.trans (s4.trans s5)
    dsimp only
    cases b with
    | false =>
      rw [if_neg Bool.false_ne_true] at h5 ⊢
      obtain ⟨z1, z2, z3⟩ := ag5.m.zz _ _ zd
      exact ⟨F5, clr ρ5, M5, out, ws, s2.trans s25, m2.back ag5.m, z1, z2, z3, Rps.same s25 r2, ag_clr ag5 ag5.m.inner, h5⟩
    | true =>
      rw [if_pos rfl] at h5 ⊢
      refine he (Zof F2 M2 H2) F5 (fun H' F' M' s' m' hr a ha => hx H' F' M' (s0.trans (s1.trans (s2.trans (s25.trans s')))) (ag1.back (s2.trans (s25.trans s')) (m2.back m')).m hr a ha) _ _ _ ⟨F5, ρ5, M5, _, Same.refl _, ag5, h5, fun v H6 F6 d ρ6 M6 s6 ag6 r6 h6 => ?_⟩
      obtain ⟨z1, z2, z3⟩ := ag6.m.zz _ _ zd
      have s26 := s25.trans s6
      have m6 := m2.back ag6.m
      have ne : ∀ {q : Addr} {u : HO}, F6 q = some u → q ≠ D0 := fun e z => by rw [z, z2] at e; cases e
      have nz : Zof F1 M1 H1 D0 = none := by
        cases q : Zof F1 M1 H1 D0 with
        | none => rfl
        | some o => have := (zof_some q).1; rw [hD] at this; cases this
      have up : ∀ {Z' : Hp}, (∀ p o, Z' p = some o → p ≠ D0) → AgM K Z' F6 M6 H6 → AgM K Z' F6 M6 (upd H6 D0 (.lst (ws ++ [v]))) := fun {Z'} hz a => ⟨fun q u e => by rw [upd_ne (ne e)]; exact a.sm q u e, fun q o e => by
          obtain ⟨y1, y2, y3⟩ := a.zz q o e
          exact ⟨by rw [upd_ne (hz q o e)]; exact y1, y2, y3⟩, fun q o e => by
          obtain ⟨y1, y2⟩ := a.mo q o e
          have : q ≠ D0 := fun z => by rw [z, z3] at e; cases e
          exact ⟨y1, y2.same (Same.refl _) (upd_ne this)⟩⟩
      have a6 := up (Z' := Zof F1 M1 H1) (fun p o e z => by rw [z, nz] at e; cases e) m6
      refine ⟨ws, z1, by rw [← Rps.length r2]; exact h6.1, F6, clr ρ6, M6, out ++ [d], ws ++ [v], s2.trans s26, a6, upd_same, z2, z3, (Rps.same s26 r2).append (.cons r6 .nil), ?_, h6.2⟩
      have b6 : Ag K (fun _ => none) F6 M6 H6 (clr ρ6) σ4 := ag_clr ag6 ⟨ag6.m.sm, fun p o e => (nomatch e), ag6.m.mo⟩
      have c6 : Ag K (fun _ => none) F6 M6 (upd H6 D0 (.lst (ws ++ [v]))) (clr ρ6) σ4 := by
        refine ⟨up (fun p o e => (nomatch e)) b6.m, b6.len, fun i e h => ?_, b6.di⟩
        have := b6.en i e h
        cases e with
        | un => trivial
        | sh d => exact this
        | rf p => exact this
        | ut u => exact this
        | ow ds' =>
          exfalso
          unfold clr at h
          rw [List.getElem?_map] at h
          cases q : ρ6[i]? with
          | none => rw [q] at h; cases h
          | some en => rw [q] at h; cases en <;> cases h
      have e6 := ag_clr c6 c6.m.inner
      have ce : clr (clr ρ6) = clr ρ6 := by
        unfold clr
        rw [List.map_map]
        congr 1
        funext en
        cases en <;> rfl
      rw [ce] at e6
      exact e6
  · have : i = ds.length := by omega
    subst this
    refine .inl ⟨it.stop F2 H2 s2 ag2.m.sm, ?_⟩
    have ag3 := ag1.back s2 m2
    have sn : Same F2 (upd F2 D0 (.lst ws)) := Same.new d2
    exact k _ H2 (upd F2 D0 (.lst ws)) _ ρ1 M2 ((s1.trans s2).trans sn) (fz_new ag3 d1 d2 d3 n5 n6) (by rw [Rp]; exact ⟨D0, ws, rfl, .inl upd_same, r2.same sn⟩) (fin out ρ2 M2 h2)⟩
private theorem xe_lc {X : Cx} {Z0 F0 : Hp} {R0 : XK} {XR : Mm → Prop} {Ca : Addr} {tg elt iter : Expr} {ifs : List Expr} {pos : Pos} {fi : WI} {fg : WG} {fc : WT} {fe : WE} {scope : Scope} (N : List Str) (src : List (Option Nat)) (hx : HxR X.K Z0 F0 R0 Ca XR) (ar : Arr X fun _ => R0) (ok : CompOk X scope N src) (hcalm : X.calm = true) (hi : JI X tg iter fi)
    (hg : ∀ pins s2 H2 C fp, JG (cxComp X pins s2 H2 N scope C fp) tg fg) (hc : ∀ pins s2 H2 C fp, JC (cxComp X pins s2 H2 N scope C fp) ifs fc) (he : ∀ pins s2 H2 C fp xe R' Z1 F1, Arr (xeE (cxComp X pins s2 H2 N scope C fp) xe) (fun _ => R') → HxR X.K Z1 F1 R' Ca XR → XEj (xeE (cxComp X pins s2 H2 N scope C fp) xe) Z1 F1 elt fe)
    (hs : ∀ x, foldedSetIterable iter X.env x = pure x := by intro _; rfl) (hst : X.stack = X.env :: X.outer := by rfl) (hfr : X.env.frame = some X.env.locals := by rfl) : XEj X Z0 F0 (.ListComp elt [⟨tg, iter, ifs, 0⟩] scope pos) (wFz (wComp fi fg fc fe src)) :=
  ⟨imE (pe_compX (te := fun R' σ H Q => ∃ Z1 F1, HxR X.K Z1 F1 R' Ca XR ∧ lfX X.K Z1 F1 fe σ H Q) N src ok (fun _ _ _ _ _ => hcalm) hi.h (fun a b c d e => (hg a b c d e).h) (fun a b c d e => (hc a b c d e).h) (fun a b c d e xe R' ar' pins s σ H Q I ⟨Z1, F1, hx', h⟩ => (he a b c d e xe R' Z1 F1 ar' hx').h pins s σ H Q I h) ar hst hfr hs)
    (of_compR hx (fun _ _ _ _ h => h) (fun _ _ _ h => h) fun Z1 F1 hx' σ H Q h => ⟨Z1, F1, hx', h⟩)⟩
private theorem xe_tuple {X : Cx} {Z0 F0 : Hp} {a : Expr} {p pos : Pos} {fl : WA} (hg : Gl X "tuple") (hm : X.mg "tuple" = none) (ha : XAj X Z0 F0 [a] fl) (he : starEach [a] X.env = [(false, eval a X.env)] := by rfl) : XEj X Z0 F0 (.Call (.Name "tuple" p) [a] [] pos) (wCall RTupC fl) := xe_callTy call_tuple_of w_tupc hg hm boot_tuple ha (by decide) (by decide) he rfl

/-! ### texts that write numbers, and those that write none -/
noncomputable def TxB (l : List Nat) : Prop := (∀ c ∈ l, c < 128) ∧ l.length ≤ 5000000
private theorem TxB.sz {l : List Nat} (h : TxB l) : (st l).length ≤ sizeLine := by rw [st_len]; exact Nat.le_trans h.2 (by rw [sizeLine_eq]; decide)
private theorem szM {k : Nat} (h : k ≤ 5000001) : k ≤ sizeLine := Nat.le_trans h (by rw [sizeLine_eq]; decide)
private theorem szL {k : Nat} (h : k ≤ 5000001) : k < sizeLine := Nat.lt_of_le_of_lt h (by rw [sizeLine_eq]; decide)
private theorem TxB.plain {l : List Nat} (h : TxB l) : ((st l).cps.all fun x => decide (x < 128)) = true := by
  show (l.toArray.all fun x => decide (x < 128)) = true
  rw [List.all_toArray, List.all_eq_true]
  intro x hx
  exact decide_eq_true (h.1 x hx)
noncomputable abbrev IsNum (l : List Nat) : Prop := ∃ n, l = dgL n ∧ (dgL n).length ≤ 40
private theorem dg_of : ∀ (k : Nat) (l : List Nat), l.length = k → l ≠ [] → (∀ c ∈ l, 48 ≤ c ∧ c ≤ 57) → (l = [48] ∨ l.head? ≠ some 48) → ∃ n, l = dgL n := by
  intro k
  induction k with
  | zero => intro l h n; exact absurd (List.length_eq_zero_iff.mp h) n
  | succ k ih =>
    intro l h _ d z
    rcases List.eq_nil_or_concat l with rfl | ⟨a, c, rfl⟩
    · cases h
    rw [List.concat_eq_append] at h d z ⊢
    have hc := d c (by simp)
    cases a with
    | nil =>
      refine ⟨c - 48, ?_⟩
      rw [dg_lt (by omega), show 48 + (c - 48) = c by omega]; rfl
    | cons x a =>
      have hx : x ≠ 48 := fun e => by
        subst e
        rcases z with z | z
        · injection z with _ z; cases a <;> cases z
        · exact z rfl
      obtain ⟨n, hn⟩ := ih (x :: a) (by rw [List.length_append] at h; simpa using h) (by simp) (fun c' h' => d c' (List.mem_append_left _ h')) (.inr fun e => hx (by injection e))
      have n0 : 0 < n := Nat.pos_of_ne_zero fun e => by
        subst e
        rw [dg_lt (by decide)] at hn
        injection hn with h1
        exact hx h1
      refine ⟨n * 10 + (c - 48), ?_⟩
      rw [dg_step (by omega), show (n * 10 + (c - 48)) / 10 = n by omega, show 48 + (n * 10 + (c - 48)) % 10 = c by omega, ← hn]
noncomputable def isDg (c : Nat) : Bool := decide (48 ≤ c ∧ c ≤ 57)
private theorem in_any {c : Nat} (h : c < 128) : (!(Builtin.Str.occurrences (Str.ofString "0123456789") ⟨#[c]⟩ 0 (Str.ofString "0123456789").length 1).isEmpty) = isDg c := by
  rw [PySem.Str.ofString_eq_toList]
  have : ∀ c, c < 128 → (!(Builtin.Str.occurrences (⟨("0123456789".toList.map Char.toNat).toArray⟩ : Str) ⟨#[c]⟩ 0 (⟨("0123456789".toList.map Char.toNat).toArray⟩ : Str).length 1).isEmpty) = isDg c := by decide +kernel
  exact this c h
private theorem e48 : Str.ofString "0" = st [48] := by rw [PySem.Str.ofString_eq_toList]; rfl
private theorem e45 : Str.ofString "-" = st [45] := by rw [PySem.Str.ofString_eq_toList]; rfl
private theorem e450 : Str.ofString "-0" = st [45, 48] := by rw [PySem.Str.ofString_eq_toList]; rfl
private theorem peq_st (a b : List Nat) : peq (.str (st a)) (.str (st b)) = decide (a = b) := by
  rw [Bool.eq_iff_iff]
  constructor
  · intro h
    exact decide_eq_true (st_inj (by simpa [peq] using h))
  · intro h
    rw [of_decide_eq_true h]
    simp [peq]
private theorem starts_nil (c : Nat) : Txt.startswith (st []) (st [c]) = false := rfl
private theorem starts_any (c : Nat) (l : List Nat) : Txt.startswith (st l) (st [c]) = decide (l.head? = some c) := by
  cases l with
  | nil => rw [starts_nil]; rfl
  | cons a l =>
    rw [starts_cons]
    show (a == c) = decide (some a = some c)
    rw [Bool.eq_iff_iff]; simp
noncomputable def gNumE : List D → (D → Prop) → Prop := fun ds P => ∃ l, ds = [.str (st l), .int 40] ∧ TxB l ∧ ∀ b : Bool, (b = true ↔ IsNum l) → P (.bl b)
private theorem num_len {l : List Nat} (h : IsNum l) : 0 < l.length ∧ l.length ≤ 40 := by
  obtain ⟨n, rfl, h⟩ := h
  exact ⟨List.length_pos_iff.mpr (dg_ne n), h⟩
noncomputable abbrev s_is_number : Stmt := top 24
private theorem sc_is_number : FnScope ["text", "most"] ["text", "most"] (defScope s_is_number) := ⟨rfl, rfl, rfl, by decide +kernel, rfl, by decide +kernel, by decide +kernel⟩
private theorem h_is_number (B : Bl mg) (F : Def K mg "is_number" s_is_number ["text", "most"]) : Has P w K mg base CX0 1 "is_number" ["text", "most"] (spW K (pur gNumE)) := by
  refine F.hasP sc_is_number (fun ds P h => by obtain ⟨q, rfl, _⟩ := h; rfl) fun f cdv A outer s H E hr => ?_
  have nd := sc_is_number.nd
  refine ⟨_, (jss_cons (js_if (JW.jt (jw_or (jt_eq hr (j_lenT rfl B.len (ja_cons (jv 0) ja_nil)) j_int) (jw_or (jt_gt (j_lenT rfl B.len (ja_cons (jv 0) ja_nil)) (jv 1)) (jw_or1 (jt_not (jt (j_all rfl B.all rfl (ja_cons (j_fz (jn_lc ["sign"] [none] ⟨rfl, by decide +kernel, by decide +kernel, rfl, rfl, by intro i x j _ h; exact absurd h (by rcases i with _ | _ | _ | i <;> simp)⟩ rfl (ji_str (jv 0)) (fun _ _ _ _ _ => (jg_name (i := 0) (show List.Nodup [("sign" : Str)] by decide +kernel) rfl (Or.inl rfl))) (fun _ _ _ _ _ => jc_nil) (fun _ _ _ _ _ => (j_inS (jv 0) j_str)))) ja_nil)))))))) (jss_one (js_ret j_bl)) jss_nil)
    (jss_one (js_ret (j_or (j_eq hr (jv 0) j_str) (j_one (j_not (j_mt (fun ho ha => pe_bm PySem.F.plainAttrs_str PySem.F.slot_str_startswith PySem.F.type_str_startswith mt_starts ho ha) w_starts (jv 0) (ja_cons j_str ja_nil)))))))), ?_⟩
  rintro ds M Q ⟨l, rfl, tb, k⟩
  have ls : (st l).length = l.length := st_len _
  have sl := tb.sz
  have no : ¬ IsNum l → Q (.bl false) M := fun h => k false ⟨fun z => (nomatch z), fun z => absurd z h⟩
  refine ⟨sl, by show 0 ≤ 60; decide, ?_⟩
  show if (((st l).length : Int) == 0) = true then _ else _
  refine iteB (fun c => ?_) (fun c0 => ⟨sl, ?_⟩)
  · have c : ((st l).length : Int) = 0 := by simpa using c
    exact ⟨_, Sub.refl _, no fun h => by have := num_len h; omega⟩
  have c0 : ¬ ((st l).length : Int) = 0 := by simpa using c0
  show if decide ((40 : Int) < ((st l).length : Int)) = true then _ else _
  refine iteB (fun c => ?_) (fun c1 => ⟨tb.plain, fun j out ρ M2 => M2 = M ∧ ∃ o : Ent, ρ = [o] ∧ out = (l.take j).map fun c => D.bl (isDg c), ⟨rfl, _, rfl, rfl⟩, ?_, ?_⟩)
  · have c : (40 : Int) < ((st l).length : Int) := by simpa using c
    exact ⟨_, Sub.refl _, no fun h => by have := num_len h; omega⟩
  · rintro j d out ρ M2 hd ⟨rfl, o, rfl, rfl⟩
    obtain ⟨c, hc, rfl⟩ := map_get hd
    have hm : c ∈ l := List.mem_of_getElem? hc
    have hj : j < l.length := (List.getElem?_eq_some_iff.mp hc).1
    have := tb.2
    refine ⟨by rw [List.length_map, List.length_take]; exact szL (by omega), rfl, _, rfl, ?_⟩
    rw [in_any (tb.1 c hm), List.take_add_one, show l[j]? = some c from hc, List.map_append]; rfl
  have c1 : ¬ (40 : Int) < ((st l).length : Int) := by simpa using c1
  rintro out ρ M2 ⟨rfl, o, rfl, rfl⟩
  have el : (sgD (st l)).length = l.length := List.length_map ..
  rw [el, List.take_length, show (l.map fun c => D.bl (isDg c)) = (l.map isDg).map D.bl by rw [List.map_map]; rfl]
  show match bls ((l.map isDg).map D.bl) with | some bs => _ | none => False
  rw [bls_map]
  show if (!((l.map isDg).all id)) = true then _ else _
  refine iteB (fun c => ?_) (fun c2 => ⟨by show 0 ≤ 60; decide, ?_⟩)
  · refine ⟨_, Sub.refl _, no fun h => ?_⟩
    obtain ⟨n, rfl, _⟩ := h
    have : ((dgL n).map isDg).all id = true := by
      rw [List.all_eq_true]
      intro b hb
      obtain ⟨c, hc, rfl⟩ := List.mem_map.mp hb
      exact decide_eq_true (dg_mem hc)
    rw [this] at c
    cases c
  have ad : ∀ c ∈ l, 48 ≤ c ∧ c ≤ 57 := fun c hc => by
    have : (l.map isDg).all id = true := by simpa using c2
    exact of_decide_eq_true ((List.all_eq_true.mp this) _ (List.mem_map_of_mem (f := isDg) hc))
  have ne : l ≠ [] := fun z => c0 (by rw [ls, z]; rfl)
  have yes : (l = [48] ∨ l.head? ≠ some 48) → IsNum l := fun z => by
    obtain ⟨n, hn⟩ := dg_of _ l rfl ne ad z
    exact ⟨n, hn, by rw [← hn]; omega⟩
  rw [e48, peq_st]
  show if decide (l = [48]) = true then _ else _
  refine iteB (fun c => ⟨_, Sub.refl _, k true ⟨fun _ => yes (.inl (of_decide_eq_true c)), fun _ => rfl⟩⟩) (fun c => ?_)
  have c : ¬ l = [48] := by simpa using c
  show ∃ M'', Sub M'' M2 ∧ Q (.bl (!(Txt.startswith (st l) (st [48])))) M''
  rw [starts_any]
  refine ⟨_, Sub.refl _, k _ ⟨fun h => yes (.inr (by simpa using h)), fun h => ?_⟩⟩
  obtain ⟨n, rfl, _⟩ := h
  have : (dgL n).head? ≠ some 48 := fun z => by
    cases e : dgL n with
    | nil => exact dg_ne n e
    | cons a t =>
      rw [e] at z
      injection z with z
      subst z
      have := dg_first e
      subst this
      exact c (dg_lt (by decide))
  simpa using this

structure Exs (K : PySem.W.Frag) (mg : Str → Option Value) : Prop where
  NoText : ExC K mg "NoText"
  s_NoText_NoText : PySem.W.subIn K (.ref (cOf mg "NoText")) (.ref (cOf mg "NoText")) = some true
  s_NoText_ValueError : PySem.W.subIn K (.ref (cOf mg "NoText")) (.type "ValueError") = some true
noncomputable abbrev Most4 (K : PySem.W.Frag) (mg : Str → Option Value) : Prop := Cst K mg "MOST_FIGURES" (.int 40)
private theorem Most4.of {t : Tok} (h : mg "MOST_FIGURES" = some (.int 40 t)) : Most4 K mg := ⟨.int 40, _, h, ⟨t, rfl⟩, fun F => by rw [Rp]⟩
noncomputable def isStr : D → Bool
  | .str _ => true
  | _ => false
private theorem kitStr (d : D) : PySem.W.kitOne K (.type (tyN d)) (.type "str") = some (isStr d) := by cases d <;> first | rfl | with_unfolding_all rfl
private theorem boot_str : bootBuiltins "str" = some (.type "str") := by kernel_rfl
noncomputable def Told {α : Type} (R : α → Prop) (f : α → D) (P : Option D → Prop) : Prop := (∀ x, R x → P (some (f x))) ∧ ((∀ x, ¬ R x) → P none)
noncomputable abbrev hTX (P : Program) (w : World) (K : PySem.W.Frag) (mg : Str → Option Value) (base : Heap) (k : Nat) (f : Str) (ps : List Str) (g : List D → (Option D → Prop) → Prop) : Prop := Has P w K mg base (CX1 P w) k f ps (spE K (cOf mg "NoText") g)
noncomputable def gReqT : List D → (Option D → Prop) → Prop := fun ds P => ∃ d, ds = [d] ∧ (isStr d = true → P (some .non)) ∧ (isStr d = false → P none)
noncomputable abbrev s_require_text : Stmt := top 25
private theorem sc_require_text : FnScope ["thing"] ["thing"] (defScope s_require_text) := ⟨rfl, rfl, rfl, by decide +kernel, rfl, by decide +kernel, by decide +kernel⟩
private theorem h_require_text (B : Bl mg) (XC : ExC K mg "NoText") (F : Def K mg "require_text" s_require_text ["thing"]) : hTX P w K mg base 1 "require_text" ["thing"] gReqT := by
  refine hasXE F sc_require_text (fun ds P h => by obtain ⟨q, rfl, _⟩ := h; rfl) fun f cdv A outer s H E Z0 F0 M ds Q hr hg hx => ?_
  have nd := sc_require_text.nd
  refine ⟨_, (xss_one (xs_if (jt_nox (jt_not (jt (j_isW (T := "str") isStr kitStr rfl B.isinstance rfl B.str boot_str (jv 0))))) (xss_one (xs_raise hx arr_cx rfl XC.m XC.q)) (xss_of (jss_nox jss_nil)))), ?_⟩
  obtain ⟨d, rfl, k1, k2⟩ := hg
  show if (!isStr d) = true then _ else _
  cases e : isStr d with
  | true => exact ⟨Sub.refl _, k1 e⟩
  | false => exact ⟨Sub.refl _, k2 e⟩
noncomputable abbrev TopIs (l : List Nat) (n : Int) : Prop := l = sgL n ∧ (dgL n.natAbs).length ≤ 40
noncomputable def gTopE : List D → (Option D → Prop) → Prop := fun ds P => ∃ l, ds = [.str (st l)] ∧ TxB l ∧ Told (TopIs l) (fun n => .int n) P
private theorem sg_neg {n : Nat} (h : n ≠ 0) : sgL (-(n : Int)) = 45 :: dgL n := by unfold sgL; rw [if_pos (by omega), Int.natAbs_neg, Int.natAbs_natCast]; rfl
noncomputable abbrev hNum (P : Program) (w : World) (K : PySem.W.Frag) (mg : Str → Option Value) (base : Heap) : Prop := Has P w K mg base CX0 1 "is_number" ["text", "most"] (spW K (pur gNumE))
private theorem int_num {l : List Nat} {n : Nat} (e : l = dgL n) (h : (dgL n).length ≤ 40) : (st l).length ≤ 640 ∧ intText? (st l) = some (n : Int) := by
  subst e
  exact ⟨by rw [st_len]; omega, int_dg (by omega)⟩
noncomputable abbrev s_read_top : Stmt := top 26
private theorem sc_read_top : FnScope ["text", "below_0", "written"] ["text"] (defScope s_read_top) := ⟨rfl, rfl, rfl, by decide +kernel, rfl, by decide +kernel, by decide +kernel⟩
private theorem h_read_top (B : Bl mg) (XC : ExC K mg "NoText") (F : Def K mg "read_top" s_read_top ["text"]) (F_is_number : hNum P w K mg base) (C_MOST_FIGURES : Most4 K mg) : hTX P w K mg base 2 "read_top" ["text"] gTopE := by
  refine hasXE F sc_read_top (fun ds P h => by obtain ⟨q, rfl, _⟩ := h; rfl) fun f cdv A outer s H E Z0 F0 M ds Q hr hg hx => ?_
  have nd := sc_read_top.nd
  refine ⟨_, (xss_cons (xs_of (js_nox (js_set (i := 1) nd rfl (Or.inl rfl) (j_mt (fun ho ha => pe_bm PySem.F.plainAttrs_str PySem.F.slot_str_startswith PySem.F.type_str_startswith mt_starts ho ha) w_starts (jv 0) (ja_cons j_str ja_nil)))))
    (xss_cons (xs_of (js_nox (js_set (i := 2) nd rfl (Or.inl rfl) (j_ifE (jt (jv 1)) (j_slS (jv 0) (jo_some j_int) jo_none) (jv 0)))))
    (xss_cons (xs_if (jt_nox (JW.jt (jw_or (jt_not (jt (j_h F_is_number (hr.mono (by decide)) rfl (ja_cons (jv 2) (ja_cons (j_glob C_MOST_FIGURES rfl) ja_nil))))) (jw_or1 (jt_eq hr (jv 0) j_str))))) (xss_one (xs_raise hx arr_cx rfl XC.m XC.q)) (xss_of (jss_nox jss_nil)))
    (xss_of (jss_nox (jss_one (js_ret (j_ifE (jt (jv 1)) (j_neg (j_intS rfl B.int (ja_cons (jv 2) ja_nil))) (j_intS rfl B.int (ja_cons (jv 2) ja_nil)))))))))), ?_⟩
  obtain ⟨l, rfl, tb, k1, k2⟩ := hg
  have sl := tb.sz
  show if Txt.startswith (st l) (Str.ofString "-") = true then _ else _
  rw [e45, starts_any]
  refine iteB (fun c => ⟨sl, ?_⟩) (fun c => ?_)
  · obtain ⟨t, rfl⟩ : ∃ t, l = 45 :: t := by
      have c : l.head? = some 45 := by simpa using c
      cases l with
      | nil => cases c
      | cons a t => injection c with c; exact ⟨t, by rw [c]⟩
    rw [cut_cons]
    have tt : TxB t := ⟨fun x hx => tb.1 x (.tail _ hx), by have := tb.2; rw [List.length_cons] at this; omega⟩
    refine ⟨t, rfl, tt, fun b hb => ?_⟩
    have bad : ¬ IsNum t ∨ t = [48] → Q none := fun z => k2 fun n ⟨e, h⟩ => by
      obtain ⟨a, r, e2, h1, h2⟩ := sgL_cons n
      rw [e2] at e
      injection e with e e'
      have hn := h1.mp e.symm
      rw [h2 hn] at e'
      rcases z with z | z
      · exact z ⟨_, e', h⟩
      · rw [z] at e'
        have := dg_first e'.symm
        omega
    cases b with
    | false =>
      exact ⟨Sub.refl _, bad (.inl fun z => by have := hb.mpr z; cases this)⟩
    | true =>
      obtain ⟨n, e, h⟩ := hb.mp rfl
      refine ⟨by show 0 ≤ 60; decide, ?_⟩
      show if peq (.str (st (45 :: t))) (.str (Str.ofString "-0")) = true then _ else _
      rw [e450, peq_st]
      refine iteB (fun c2 => ⟨Sub.refl _, bad (.inr (by have := of_decide_eq_true c2; injection this))⟩) (fun c2 => ?_)
      have t0 : t ≠ [48] := fun z => by rw [z] at c2; cases c2
      have n0 : n ≠ 0 := fun z => t0 (by rw [e, z]; exact dg_lt (by decide))
      obtain ⟨i1, i2⟩ := int_num e h
      refine ⟨i1, _, i2, Sub.refl _, k1 _ ⟨by rw [sg_neg n0, e], by rw [Int.natAbs_neg, Int.natAbs_natCast]; exact h⟩⟩
  · have c : l.head? ≠ some 45 := by simpa using c
    refine ⟨l, rfl, tb, fun b hb => ?_⟩
    have bad : ¬ IsNum l → Q none := fun z => k2 fun n ⟨e, h⟩ => by
      obtain ⟨a, r, e2, h1, h2⟩ := sgL_cons n
      have hn : ¬ n < 0 := fun hn => c (by rw [e, e2, h1.mpr hn]; rfl)
      exact z ⟨n.natAbs, by rw [e]; unfold sgL; rw [if_neg hn]; rfl, h⟩
    cases b with
    | false =>
      exact ⟨Sub.refl _, bad fun z => by have := hb.mpr z; cases this⟩
    | true =>
      obtain ⟨n, e, h⟩ := hb.mp rfl
      refine ⟨by show 0 ≤ 60; decide, ?_⟩
      show if peq (.str (st l)) (.str (Str.ofString "-0")) = true then _ else _
      rw [e450, peq_st, if_neg (by simp; intro z; rw [z] at c; exact c rfl)]
      show if decide (l.head? = some 45) = true then _ else _
      rw [if_neg (by simpa using c)]
      obtain ⟨i1, i2⟩ := int_num e h
      exact ⟨i1, _, i2, Sub.refl _, k1 _ ⟨by rw [sg_nat, e], by rw [Int.natAbs_natCast]; exact h⟩⟩
noncomputable abbrev BotIs (l : List Nat) (n : Nat) : Prop := l = dgL n ∧ 2 ≤ n ∧ (dgL n).length ≤ 40
noncomputable def gBotE : List D → (Option D → Prop) → Prop := fun ds P => ∃ l, ds = [.str (st l)] ∧ TxB l ∧ Told (BotIs l) (fun n => .int (n : Int)) P
noncomputable abbrev s_read_bottom : Stmt := top 27
private theorem sc_read_bottom : FnScope ["text"] ["text"] (defScope s_read_bottom) := ⟨rfl, rfl, rfl, by decide +kernel, rfl, by decide +kernel, by decide +kernel⟩
private theorem h_read_bottom (B : Bl mg) (XC : ExC K mg "NoText") (F : Def K mg "read_bottom" s_read_bottom ["text"]) (F_is_number : hNum P w K mg base) (C_MOST_FIGURES : Most4 K mg) : hTX P w K mg base 2 "read_bottom" ["text"] gBotE := by
  refine hasXE F sc_read_bottom (fun ds P h => by obtain ⟨q, rfl, _⟩ := h; rfl) fun f cdv A outer s H E Z0 F0 M ds Q hr hg hx => ?_
  have nd := sc_read_bottom.nd
  refine ⟨_, (xss_cons (xs_if (jt_nox (JW.jt (jw_or (jt_not (jt (j_h F_is_number (hr.mono (by decide)) rfl (ja_cons (jv 0) (ja_cons (j_glob C_MOST_FIGURES rfl) ja_nil))))) (jw_or1 (jt_lt (j_intS rfl B.int (ja_cons (jv 0) ja_nil)) j_int))))) (xss_one (xs_raise hx arr_cx rfl XC.m XC.q)) (xss_of (jss_nox jss_nil)))
    (xss_of (jss_nox (jss_one (js_ret (j_intS rfl B.int (ja_cons (jv 0) ja_nil))))))), ?_⟩
  obtain ⟨l, rfl, tb, k1, k2⟩ := hg
  refine ⟨l, rfl, tb, fun b hb => ?_⟩
  cases b with
  | false =>
    exact ⟨Sub.refl _, k2 fun n ⟨e, _, h⟩ => by have := hb.mpr ⟨n, e, h⟩; cases this⟩
  | true =>
    obtain ⟨n, e, h⟩ := hb.mp rfl
    obtain ⟨i1, i2⟩ := int_num e h
    refine ⟨i1, _, i2, ?_⟩
    show if decide ((n : Int) < 2) = true then _ else _
    refine iteB (fun c => ⟨Sub.refl _, k2 fun m ⟨e2, h2, _⟩ => ?_⟩) (fun c => ⟨i1, _, i2, Sub.refl _, k1 n ⟨e, ?_, h⟩⟩)
    · have := dg_inj (e.symm.trans e2)
      have := of_decide_eq_true c
      omega
    · have := of_decide_eq_false c
      omega

/-! ### any text split; fractions read or refused -/
private theorem split_any (c : Nat) (l : List Nat) : ∃ ls : List (List Nat), ls ≠ [] ∧ (∀ x ∈ ls, c ∉ x) ∧ inter c ls = l ∧ Txt.split (st l) (st [c]) = ls.map st := by
  have hj := StrLaws.join_split (st l) (st [c])
  have hf := StrLaws.split_free (st l) c
  generalize hP : Txt.split (st l) (st [c]) = Ps at hj
  have hf : ∀ p ∈ Ps, c ∉ p.cps.toList := fun p hp => hf p (by rw [← hP] at hp; exact hp)
  have eP : Ps = (Ps.map fun p => p.cps.toList).map st := by
    rw [List.map_map]
    exact (List.map_id' Ps).symm
  rw [← StrLaws.glued_eq_join, eP, glue_st] at hj
  refine ⟨_, fun z => ?_, fun x hx => ?_, st_inj hj, eP⟩
  · rw [z] at hj
    have e0 : [] = l := st_inj hj
    rw [List.map_eq_nil_iff.mp z, ← e0] at hP
    have : Txt.split (st []) (st [c]) = [st []] := by
      unfold Txt.split
      rw [if_pos]
      simp [st, Str.length]
    rw [this] at hP
    cases hP
  · obtain ⟨p, hp, rfl⟩ := List.mem_map.mp hx
    exact hf p hp
private theorem inter_parts {c : Nat} : ∀ {ls : List (List Nat)}, ls.length ≤ (inter c ls).length + 1 ∧ ∀ x ∈ ls, x.length ≤ (inter c ls).length ∧ ∀ a ∈ x, a ∈ inter c ls
  | [] => ⟨Nat.zero_le _, fun _ h => nomatch h⟩
  | [l] => by
    have e : inter c [l] = l := List.append_nil l
    rw [e]
    exact ⟨Nat.le_add_left _ _, fun x hx => by rw [List.mem_singleton.mp hx]; exact ⟨Nat.le_refl _, fun _ h => h⟩⟩
  | l :: m :: ls => by
    obtain ⟨h1, h2⟩ := inter_parts (c := c) (ls := m :: ls)
    rw [inter_cons]
    simp only [List.length_append, List.length_cons] at h1 h2 ⊢
    refine ⟨by omega, fun x hx => ?_⟩
    rcases List.mem_cons.mp hx with rfl | hx
    · exact ⟨by omega, fun a ha => List.mem_append_left _ ha⟩
    · obtain ⟨h3, h4⟩ := h2 x hx
      exact ⟨by omega, fun a ha => List.mem_append_right _ (.tail _ (h4 a ha))⟩
private theorem TxB.part {c : Nat} {l : List Nat} {ls : List (List Nat)} (h : TxB l) (e : inter c ls = l) : ls.length ≤ 5000001 ∧ ∀ x ∈ ls, TxB x := by
  obtain ⟨h1, h2⟩ := inter_parts (c := c) (ls := ls)
  rw [e] at h1 h2
  have := h.2
  exact ⟨by omega, fun x hx => ⟨fun a ha => h.1 a ((h2 x hx).2 a ha), by have := (h2 x hx).1; omega⟩⟩
noncomputable def Fig (q : Rat) : Prop := (dgL q.num.natAbs).length ≤ 40 ∧ (dgL q.den).length ≤ 40
private theorem no47 (n : Int) : 47 ∉ sgL n := fun m => by
  unfold sgL at m
  rcases List.mem_append.mp m with m | m
  · split at m
    · simp at m
    · cases m
  · exact no_dg (by decide) m
private theorem no32 (q : Rat) : 32 ∉ txL q := fun m => by
  have h : ∀ n : Int, 32 ∉ sgL n := fun n m => by
    unfold sgL at m
    rcases List.mem_append.mp m with m | m
    · split at m
      · simp at m
      · cases m
    · exact no_dg (by decide) m
  by_cases c : q.den = 1
  · rw [tx_num c] at m; exact h _ m
  · rw [tx_frac c] at m
    rcases List.mem_append.mp m with m | m
    · exact h _ m
    · rcases List.mem_cons.mp m with m | m
      · cases m
      · exact no_dg (by decide) m
private theorem tx_split (q : Rat) : Txt.split (st (txL q)) (st [47]) = if q.den = 1 then [st (sgL q.num)] else [st (sgL q.num), st (dgL q.den)] := by
  by_cases c : q.den = 1
  · rw [if_pos c]
    have := split_st (c := 47) (ls := [sgL q.num]) (by simp) (fun l hl => by rw [List.mem_singleton.mp hl]; exact no47 _)
    rw [show inter 47 [sgL q.num] = txL q by rw [tx_num c]; show sgL q.num ++ [] = _; rw [List.append_nil]] at this
    exact this
  · rw [if_neg c]
    have := split_st (c := 47) (ls := [sgL q.num, dgL q.den]) (by simp) (fun l hl => by
      rcases List.mem_cons.mp hl with rfl | hl
      · exact no47 _
      · rw [List.mem_singleton.mp hl]; exact no_dg (by decide))
    rw [show inter 47 [sgL q.num, dgL q.den] = txL q by rw [tx_frac c, inter_cons]; show sgL q.num ++ 47 :: (dgL q.den ++ []) = _; rw [List.append_nil]] at this
    exact this
private theorem fig_len {q : Rat} (h : Fig q) : (txL q).length ≤ 82 := by
  have : (sgL q.num).length ≤ 41 := by
    have := h.1
    unfold sgL
    rw [List.length_append]
    split
    · show 1 + _ ≤ _; omega
    · show 0 + _ ≤ _; omega
  have := h.2
  by_cases c : q.den = 1
  · rw [tx_num c]; omega
  · rw [tx_frac c, List.length_append, List.length_cons]; omega
noncomputable abbrev FrIs (l : List Nat) (q : Rat) : Prop := l = txL q ∧ Fig q
noncomputable def gReadE : List D → (Option D → Prop) → Prop := fun ds P => ∃ l, ds = [.str (st l)] ∧ TxB l ∧ Told (FrIs l) frD P
noncomputable abbrev hReq (P : Program) (w : World) (K : PySem.W.Frag) (mg : Str → Option Value) (base : Heap) : Prop := hTX P w K mg base 1 "require_text" ["thing"] gReqT
private theorem inter1 (c : Nat) (x : List Nat) : inter c [x] = x := List.append_nil x
private theorem inter2 (c : Nat) (x y : List Nat) : inter c [x, y] = x ++ c :: y := by rw [inter_cons, inter1]
private theorem parts_of {ls : List (List Nat)} {q : Rat} (h : Txt.split (st (txL q)) (st [47]) = ls.map st) : (q.den = 1 ∧ ls = [sgL q.num]) ∨ (q.den ≠ 1 ∧ ls = [sgL q.num, dgL q.den]) := by
  have inj : ∀ {a b : List (List Nat)}, a.map st = b.map st → a = b := fun {a b} e => List.map_inj_right (fun _ _ => st_inj) |>.mp e
  rw [tx_split] at h
  by_cases c : q.den = 1
  · rw [if_pos c] at h
    exact .inl ⟨c, (inj (a := [sgL q.num]) h).symm⟩
  · rw [if_neg c] at h
    exact .inr ⟨c, (inj (a := [sgL q.num, dgL q.den]) h).symm⟩
private theorem sg_inj {n m : Int} (h : sgL n = sgL m) : n = m := by
  have h0 := h
  obtain ⟨a, l, e, h1, h2⟩ := sgL_cons n
  obtain ⟨b, r, e', h3, h4⟩ := sgL_cons m
  rw [e, e'] at h
  injection h with ha hl
  by_cases c : n < 0
  · have c' : m < 0 := h3.mp (by rw [← ha]; exact h1.mpr c)
    have := dg_inj ((h2 c).symm.trans (hl.trans (h4 c')))
    omega
  · have c' : ¬ m < 0 := fun z => c (h1.mp (by rw [ha]; exact h3.mpr z))
    unfold sgL at h0
    rw [if_neg c, if_neg c'] at h0
    have := dg_inj h0
    omega
noncomputable abbrev s_read_fraction : Stmt := top 28
private theorem sc_read_fraction : FnScope ["text", "parts", "top", "bottom"] ["text"] (defScope s_read_fraction) := ⟨rfl, rfl, rfl, by decide +kernel, rfl, by decide +kernel, by decide +kernel⟩
private theorem h_read_fraction (B : Bl mg) (XC : ExC K mg "NoText") (F : Def K mg "read_fraction" s_read_fraction ["text"]) (F_require_text : hReq P w K mg base) (F_read_top : hTX P w K mg base 2 "read_top" ["text"] gTopE) (F_read_bottom : hTX P w K mg base 2 "read_bottom" ["text"] gBotE) (F_common_divisor : Has P w K mg base CX0 1 "common_divisor" ["one", "other"] (spW K (pur gGcd))) : hTX P w K mg base 3 "read_fraction" ["text"] gReadE := by
  refine hasXE F sc_read_fraction (fun ds P h => by obtain ⟨q, rfl, _⟩ := h; rfl) fun f cdv A outer s H E Z0 F0 M ds Q hr hg hx => ?_
  have nd := sc_read_fraction.nd
  refine ⟨_, (xss_cons (xs_expr (xe_h F_require_text hx arr_cx (hr.mono (by decide)) rfl (xa_of (ja_nox (ja_cons (jv 0) ja_nil)))))
    (xss_cons (xs_of (js_nox (js_set (i := 1) nd rfl (Or.inl rfl) (j_mt (fun ho ha => pe_bm PySem.F.plainAttrs_str PySem.F.slot_str_split PySem.F.type_str_split mt_split ho ha) w_split (jv 0) (ja_cons j_str ja_nil)))))
    (xss_cons (xs_if (jt_nox (jt_eq hr (j_lenV 1 rfl B.len) j_int)) (xss_one (xs_ret (xe_tup (xa_cons (xe_h F_read_top hx arr_cx (hr.mono (by decide)) rfl (xa_of (ja_nox (ja_cons (jv 0) ja_nil)))) (xa_of (ja_nox (ja_cons j_int ja_nil))))))) (xss_of (jss_nox jss_nil)))
    (xss_cons (xs_if (jt_nox (jt_ne hr (j_lenV 1 rfl B.len) j_int)) (xss_one (xs_raise hx arr_cx rfl XC.m XC.q)) (xss_of (jss_nox jss_nil)))
    (xss_cons (xs_set (i := 2) nd rfl (Or.inl rfl) (xe_h F_read_top hx arr_cx (hr.mono (by decide)) rfl (xa_of (ja_nox (ja_cons (j_atV 1 j_int) ja_nil)))))
    (xss_cons (xs_set (i := 3) nd rfl (Or.inl rfl) (xe_h F_read_bottom hx arr_cx (hr.mono (by decide)) rfl (xa_of (ja_nox (ja_cons (j_atV 1 j_int) ja_nil)))))
    (xss_cons (xs_if (jt_nox (jt_ne hr (j_h F_common_divisor (hr.mono (by decide)) rfl (ja_cons (jv 2) (ja_cons (jv 3) ja_nil))) j_int)) (xss_one (xs_raise hx arr_cx rfl XC.m XC.q)) (xss_of (jss_nox jss_nil)))
    (xss_of (jss_nox (jss_one (js_ret (j_tup (ja_cons (jv 2) (ja_cons (jv 3) ja_nil)))))))))))))), ?_⟩
  obtain ⟨l, rfl, tb, k1, k2⟩ := hg
  refine ⟨_, rfl, fun _ => ?_, fun z => nomatch z⟩
  obtain ⟨ls, ne, fr, ei, hs⟩ := split_any 47 l
  obtain ⟨lp, tp⟩ := tb.part ei
  refine ⟨Str.ofString "/", rfl, ?_⟩
  rw [e47, hs]
  refine ⟨rfl, tb.sz, by rw [List.length_map]; exact szM lp, by show 0 ≤ 60; decide, ?_⟩
  have of : ∀ q, FrIs l q → (q.den = 1 ∧ ls = [sgL q.num]) ∨ (q.den ≠ 1 ∧ ls = [sgL q.num, dgL q.den]) := fun q h => parts_of (by rw [← h.1]; exact hs)
  rcases ls with _ | ⟨x, _ | ⟨y, _ | ⟨z, r⟩⟩⟩
  · exact absurd rfl ne
  · rw [inter1] at ei
    refine ⟨l, rfl, tb, fun n h => ⟨by show 2 ≤ sizeLine; decide, Sub.refl _, ?_⟩, fun h => ⟨Sub.refl _, k2 fun q hq => ?_⟩⟩
    · exact k1 (n : Rat) ⟨by rw [h.1, tx_num (by rfl)]; rfl, h.2, by show (dgL 1).length ≤ 40; decide⟩
    · rcases of q hq with ⟨c, e⟩ | ⟨c, e⟩
      · injection e with e
        exact h q.num ⟨by rw [← ei, e], hq.2.1⟩
      · cases e
  · rw [inter2] at ei
    have nox : ∀ q, FrIs l q → x = sgL q.num ∧ y = dgL q.den ∧ q.den ≠ 1 := fun q hq => by
      rcases of q hq with ⟨c, e⟩ | ⟨c, e⟩
      · cases e
      · injection e with e1 e2
        injection e2 with e2
        exact ⟨e1, e2, c⟩
    refine ⟨by show 0 ≤ 60; decide, x, rfl, tp x (by simp), fun n h => ⟨y, rfl, tp y (by simp), fun m hm => ?_, fun h2 => ⟨Sub.refl _, k2 fun q hq => ?_⟩⟩, fun h => ⟨Sub.refl _, k2 fun q hq => ?_⟩⟩
    · refine ⟨n, m, rfl, by show 0 ≤ 60; decide, ?_⟩
      show if (!peq (.int (Int.gcd n m : Int)) (.int 1)) = true then _ else _
      refine iteB (fun c => ⟨Sub.refl _, k2 fun q hq => ?_⟩) (fun c => ⟨by show 2 ≤ sizeLine; decide, Sub.refl _, ?_⟩)
      · obtain ⟨e1, e2, _⟩ := nox q hq
        have en : n = q.num := sg_inj (h.1.symm.trans e1)
        have em : m = q.den := dg_inj (hm.1.symm.trans e2)
        have := q.reduced
        have g1 : Int.gcd n m = 1 := by rw [en, em]; unfold Int.gcd; rw [Int.natAbs_natCast]; exact this
        rw [g1] at c
        cases c
      · have g1 : Nat.Coprime n.natAbs m := by
          have c : peq (.int (Int.gcd n m : Int)) (.int 1) = true := by simpa using c
          have : (Int.gcd n m : Int) = 1 := by simpa [peq] using c
          have : Int.gcd n m = 1 := by omega
          unfold Int.gcd at this
          rwa [Int.natAbs_natCast] at this
        have m0 : m ≠ 0 := by have := hm.2.1; omega
        exact k1 ⟨n, m, m0, g1⟩ ⟨by rw [tx_frac (by show m ≠ 1; have := hm.2.1; omega), ← ei, h.1, hm.1], h.2, hm.2.2⟩
    · obtain ⟨e1, e2, e3⟩ := nox q hq
      exact h2 q.den ⟨e2, by have := q.den_pos; omega, hq.2.2⟩
    · obtain ⟨e1, e2, e3⟩ := nox q hq
      exact h q.num ⟨e1, hq.2.1⟩
  · have n1 : (((((x :: y :: z :: r).map st).map D.str).length : Int) == 1) = false := by
      simp only [List.map_cons, List.length_cons]
      rw [beq_eq_false_iff_ne]; omega
    have n2 : (((((x :: y :: z :: r).map st).map D.str).length : Int) == 2) = false := by
      simp only [List.map_cons, List.length_cons]
      rw [beq_eq_false_iff_ne]; omega
    show if (((((x :: y :: z :: r).map st).map D.str).length : Int) == 1) = true then _ else _
    rw [n1]
    refine ⟨by show 0 ≤ 60; decide, ?_⟩
    show if (!(((((x :: y :: z :: r).map st).map D.str).length : Int) == 2)) = true then _ else _
    rw [n2]
    exact ⟨Sub.refl _, k2 fun q hq => by rcases of q hq with ⟨c, e⟩ | ⟨c, e⟩ <;> cases e⟩

/-! ### plans shown -/
noncomputable def interS (sep : List Nat) : List (List Nat) → List Nat
  | [] => []
  | l :: ls => l ++ (ls.map (sep ++ ·)).flatten
private theorem glueS (sep : List Nat) : ∀ ls : List (List Nat), Builtin.Str.glued (st sep) (ls.map st) = st (interS sep ls) := by
  intro ls
  cases ls with
  | nil => rfl
  | cons l ls =>
    show (⟨List.foldl (fun acc p => acc ++ (st sep).cps ++ p.cps) l.toArray (ls.map st)⟩ : Str) = ⟨(l ++ (ls.map (sep ++ ·)).flatten).toArray⟩
    have go : ∀ (ls : List (List Nat)) (a : List Nat), List.foldl (fun (acc : Array Nat) (p : Str) => acc ++ (st sep).cps ++ p.cps) a.toArray (ls.map st) = (a ++ (ls.map (sep ++ ·)).flatten).toArray := by
      intro ls
      induction ls with
      | nil => intro a; simp
      | cons l ls ih =>
        intro a
        rw [List.map_cons, List.foldl_cons]
        have e : a.toArray ++ (st sep).cps ++ (st l).cps = (a ++ (sep ++ l)).toArray := by
          show a.toArray ++ sep.toArray ++ l.toArray = _
          simp
        rw [e, ih, List.map_cons, List.flatten_cons, List.append_assoc]
    rw [go]
noncomputable abbrev ZR := List Rat × List Rat × Rat
noncomputable def bQ (x : Rat × Rat) : D := .tup [frD x.1, frD x.2]
noncomputable def zQ (z : ZR) : D := .tup [.lst (z.1.map frD), .lst (z.2.1.map frD), frD z.2.2]
noncomputable def planQ (S T : List (Rat × Rat)) (Z : List ZR) : D := .tup [.lst (S.map bQ), .lst (T.map bQ), .lst (Z.map zQ)]
noncomputable abbrev wSize : List Nat := [115, 105, 122, 101]
noncomputable abbrev wShim : List Nat := [115, 104, 105, 109]
noncomputable abbrev wDem : List Nat := [100, 101, 109, 97, 110, 100]
private theorem eSize : Str.ofString "size" = st wSize := by rw [PySem.Str.ofString_eq_toList]; rfl
private theorem eShim : Str.ofString "shim" = st wShim := by rw [PySem.Str.ofString_eq_toList]; rfl
private theorem eDem : Str.ofString "demand" = st wDem := by rw [PySem.Str.ofString_eq_toList]; rfl
private theorem eCol : Str.ofString ":" = st [58] := by rw [PySem.Str.ofString_eq_toList]; rfl
private theorem eSemi : Str.ofString "; " = st [59, 32] := by rw [PySem.Str.ofString_eq_toList]; rfl
noncomputable def rowB (w : List Nat) (x : Rat × Rat) : List (List Nat) := [w, txL x.1, txL x.2]
noncomputable def rowD (z : ZR) : List (List Nat) := wDem :: (z.1.map txL ++ [58] :: (z.2.1.map txL ++ [[58], txL z.2.2]))
noncomputable def rowsP (S T : List (Rat × Rat)) (Z : List ZR) : List (List (List Nat)) := S.map (rowB wSize) ++ (T.map (rowB wShim) ++ Z.map rowD)
noncomputable def planT (S T : List (Rat × Rat)) (Z : List ZR) : List Nat := interS [59, 32] ((rowsP S T Z).map (inter 32))
noncomputable def stD (l : List Nat) : D := .str (st l)
noncomputable def gWords : List D → (D → Prop) → Prop := fun ds P => ∃ qs : List Rat, (ds = [.lst (qs.map frD)] ∨ ds = [.tup (qs.map frD)]) ∧ qs.length ≤ 1000 ∧ (∀ q ∈ qs, SmR 1000 q) ∧ P (.lst (qs.map fun q => stD (txL q)))
noncomputable abbrev s_show_words : Stmt := top 19
private theorem sc_show_words : FnScope ["fractions"] ["fractions"] (defScope s_show_words) := ⟨rfl, rfl, rfl, by decide +kernel, rfl, by decide +kernel, by decide +kernel⟩
private theorem h_show_words (B : Bl mg) (F : Def K mg "show_words" s_show_words ["fractions"]) (F_show : Has P w K mg base CX0 2 "show" ["q"] (spW K (pur gShow))) : Has P w K mg base CX0 3 "show_words" ["fractions"] (spW K (pur gWords)) := by
  refine F.hasP sc_show_words (fun ds P h => by obtain ⟨q, rfl | rfl, _⟩ := h <;> rfl) fun f cdv A outer s H E hr => ?_
  have nd := sc_show_words.nd
  refine ⟨_, (jss_one (js_ret (j_fz (jn_lc ["q"] [none] ⟨rfl, by decide +kernel, by decide +kernel, rfl, rfl, by intro i x j _ h; exact absurd h (by rcases i with _ | _ | _ | i <;> simp)⟩ rfl (ji_seq (jv 0)) (fun _ _ _ _ _ => (jg_name (i := 0) (show List.Nodup [("q" : Str)] by decide +kernel) rfl (Or.inl rfl))) (fun _ _ _ _ _ => jc_nil) (fun _ _ _ _ _ => (j_h F_show (hr.mono (by decide)) rfl (ja_cons (jv 0) ja_nil))))))), ?_⟩
  rintro ds M Q ⟨qs, hds, lq, sq, k⟩
  rcases hds with rfl | rfl
  all_goals
    refine ⟨fun j out ρ M2 => M2 = M ∧ ∃ o : Ent, ρ = [o] ∧ out = (qs.take j).map fun q => stD (txL q), ⟨rfl, _, rfl, rfl⟩, ?_, ?_⟩
    · rintro j d out ρ M2 hd ⟨rfl, o, rfl, rfl⟩
      obtain ⟨q, hq, rfl⟩ := map_get hd
      have hj := (List.getElem?_eq_some_iff.mp hq).1
      refine ⟨q, rfl, sq q (List.mem_of_getElem? hq), ?_, rfl, _, rfl, ?_⟩
      · rw [List.length_map, List.length_take]; exact small1000 (by omega)
      · rw [List.take_add_one, hq, List.map_append]; rfl
    · rintro out ρ M2 ⟨rfl, o, rfl, rfl⟩
      refine ⟨_, Sub.refl _, ?_⟩
      rw [List.length_map, List.take_length]
      exact k
private theorem join_row (ws : List (List Nat)) : Txt.join (st [32]) (ws.map st) = st (inter 32 ws) := glue_st 32 ws
noncomputable def Sh1 (ws : List (List Nat)) : Prop := ws.length ≤ 3000 ∧ ∀ l ∈ ws, l.length ≤ 2010
private theorem Sh1.join {ws : List (List Nat)} (h : Sh1 ws) : ((ws.map st).map (·.length)).sum + (ws.map st).length * (st [32]).length ≤ 16777216 := by
  have : ∀ ws : List (List Nat), (∀ l ∈ ws, l.length ≤ 2010) → ((ws.map st).map (·.length)).sum ≤ 2010 * ws.length := by
    intro ws
    induction ws with
    | nil => intro _; simp
    | cons l ws ih =>
      intro h
      have h1 := ih fun x hx => h x (.tail _ hx)
      have h2 := h l (.head _)
      rw [List.map_cons, List.map_cons, List.sum_cons, st_len, List.length_cons]
      omega
  have h1 := this ws h.2
  have h2 := h.1
  rw [List.length_map, st_len, List.length_singleton]
  omega
noncomputable def gBoundsT : List D → (D → Prop) → Prop := fun ds P => ∃ (w : List Nat) (x : Rat × Rat), ds = [stD w, bQ x] ∧ w.length ≤ 10 ∧ SmR 1000 x.1 ∧ SmR 1000 x.2 ∧ P (stD (inter 32 (rowB w x)))
noncomputable abbrev s_show_bounds : Stmt := top 21
private theorem sc_show_bounds : FnScope ["word", "pair"] ["word", "pair"] (defScope s_show_bounds) := ⟨rfl, rfl, rfl, by decide +kernel, rfl, by decide +kernel, by decide +kernel⟩
private theorem h_show_bounds (B : Bl mg) (F : Def K mg "show_bounds" s_show_bounds ["word", "pair"]) (F_show_words : Has P w K mg base CX0 3 "show_words" ["fractions"] (spW K (pur gWords))) : Has P w K mg base CX0 4 "show_bounds" ["word", "pair"] (spW K (pur gBoundsT)) := by
  refine F.hasP sc_show_bounds (fun ds P h => by obtain ⟨_, _, rfl, _⟩ := h; rfl) fun f cdv A outer s H E hr => ?_
  have nd := sc_show_bounds.nd
  refine ⟨_, (jss_one (js_ret (j_mt (fun ho ha => pe_bm PySem.F.plainAttrs_str PySem.F.slot_str_join PySem.F.type_str_join mt_join ho ha) w_join j_str (ja_cons (j_fz (jn_cat (j_fz (jn_lst (ja_cons (jv 0) ja_nil))) (j_h F_show_words (hr.mono (by decide)) rfl (ja_cons (jv 1) ja_nil)))) ja_nil)))), ?_⟩
  rintro ds M Q ⟨w, x, rfl, lw, s1, s2, k⟩
  have sx : ∀ q ∈ [x.1, x.2], SmR 1000 q := fun q hq => by
    simp only [List.mem_cons, List.not_mem_nil, or_false] at hq
    rcases hq with rfl | rfl
    · exact s1
    · exact s2
  have t1 := tx_len s1
  have t2 := tx_len s2
  have sh : Sh1 (rowB w x) := ⟨by show 3 ≤ 3000; decide, fun l hl => by
    unfold rowB at hl
    simp only [List.mem_cons, List.not_mem_nil, or_false] at hl
    rcases hl with rfl | rfl | rfl <;> omega⟩
  refine ⟨by show 1 ≤ sizeLine; decide, [x.1, x.2], .inr rfl, by show 2 ≤ 1000; decide, sx, by show 1 + 2 ≤ sizeLine; decide, (rowB w x).map st, rfl, ?_, _, Sub.refl _, ?_⟩
  · rw [e32]; exact sh.join
  · rw [e32, join_row]; exact k

/-! ### demands, plans shown -/
noncomputable def SmZ (z : ZR) : Prop := z.1.length ≤ 100 ∧ z.2.1.length ≤ 100 ∧ (∀ q ∈ z.1, SmR 1000 q) ∧ (∀ q ∈ z.2.1, SmR 1000 q) ∧ SmR 1000 z.2.2
private theorem rowD_sh {z : ZR} (h : SmZ z) : Sh1 (rowD z) := by
  obtain ⟨l1, l2, s1, s2, s3⟩ := h
  refine ⟨?_, fun l hl => ?_⟩
  · unfold rowD
    simp only [List.length_cons, List.length_append, List.length_map, List.length_nil]
    omega
  · have tx : ∀ qs : List Rat, (∀ q ∈ qs, SmR 1000 q) → ∀ l ∈ qs.map txL, l.length ≤ 2010 := fun qs h l hl => by
      obtain ⟨q, hq, rfl⟩ := List.mem_map.mp hl
      exact tx_len (h q hq)
    unfold rowD at hl
    rcases List.mem_cons.mp hl with rfl | hl
    · show 6 ≤ 2010; decide
    rcases List.mem_append.mp hl with hl | hl
    · exact tx _ s1 l hl
    rcases List.mem_cons.mp hl with rfl | hl
    · show 1 ≤ 2010; decide
    rcases List.mem_append.mp hl with hl | hl
    · exact tx _ s2 l hl
    simp only [List.mem_cons, List.not_mem_nil, or_false] at hl
    rcases hl with rfl | rfl
    · show 1 ≤ 2010; decide
    · exact tx_len s3
noncomputable def gDemT : List D → (D → Prop) → Prop := fun ds P => ∃ z : ZR, ds = [zQ z] ∧ SmZ z ∧ P (stD (inter 32 (rowD z)))
private theorem rowD_D (z : ZR) : [D.str (Str.ofString "demand")] ++ (z.1.map fun q => stD (txL q)) ++ [D.str (Str.ofString ":")] ++ (z.2.1.map fun q => stD (txL q)) ++ [D.str (Str.ofString ":"), stD (txL z.2.2)] = ((rowD z).map st).map D.str := by
  rw [eDem, eCol]
  unfold rowD stD
  simp only [List.map_cons, List.map_append, List.map_map, List.map_nil, List.append_assoc, List.cons_append, List.nil_append]
  rfl
noncomputable abbrev s_show_demand : Stmt := top 22
private theorem sc_show_demand : FnScope ["demand", "words"] ["demand"] (defScope s_show_demand) := ⟨rfl, rfl, rfl, by decide +kernel, rfl, by decide +kernel, by decide +kernel⟩
private theorem h_show_demand (B : Bl mg) (F : Def K mg "show_demand" s_show_demand ["demand"]) (F_show_words : Has P w K mg base CX0 3 "show_words" ["fractions"] (spW K (pur gWords))) (F_show : Has P w K mg base CX0 2 "show" ["q"] (spW K (pur gShow))) : Has P w K mg base CX0 4 "show_demand" ["demand"] (spW K (pur gDemT)) := by
  refine F.hasP sc_show_demand (fun ds P h => by obtain ⟨_, rfl, _⟩ := h; rfl) fun f cdv A outer s H E hr => ?_
  have nd := sc_show_demand.nd
  refine ⟨_, (jss_cons (js_set (i := 1) nd rfl (Or.inl rfl) (j_fz (jn_cat (j_fz (jn_cat (j_fz (jn_cat (j_fz (jn_cat (j_fz (jn_lst (ja_cons j_str ja_nil))) (j_h F_show_words (hr.mono (by decide)) rfl (ja_cons (j_atV 0 j_int) ja_nil)))) (j_fz (jn_lst (ja_cons j_str ja_nil))))) (j_h F_show_words (hr.mono (by decide)) rfl (ja_cons (j_atV 0 j_int) ja_nil)))) (j_fz (jn_lst (ja_cons j_str (ja_cons (j_h F_show (hr.mono (by decide)) rfl (ja_cons (j_atV 0 j_int) ja_nil)) ja_nil)))))))
    (jss_one (js_ret (j_mt (fun ho ha => pe_bm PySem.F.plainAttrs_str PySem.F.slot_str_join PySem.F.type_str_join mt_join ho ha) w_join j_str (ja_cons (jv 1) ja_nil))))), ?_⟩
  rintro ds M Q ⟨z, rfl, sz, k⟩
  have sh := rowD_sh sz
  obtain ⟨l1, l2, s1, s2, s3⟩ := id sz
  refine ⟨by show 1 ≤ sizeLine; decide, z.1, .inl rfl, by omega, s1, ?_, by show 1 ≤ sizeLine; decide, ?_, z.2.1, .inl rfl, by omega, s2, ?_, z.2.2, rfl, s3, by show 2 ≤ sizeLine; decide, ?_, (rowD z).map st, ?_, ?_, _, Sub.refl _, ?_⟩
  · rw [List.length_map]; exact sz5 (by show 1 + _ ≤ 5000; omega)
  · simp only [List.length_append, List.length_map, List.length_cons, List.length_nil]; exact sz5 (by omega)
  · simp only [List.length_append, List.length_map, List.length_cons, List.length_nil]; exact sz5 (by omega)
  · simp only [List.length_append, List.length_map, List.length_cons, List.length_nil]; exact sz5 (by omega)
  · rw [← rowD_D]; rfl
  · rw [e32]; exact sh.join
  · rw [e32, join_row]; exact k
/-! ### a plan -/
noncomputable def Ok1 (q : Rat) : Prop := SmR 1000 q ∧ Fig q
noncomputable def OkZ (z : ZR) : Prop := z.1.length ≤ 100 ∧ z.2.1.length ≤ 100 ∧ (∀ q ∈ z.1, Ok1 q) ∧ (∀ q ∈ z.2.1, Ok1 q) ∧ Ok1 z.2.2
private theorem OkZ.sm {z : ZR} (h : OkZ z) : SmZ z := ⟨h.1, h.2.1, fun q hq => (h.2.2.1 q hq).1, fun q hq => (h.2.2.2.1 q hq).1, h.2.2.2.2.1⟩
noncomputable def OkP (S T : List (Rat × Rat)) (Z : List ZR) : Prop := S.length ≤ 100 ∧ T.length ≤ 100 ∧ Z.length ≤ 100 ∧ (∀ x ∈ S, Ok1 x.1 ∧ Ok1 x.2) ∧ (∀ x ∈ T, Ok1 x.1 ∧ Ok1 x.2) ∧ ∀ z ∈ Z, OkZ z
noncomputable def RowOk (ws : List (List Nat)) : Prop := ws ≠ [] ∧ ws.length ≤ 300 ∧ ∀ l ∈ ws, l.length ≤ 82
private theorem RowOk.len {ws : List (List Nat)} (h : RowOk ws) : (inter 32 ws).length ≤ 24900 := by
  obtain ⟨_, l, f⟩ := h
  have go : ∀ ws : List (List Nat), (∀ l ∈ ws, l.length ≤ 82) → (ws.map (32 :: ·)).flatten.length ≤ 83 * ws.length := by
    intro ws
    induction ws with
    | nil => intro _; simp
    | cons w ws ih =>
      intro f
      have h1 := ih fun x hx => f x (.tail _ hx)
      have h2 := f w (.head _)
      rw [List.map_cons, List.flatten_cons, List.length_append, List.length_cons, List.length_cons]
      omega
  cases ws with
  | nil => exact Nat.zero_le _
  | cons w ws =>
    show (w ++ (ws.map (32 :: ·)).flatten).length ≤ _
    have h1 := go ws fun x hx => f x (.tail _ hx)
    have h2 := f w (.head _)
    rw [List.length_cons] at l
    rw [List.length_append]
    omega
private theorem rowB_ok {w : List Nat} {x : Rat × Rat} (lw : w.length ≤ 10) (h : Ok1 x.1 ∧ Ok1 x.2) : RowOk (rowB w x) := by
  have t1 := fig_len h.1.2
  have t2 := fig_len h.2.2
  refine ⟨by simp [rowB], by show 3 ≤ 300; decide, fun l hl => ?_⟩
  unfold rowB at hl
  simp only [List.mem_cons, List.not_mem_nil, or_false] at hl
  rcases hl with rfl | rfl | rfl <;> omega
private theorem rowD_ok {z : ZR} (h : OkZ z) : RowOk (rowD z) := by
  obtain ⟨l1, l2, s1, s2, s3⟩ := h
  refine ⟨by simp [rowD], ?_, fun l hl => ?_⟩
  · unfold rowD
    simp only [List.length_cons, List.length_append, List.length_map, List.length_nil]
    omega
  · have tx : ∀ qs : List Rat, (∀ q ∈ qs, Ok1 q) → ∀ l ∈ qs.map txL, l.length ≤ 82 := fun qs h l hl => by
      obtain ⟨q, hq, rfl⟩ := List.mem_map.mp hl
      exact fig_len (h q hq).2
    unfold rowD at hl
    rcases List.mem_cons.mp hl with rfl | hl
    · show 6 ≤ 82; decide
    rcases List.mem_append.mp hl with hl | hl
    · exact tx _ s1 l hl
    rcases List.mem_cons.mp hl with rfl | hl
    · show 1 ≤ 82; decide
    rcases List.mem_append.mp hl with hl | hl
    · exact tx _ s2 l hl
    simp only [List.mem_cons, List.not_mem_nil, or_false] at hl
    rcases hl with rfl | rfl
    · show 1 ≤ 82; decide
    · exact fig_len s3.2
private theorem rows_ok {S T : List (Rat × Rat)} {Z : List ZR} (h : OkP S T Z) : (rowsP S T Z).length ≤ 300 ∧ ∀ r ∈ rowsP S T Z, RowOk r := by
  obtain ⟨l1, l2, l3, s1, s2, s3⟩ := h
  refine ⟨?_, fun r hr => ?_⟩
  · unfold rowsP
    simp only [List.length_append, List.length_map]
    omega
  · unfold rowsP at hr
    rcases List.mem_append.mp hr with hr | hr
    · obtain ⟨x, hx, rfl⟩ := List.mem_map.mp hr
      exact rowB_ok (by decide) (s1 x hx)
    rcases List.mem_append.mp hr with hr | hr
    · obtain ⟨x, hx, rfl⟩ := List.mem_map.mp hr
      exact rowB_ok (by decide) (s2 x hx)
    · obtain ⟨z, hz, rfl⟩ := List.mem_map.mp hr
      exact rowD_ok (s3 z hz)
private theorem rows_join {R : List (List (List Nat))} (l : R.length ≤ 300) (h : ∀ r ∈ R, RowOk r) : (((R.map (inter 32)).map st).map (·.length)).sum + ((R.map (inter 32)).map st).length * (st [59, 32]).length ≤ 16777216 := by
  have : ∀ R : List (List (List Nat)), (∀ r ∈ R, RowOk r) → (((R.map (inter 32)).map st).map (·.length)).sum ≤ 24900 * R.length := by
    intro R
    induction R with
    | nil => intro _; simp
    | cons r R ih =>
      intro h
      have h1 := ih fun x hx => h x (.tail _ hx)
      have h2 := (h r (.head _)).len
      rw [List.map_cons, List.map_cons, List.map_cons, List.sum_cons, st_len, List.length_cons]
      omega
  have h1 := this R h
  rw [List.length_map, List.length_map, st_len]
  show _ + R.length * 2 ≤ _
  omega
noncomputable def gPlanT : List D → (D → Prop) → Prop := fun ds P => ∃ S T Z, ds = [planQ S T Z] ∧ OkP S T Z ∧ P (stD (planT S T Z))
private theorem planT_D (S T : List (Rat × Rat)) (Z : List ZR) : (S.map fun x => stD (inter 32 (rowB wSize x))) ++ (T.map fun x => stD (inter 32 (rowB wShim x))) ++ (Z.map fun z => stD (inter 32 (rowD z))) = (((rowsP S T Z).map (inter 32)).map st).map D.str := by
  unfold rowsP stD
  simp only [List.map_append, List.map_map, List.append_assoc]
  rfl
noncomputable abbrev s_show_plan : Stmt := top 23
private theorem sc_show_plan : FnScope ["plan", "rows"] ["plan"] (defScope s_show_plan) := ⟨rfl, rfl, rfl, by decide +kernel, rfl, by decide +kernel, by decide +kernel⟩
private theorem h_show_plan (B : Bl mg) (F : Def K mg "show_plan" s_show_plan ["plan"]) (F_show_bounds : Has P w K mg base CX0 4 "show_bounds" ["word", "pair"] (spW K (pur gBoundsT))) (F_show_demand : Has P w K mg base CX0 4 "show_demand" ["demand"] (spW K (pur gDemT))) : Has P w K mg base CX0 5 "show_plan" ["plan"] (spW K (pur gPlanT)) := by
  refine F.hasP sc_show_plan (fun ds P h => by obtain ⟨_, _, _, rfl, _⟩ := h; rfl) fun f cdv A outer s H E hr => ?_
  have nd := sc_show_plan.nd
  refine ⟨_, (jss_cons (js_setC (k := 1) nd rfl (Or.inl rfl) ["pair"] [none] ⟨rfl, by decide +kernel, by decide +kernel, rfl, rfl, by intro i x j _ h; exact absurd h (by rcases i with _ | _ | _ | i <;> simp)⟩ rfl (ji_list (j_atV 0 j_int)) (fun _ _ _ _ _ => (jg_name (i := 0) (show List.Nodup [("pair" : Str)] by decide +kernel) rfl (Or.inl rfl))) (fun _ _ _ _ _ => jc_nil) (fun _ _ _ _ _ => (j_h F_show_bounds (hr.mono (by decide)) rfl (ja_cons j_str (ja_cons (jv 0) ja_nil)))))
    (jss_cons (js_extN 1 (jn_lc ["pair"] [none] ⟨rfl, by decide +kernel, by decide +kernel, rfl, rfl, by intro i x j _ h; exact absurd h (by rcases i with _ | _ | _ | i <;> simp)⟩ rfl (ji_list (j_atV 0 j_int)) (fun _ _ _ _ _ => (jg_name (i := 0) (show List.Nodup [("pair" : Str)] by decide +kernel) rfl (Or.inl rfl))) (fun _ _ _ _ _ => jc_nil) (fun _ _ _ _ _ => (j_h F_show_bounds (hr.mono (by decide)) rfl (ja_cons j_str (ja_cons (jv 0) ja_nil))))))
    (jss_cons (js_extN 1 (jn_lc ["demand"] [none] ⟨rfl, by decide +kernel, by decide +kernel, rfl, rfl, by intro i x j _ h; exact absurd h (by rcases i with _ | _ | _ | i <;> simp)⟩ rfl (ji_list (j_atV 0 j_int)) (fun _ _ _ _ _ => (jg_name (i := 0) (show List.Nodup [("demand" : Str)] by decide +kernel) rfl (Or.inl rfl))) (fun _ _ _ _ _ => jc_nil) (fun _ _ _ _ _ => (j_h F_show_demand (hr.mono (by decide)) rfl (ja_cons (jv 0) ja_nil)))))
    (jss_one (js_ret (j_mt (fun ho ha => pe_bm PySem.F.plainAttrs_str PySem.F.slot_str_join PySem.F.type_str_join mt_join ho ha) w_join j_str (ja_cons (jv 1) ja_nil))))))), ?_⟩
  rintro ds M Q ⟨S, T, Z, rfl, ok, k⟩
  obtain ⟨lr, or'⟩ := rows_ok ok
  obtain ⟨l1, l2, l3, s1, s2, s3⟩ := id ok
  refine ⟨fun j out ρ M2 => M2 = M ∧ ∃ o : Ent, ρ = [o] ∧ out = (S.take j).map fun x => stD (inter 32 (rowB wSize x)), ⟨rfl, _, rfl, rfl⟩, ?_, ?_⟩
  · rintro j d out ρ M2 hd ⟨rfl, o, rfl, rfl⟩
    obtain ⟨x, hx, rfl⟩ := map_get hd
    have hj := (List.getElem?_eq_some_iff.mp hx).1
    obtain ⟨g1, g2⟩ := s1 x (List.mem_of_getElem? hx)
    refine ⟨wSize, x, by rw [eSize]; rfl, by decide, g1.1, g2.1, ?_, rfl, _, rfl, ?_⟩
    · rw [List.length_map, List.length_take]; exact small1000 (by omega)
    · rw [List.take_add_one, hx, List.map_append]; rfl
  rintro out ρ M2 ⟨rfl, o, rfl, rfl⟩
  rw [List.length_map, List.take_length]
  refine ⟨trivial, fun j out ρ M3 => M3 = M2 ∧ ∃ o : Ent, ρ = [o] ∧ out = (T.take j).map fun x => stD (inter 32 (rowB wShim x)), ⟨rfl, _, rfl, rfl⟩, ?_, ?_⟩
  · rintro j d out ρ M3 hd ⟨rfl, o, rfl, rfl⟩
    obtain ⟨x, hx, rfl⟩ := map_get hd
    have hj := (List.getElem?_eq_some_iff.mp hx).1
    obtain ⟨g1, g2⟩ := s2 x (List.mem_of_getElem? hx)
    refine ⟨wShim, x, by rw [eShim]; rfl, by decide, g1.1, g2.1, ?_, rfl, _, rfl, ?_⟩
    · rw [List.length_map, List.length_take]; exact small1000 (by omega)
    · rw [List.take_add_one, hx, List.map_append]; rfl
  rintro out ρ M3 ⟨rfl, o, rfl, rfl⟩
  rw [show T.take (T.map bQ).length = T by rw [List.length_map, List.take_length]]
  refine ⟨by rw [List.length_map, List.length_map]; exact sz5 (by omega), trivial, fun j out ρ M4 => M4 = M3 ∧ ∃ o : Ent, ρ = [o] ∧ out = (Z.take j).map fun z => stD (inter 32 (rowD z)), ⟨rfl, _, rfl, rfl⟩, ?_, ?_⟩
  · rintro j d out ρ M4 hd ⟨rfl, o, rfl, rfl⟩
    obtain ⟨z, hz, rfl⟩ := map_get hd
    have hj := (List.getElem?_eq_some_iff.mp hz).1
    refine ⟨z, rfl, (s3 z (List.mem_of_getElem? hz)).sm, ?_, rfl, _, rfl, ?_⟩
    · rw [List.length_map, List.length_take]; exact small1000 (by omega)
    · rw [List.take_add_one, hz, List.map_append]; rfl
  rintro out ρ M4 ⟨rfl, o, rfl, rfl⟩
  rw [show Z.take (Z.map zQ).length = Z by rw [List.length_map, List.take_length]]
  refine ⟨by rw [List.length_append, List.length_map, List.length_map, List.length_map]; exact sz5 (by omega), _, by rw [planT_D], ?_, _, Sub.refl _, ?_⟩
  · rw [eSemi]; exact rows_join lr or'
  · rw [eSemi]
    have : Txt.join (st [59, 32]) (((rowsP S T Z).map (inter 32)).map st) = st (planT S T Z) := glueS _ _
    rw [this]; exact k

/-! ### words and lists read or refused -/
noncomputable abbrev WsIs (ws : List (List Nat)) (qs : List Rat) : Prop := ws = qs.map txL ∧ ∀ q ∈ qs, Fig q
noncomputable def TxW (ws : List (List Nat)) : Prop := ws.length ≤ 5000001 ∧ ∀ x ∈ ws, TxB x
noncomputable def gRWE : List D → (Option D → Prop) → Prop := fun ds P => ∃ ws, ds = [.lst (ws.map stD)] ∧ TxW ws ∧ Told (WsIs ws) (fun qs => .lst (qs.map frD)) P
noncomputable abbrev s_read_words : Stmt := top 29
private theorem sc_read_words : FnScope ["words"] ["words"] (defScope s_read_words) := ⟨rfl, rfl, rfl, by decide +kernel, rfl, by decide +kernel, by decide +kernel⟩
private theorem h_read_words (B : Bl mg) (XC : ExC K mg "NoText") (F : Def K mg "read_words" s_read_words ["words"]) (F_read_fraction : hTX P w K mg base 3 "read_fraction" ["text"] gReadE) : hTX P w K mg base 4 "read_words" ["words"] gRWE := by
  refine hasXE F sc_read_words (fun ds P h => by obtain ⟨q, rfl, _⟩ := h; rfl) fun f cdv A outer s H E Z0 F0 M ds Q hr hg hx => ?_
  have nd := sc_read_words.nd
  refine ⟨_, (xss_one (xs_ret (xe_lc ["word"] [none] hx arr_cx ⟨rfl, by decide +kernel, by decide +kernel, rfl, rfl, by intro i x j _ h; exact absurd h (by rcases i with _ | _ | _ | i <;> simp)⟩ rfl (ji_list (jv 0)) (fun _ _ _ _ _ => (jg_name (i := 0) (show List.Nodup [("word" : Str)] by decide +kernel) rfl (Or.inl rfl))) (fun _ _ _ _ _ => jc_nil) (fun _ _ _ _ _ _ _ _ _ ar2 hx2 => (xe_h F_read_fraction hx2 ar2 (hr.mono (by decide)) rfl (xa_of (ja_nox (ja_cons (jv 0) ja_nil)))))))), ?_⟩
  obtain ⟨ws, rfl, ⟨lw, tb⟩, k1, k2⟩ := hg
  refine ⟨fun j out ρ M2 => M2 = M ∧ ∃ o : Ent, ρ = [o] ∧ ∃ qs : List Rat, ws.take j = qs.map txL ∧ (∀ q ∈ qs, Fig q) ∧ out = qs.map frD, ⟨rfl, _, rfl, [], rfl, (fun _ h => nomatch h), rfl⟩, ?_, ?_⟩
  · rintro j d out ρ M2 hd ⟨rfl, o, rfl, qs, e, fq, rfl⟩
    obtain ⟨x, hx', rfl⟩ := map_get hd
    have hj := (List.getElem?_eq_some_iff.mp hx').1
    have lq : qs.length ≤ j := by
      have := congrArg List.length e
      rw [List.length_map, List.length_take] at this; omega
    refine ⟨x, rfl, tb x (List.mem_of_getElem? hx'), fun q hq => ⟨by rw [List.length_map]; exact szL (by omega), rfl, _, rfl, qs ++ [q], ?_, fun r hr => ?_, by rw [List.map_append]; rfl⟩, fun h => ⟨Sub.refl _, k2 fun rs hrs => ?_⟩⟩
    · rw [List.take_add_one, hx', e, List.map_append, hq.1]; rfl
    · rcases List.mem_append.mp hr with hr | hr
      · exact fq r hr
      · rw [List.mem_singleton.mp hr]; exact hq.2
    · rw [hrs.1] at hx'
      obtain ⟨q, hq, rfl⟩ := List.mem_map.mp (List.mem_of_getElem? hx')
      exact h q ⟨rfl, hrs.2 q hq⟩
  · rintro out ρ M2 ⟨rfl, o, rfl, qs, e, fq, rfl⟩
    rw [List.length_map, List.take_length] at e
    exact ⟨Sub.refl _, k1 qs ⟨e, fq⟩⟩
noncomputable abbrev wNone : List Nat := [110, 111, 110, 101]
noncomputable def spcL (qs : List Rat) : List Nat := if qs = [] then wNone else inter 32 (qs.map txL)
noncomputable abbrev LsIs (l : List Nat) (qs : List Rat) : Prop := l = spcL qs ∧ ∀ q ∈ qs, Fig q
noncomputable def gRLE : List D → (Option D → Prop) → Prop := fun ds P => ∃ l, ds = [.str (st l)] ∧ TxB l ∧ Told (LsIs l) (fun qs => .lst (qs.map frD)) P
private theorem st_map_inj {a b : List (List Nat)} (e : a.map st = b.map st) : a = b := List.map_inj_right (fun _ _ => st_inj) |>.mp e
private theorem spc_parts {qs : List Rat} {ls : List (List Nat)} (h : qs ≠ []) (e : Txt.split (st (spcL qs)) (st [32]) = ls.map st) : ls = qs.map txL := by
  unfold spcL at e
  rw [if_neg h, split_st (by simpa using h) (fun l hl => by obtain ⟨q, _, rfl⟩ := List.mem_map.mp hl; exact no32 q)] at e
  exact (st_map_inj e).symm
noncomputable abbrev s_read_list : Stmt := top 30
private theorem sc_read_list : FnScope ["text"] ["text"] (defScope s_read_list) := ⟨rfl, rfl, rfl, by decide +kernel, rfl, by decide +kernel, by decide +kernel⟩
private theorem h_read_list (B : Bl mg) (XC : ExC K mg "NoText") (F : Def K mg "read_list" s_read_list ["text"]) (F_require_text : hReq P w K mg base) (F_read_words : hTX P w K mg base 4 "read_words" ["words"] gRWE) : hTX P w K mg base 5 "read_list" ["text"] gRLE := by
  refine hasXE F sc_read_list (fun ds P h => by obtain ⟨q, rfl, _⟩ := h; rfl) fun f cdv A outer s H E Z0 F0 M ds Q hr hg hx => ?_
  have nd := sc_read_list.nd
  refine ⟨_, (xss_cons (xs_expr (xe_h F_require_text hx arr_cx (hr.mono (by decide)) rfl (xa_of (ja_nox (ja_cons (jv 0) ja_nil)))))
    (xss_cons (xs_of (js_nox (js_if (jt_eq hr (jv 0) j_str) (jss_one (js_ret (j_fz (jn_lst ja_nil)))) jss_nil)))
    (xss_one (xs_ret (xe_h F_read_words hx arr_cx (hr.mono (by decide)) rfl (xa_of (ja_nox (ja_cons (j_mt (fun ho ha => pe_bm PySem.F.plainAttrs_str PySem.F.slot_str_split PySem.F.type_str_split mt_split ho ha) w_split (jv 0) (ja_cons j_str ja_nil)) ja_nil)))))))), ?_⟩
  obtain ⟨l, rfl, tb, k1, k2⟩ := hg
  refine ⟨_, rfl, fun _ => ?_, fun z => nomatch z⟩
  refine ⟨by show 0 ≤ 60; decide, ?_⟩
  show if peq (.str (st l)) (.str (Str.ofString "none")) = true then _ else _
  rw [enone, peq_st]
  refine iteB (fun c => ?_) (fun c => ?_)
  · have c : l = wNone := of_decide_eq_true c
    exact ⟨by show 0 ≤ sizeLine; decide, Sub.refl _, k1 [] ⟨c, (fun _ h => nomatch h)⟩⟩
  · have c : l ≠ wNone := of_decide_eq_false c
    obtain ⟨ls, ne, fr, ei, hs⟩ := split_any 32 l
    refine ⟨Str.ofString " ", rfl, ?_⟩
    rw [e32, hs]
    refine ⟨rfl, tb.sz, by rw [List.length_map]; exact szM (tb.part ei).1, ls, by rw [List.map_map]; rfl, tb.part ei, fun qs h => ⟨Sub.refl _, k1 qs ⟨?_, h.2⟩⟩, fun h => ⟨Sub.refl _, k2 fun qs hq => ?_⟩⟩
    · have : qs ≠ [] := fun z => ne (by rw [h.1, z]; rfl)
      unfold spcL
      rw [if_neg this, ← h.1, ei]
    · have : qs ≠ [] := fun z => c (by rw [hq.1, z]; rfl)
      exact h qs ⟨spc_parts this (by rw [← hq.1]; exact hs), hq.2⟩

/-! ### a text split at a separator of more signs -/
private theorem free_sub {x : Str} {i j c : Nat} (h : ∀ k, i ≤ k → k < j → x.cps[k]? ≠ some c) : c ∉ (Builtin.Str.strSub x i j).cps.toList := by
  intro m
  have m : c ∈ (x.cps.extract i j).toList := m
  obtain ⟨k, hk⟩ := List.mem_iff_getElem?.mp m
  rw [Array.getElem?_toList, Array.getElem?_extract] at hk
  split at hk
  · exact h (i + k) (by omega) (by omega) hk
  · cases hk
private theorem partsS_free {x y : Str} {c : Nat} (hx : ∀ k, x.cps[k]? = some c → StrLaws.At x y x.length k) : ∀ (cuts : List Nat) (a f : Nat), StrLaws.ChainG x y x.length a cuts f → (∀ k, f ≤ k → ¬ StrLaws.At x y x.length k) → ∀ p ∈ StrLaws.partsFrom x y.length a cuts, c ∉ p.cps.toList := by
  intro cuts
  induction cuts with
  | nil =>
    intro a f ch nf p hp
    rw [StrLaws.ChainG.eq_1] at ch
    subst ch
    rw [StrLaws.partsFrom.eq_1, List.mem_singleton] at hp
    subst hp
    exact free_sub fun k h1 _ e => nf k h1 (hx k e)
  | cons t cuts ih =>
    intro a f ch nf p hp
    rw [StrLaws.ChainG.eq_2] at ch
    rw [StrLaws.partsFrom.eq_2] at hp
    rcases List.mem_cons.mp hp with e | hp
    · subst e
      exact free_sub fun k h1 h2 e => ch.2.2.1 k h1 h2 (hx k e)
    · exact ih _ f ch.2.2.2 nf p hp
private theorem splitS_free {x y : Str} {c : Nat} (hy : 1 ≤ y.length) (hk : ¬ Builtin.Str.strKind x < Builtin.Str.strKind y) (hx : ∀ k, x.cps[k]? = some c → StrLaws.At x y x.length k) : ∀ p ∈ Txt.split x y, c ∉ p.cps.toList := by
  intro p hp
  have self : (∀ k, ¬ StrLaws.At x y x.length k) → c ∉ x.cps.toList := fun n m => by
    obtain ⟨k, hk⟩ := List.mem_iff_getElem?.mp m
    rw [Array.getElem?_toList] at hk
    exact n k (hx k hk)
  obtain ⟨f, ch, nf⟩ := StrLaws.occ_tight x y hy
  unfold Txt.split at hp
  split at hp
  · rename_i h
    rw [List.mem_singleton] at hp
    subst hp
    rw [decide_eq_false hk, Bool.or_false, decide_eq_true_eq] at h
    exact self fun k a => by have := a.1; omega
  · split at hp
    · rename_i h
      rw [List.mem_singleton] at hp
      subst hp
      rw [List.isEmpty_iff.mp h, StrLaws.ChainG.eq_1] at ch
      subst ch
      exact self fun k => nf k (Nat.zero_le _)
    · have e : Builtin.Str.partsBetween x (Builtin.Str.occurrences x y 0 x.length (x.length + 1)) y.length = StrLaws.partsFrom x y.length 0 (Builtin.Str.occurrences x y 0 x.length (x.length + 1)) := StrLaws.zip_parts x y.length _ 0
      rw [e] at hp
      exact partsS_free hx _ 0 f ch nf p hp
private theorem interS_cons (sep l m : List Nat) (ls : List (List Nat)) : interS sep (l :: m :: ls) = l ++ (sep ++ interS sep (m :: ls)) := by
  show l ++ ((m :: ls).map (sep ++ ·)).flatten = l ++ (sep ++ (m ++ (ls.map (sep ++ ·)).flatten))
  rw [List.map_cons, List.flatten_cons, List.append_assoc]
private theorem interS_inj {c : Nat} {r : List Nat} : ∀ {ls ls' : List (List Nat)}, ls ≠ [] → ls' ≠ [] → (∀ l ∈ ls, c ∉ l) → (∀ l ∈ ls', c ∉ l) → interS (c :: r) ls = interS (c :: r) ls' → ls = ls' := by
  intro ls
  induction ls with
  | nil => intro ls' h; exact absurd rfl h
  | cons l ls ih =>
    intro ls' _ h' f f' e
    cases ls' with
    | nil => exact absurd rfl h'
    | cons l' ls' =>
      have fl := f l (.head _)
      have fl' := f' l' (.head _)
      cases ls with
      | nil =>
        cases ls' with
        | nil =>
          have e : l ++ [] = l' ++ [] := e
          rw [List.append_nil, List.append_nil] at e
          rw [e]
        | cons m' ls' =>
          rw [interS_cons] at e
          have e : l ++ [] = _ := e
          rw [List.append_nil] at e
          exact absurd (by rw [e]; exact List.mem_append_right _ (.head _)) fl
      | cons m ls =>
        cases ls' with
        | nil =>
          rw [interS_cons] at e
          have e : _ = l' ++ [] := e
          rw [List.append_nil] at e
          exact absurd (by rw [← e]; exact List.mem_append_right _ (.head _)) fl'
        | cons m' ls' =>
          rw [interS_cons, interS_cons] at e
          obtain ⟨e1, e2⟩ := split_at fl fl' e
          rw [e1, ih (by simp) (by simp) (fun x hx => f x (.tail _ hx)) (fun x hx => f' x (.tail _ hx)) (List.append_cancel_left e2)]
private theorem interS_at {c : Nat} {r : List Nat} (hr : c ∉ r) : ∀ {ls : List (List Nat)}, (∀ l ∈ ls, c ∉ l) → ∀ k, (interS (c :: r) ls)[k]? = some c → ∃ pre post, interS (c :: r) ls = pre ++ ((c :: r) ++ post) ∧ pre.length = k := by
  intro ls
  induction ls with
  | nil => intro _ k h; cases h
  | cons l ls ih =>
    intro f k h
    have fl := f l (.head _)
    cases ls with
    | nil =>
      have h : (l ++ [])[k]? = some c := h
      rw [List.append_nil] at h
      exact absurd (List.mem_of_getElem? h) fl
    | cons m ls =>
      rw [interS_cons] at h ⊢
      by_cases k1 : k < l.length
      · rw [List.getElem?_append_left k1] at h
        exact absurd (List.mem_of_getElem? h) fl
      · rw [List.getElem?_append_right (by omega)] at h
        by_cases k2 : k - l.length < (c :: r).length
        · by_cases k3 : k - l.length = 0
          · exact ⟨l, interS (c :: r) (m :: ls), rfl, by omega⟩
          · rw [List.getElem?_append_left k2] at h
            obtain ⟨j, hj⟩ : ∃ j, k - l.length = j + 1 := ⟨k - l.length - 1, by omega⟩
            rw [hj, List.getElem?_cons_succ] at h
            exact absurd (List.mem_of_getElem? h) hr
        · rw [List.getElem?_append_right (by omega)] at h
          obtain ⟨pre, post, e, lp⟩ := ih (fun x hx => f x (.tail _ hx)) _ h
          refine ⟨l ++ ((c :: r) ++ pre), post, ?_, ?_⟩
          · rw [e]; simp only [List.append_assoc]
          · rw [List.length_append, List.length_append, lp]; omega
private theorem sub_at (pre sep post : List Nat) : Builtin.Str.subAt (st (pre ++ (sep ++ post))) (st sep) pre.length = true := by
  unfold Builtin.Str.subAt
  rw [st_len]
  have e : (st (pre ++ (sep ++ post))).cps.extract pre.length (pre.length + sep.length) = (st sep).cps := by
    show (pre ++ (sep ++ post)).toArray.extract pre.length (pre.length + sep.length) = sep.toArray
    rw [List.extract_toArray]
    congr 1
    rw [List.extract_eq_drop_take, Nat.add_sub_cancel_left, List.drop_left, List.take_left]
  rw [e]
  exact beq_self_eq_true _
private theorem splitS_st {c : Nat} {r : List Nat} {ls : List (List Nat)} (hr : c ∉ r) (h : ls ≠ []) (f : ∀ l ∈ ls, c ∉ l) (hk : ¬ Builtin.Str.strKind (st (interS (c :: r) ls)) < Builtin.Str.strKind (st (c :: r))) : Txt.split (st (interS (c :: r) ls)) (st (c :: r)) = ls.map st := by
  have hj := StrLaws.join_split (st (interS (c :: r) ls)) (st (c :: r))
  have hf := splitS_free (x := st (interS (c :: r) ls)) (y := st (c :: r)) (c := c) (by rw [st_len]; show 1 ≤ r.length + 1; omega) hk fun k e => by
    have e : (interS (c :: r) ls)[k]? = some c := by
      have e : (interS (c :: r) ls).toArray[k]? = some c := e
      rwa [List.getElem?_toArray] at e
    obtain ⟨pre, post, e2, lp⟩ := interS_at hr f k e
    refine ⟨?_, ?_⟩
    · rw [e2, st_len, st_len, List.length_append, List.length_append, lp]; omega
    · rw [e2, ← lp]; exact sub_at pre (c :: r) post
  generalize hP : Txt.split (st (interS (c :: r) ls)) (st (c :: r)) = Ps at hj hf
  have eP : Ps = (Ps.map fun p => p.cps.toList).map st := by
    rw [List.map_map]
    exact (List.map_id' Ps).symm
  rw [← StrLaws.glued_eq_join, eP, glueS] at hj
  have ne : Ps ≠ [] := fun z => by
    rw [z] at hj
    have e0 : [] = interS (c :: r) ls := st_inj hj
    rw [← e0, z] at hP
    have : Txt.split (st []) (st (c :: r)) = [st []] := by
      unfold Txt.split
      rw [if_pos]
      simp [st, Str.length]
    rw [this] at hP
    cases hP
  have := interS_inj (c := c) (r := r) (by intro z; exact ne (List.map_eq_nil_iff.mp z)) h (fun l hl => by
    obtain ⟨p, hp, rfl⟩ := List.mem_map.mp hl
    exact hf p hp) f (st_inj hj)
  rw [eP, this]

noncomputable def Mx (q r : Rat) : Prop := ∃ n m, n + m ≤ 8990 ∧ SmR n q ∧ SmR m r
private theorem Mx.of {n m : Nat} {q r : Rat} (a : SmR n q) (b : SmR m r) (h : n + m ≤ 8990 := by decide) : Mx q r := ⟨n, m, h, a, b⟩
private theorem Mx.c1 {q r : Rat} (h : Mx q r) : CM q.num r.den := let ⟨n, m, l, a, b⟩ := h; .inr ⟨n, m, by omega, a.1, b.2⟩
private theorem Mx.c2 {q r : Rat} (h : Mx q r) : CM r.num q.den := let ⟨n, m, l, a, b⟩ := h; .inr ⟨m, n, by omega, b.1, a.2⟩
private theorem Mx.c3 {q r : Rat} (h : Mx q r) : CM q.den r.den := let ⟨n, m, l, a, b⟩ := h; .inr ⟨n, m, by omega, a.2, b.2⟩
private theorem Mx.s {q r : Rat} (h : Mx q r) : Sm 9000 ((q.den : Int) * (r.den : Int)) := let ⟨n, m, l, a, b⟩ := h; (a.2.mul b.2).mono (by omega)
noncomputable def gBelow : List D → (D → Prop) → Prop := fun ds P => ∃ q r : Rat, ds = [frD q, frD r] ∧ Mx q r ∧ P (.bl (decide (q < r)))
noncomputable abbrev s_below : Stmt := top 8
private theorem sc_below : FnScope ["q", "r"] ["q", "r"] (defScope s_below) := ⟨rfl, rfl, rfl, by decide +kernel, rfl, by decide +kernel, by decide +kernel⟩
private theorem h_below (B : Bl mg) (F : Def K mg "below" s_below ["q", "r"]) : Has P w K mg base CX0 1 "below" ["q", "r"] (spW K (pur gBelow)) := by
  refine F.hasP sc_below (fun ds P h => by obtain ⟨a, b, rfl, _⟩ := h; rfl) fun f cdv A outer s H E hr => ?_
  have nd := sc_below.nd
  refine ⟨_, (jss_one (js_ret (j_lt (j_mul (j_atV 0 j_int) (j_atV 1 j_int)) (j_mul (j_atV 1 j_int) (j_atV 0 j_int))))), ?_⟩
  rintro ds M Q ⟨q, r, rfl, m, k⟩
  exact ⟨m.c1, m.c2, _, Sub.refl _, by have := r_lt q r; dsimp only at this ⊢; rw [this]; exact k⟩
/-! ### good plans are plans -/
noncomputable def wholeD : D → Bool
  | .int _ => true
  | _ => false
noncomputable def gWhole : List D → (D → Prop) → Prop := fun ds P => ∃ d, ds = [d] ∧ P (.bl (wholeD d))
noncomputable abbrev s_is_whole : Stmt := top 4
private theorem sc_is_whole : FnScope ["thing"] ["thing"] (defScope s_is_whole) := ⟨rfl, rfl, rfl, by decide +kernel, rfl, by decide +kernel, by decide +kernel⟩
private theorem h_is_whole (B : Bl mg) (F : Def K mg "is_whole" s_is_whole ["thing"]) : Has P w K mg base CX0 1 "is_whole" ["thing"] (spW K (pur gWhole)) := by
  refine F.hasP sc_is_whole (fun ds P h => by obtain ⟨_, rfl, _⟩ := h; rfl) fun f cdv A outer s H E hr => ?_
  have nd := sc_is_whole.nd
  refine ⟨_, (jss_one (js_ret (j_and (j_isW (T := "int") isInt kitInt rfl B.isinstance rfl B.int boot_int (jv 0)) (j_one (j_not (j_isW (T := "bool") isBl kitBl rfl B.isinstance rfl B.bool boot_bool (jv 0))))))), ?_⟩
  rintro ds M Q ⟨d, rfl, q⟩
  cases d <;> exact ⟨_, Sub.refl _, q⟩
noncomputable def tupOf : D → Int → Bool
  | .tup ds, n => (ds.length : Int) == n
  | _, _ => false
noncomputable def gTupOf : List D → (D → Prop) → Prop := fun ds P => ∃ d n, ds = [d, .int n] ∧ P (.bl (tupOf d n))
noncomputable abbrev s_is_tuple_of : Stmt := top 5
private theorem sc_is_tuple_of : FnScope ["thing", "length"] ["thing", "length"] (defScope s_is_tuple_of) := ⟨rfl, rfl, rfl, by decide +kernel, rfl, by decide +kernel, by decide +kernel⟩
private theorem h_is_tuple_of (B : Bl mg) (F : Def K mg "is_tuple_of" s_is_tuple_of ["thing", "length"]) : Has P w K mg base CX0 1 "is_tuple_of" ["thing", "length"] (spW K (pur gTupOf)) := by
  refine F.hasP sc_is_tuple_of (fun ds P h => by obtain ⟨_, _, rfl, _⟩ := h; rfl) fun f cdv A outer s H E hr => ?_
  have nd := sc_is_tuple_of.nd
  refine ⟨_, (jss_one (js_ret (j_and (j_isW (T := "tuple") isTup kitTup rfl B.isinstance rfl B.tuple boot_tuple (jv 0)) (j_one (j_eq hr (j_lenV 0 rfl B.len) (jv 1)))))), ?_⟩
  rintro ds M Q ⟨d, n, rfl, q⟩
  cases d with
  | tup xs => exact ⟨by show 0 ≤ 60; decide, _, Sub.refl _, q⟩
  | _ => exact ⟨_, Sub.refl _, q⟩
noncomputable abbrev hTupOf (P : Program) (w : World) (K : PySem.W.Frag) (mg : Str → Option Value) (base : Heap) : Prop := Has P w K mg base CX0 1 "is_tuple_of" ["thing", "length"] (spW K (pur gTupOf))
noncomputable def gIsFr : List D → (D → Prop) → Prop := fun ds P => ∃ q : Rat, ds = [frD q] ∧ P (.bl true)
private theorem gcd_fr (q : Rat) : Int.gcd q.num (q.den : Int) = 1 := by
  have := q.reduced
  simpa [Int.gcd, Nat.Coprime] using this
noncomputable abbrev s_is_fraction : Stmt := top 6
private theorem sc_is_fraction : FnScope ["thing"] ["thing"] (defScope s_is_fraction) := ⟨rfl, rfl, rfl, by decide +kernel, rfl, by decide +kernel, by decide +kernel⟩
private theorem h_is_fraction (B : Bl mg) (F : Def K mg "is_fraction" s_is_fraction ["thing"]) (F_is_tuple_of : hTupOf P w K mg base) (F_is_whole : Has P w K mg base CX0 1 "is_whole" ["thing"] (spW K (pur gWhole))) (F_common_divisor : Has P w K mg base CX0 1 "common_divisor" ["one", "other"] (spW K (pur gGcd))) : Has P w K mg base CX0 2 "is_fraction" ["thing"] (spW K (pur gIsFr)) := by
  refine F.hasP sc_is_fraction (fun ds P h => by obtain ⟨_, rfl, _⟩ := h; rfl) fun f cdv A outer s H E hr => ?_
  have nd := sc_is_fraction.nd
  refine ⟨_, (jss_cons (js_if (jt_not (jt (j_h F_is_tuple_of (hr.mono (by decide)) rfl (ja_cons (jv 0) (ja_cons j_int ja_nil))))) (jss_one (js_ret j_bl)) jss_nil)
    (jss_cons (js_if (JW.jt (jw_or (jt_not (jt (j_h F_is_whole (hr.mono (by decide)) rfl (ja_cons (j_atV 0 j_int) ja_nil)))) (jw_or1 (jt_not (jt (j_h F_is_whole (hr.mono (by decide)) rfl (ja_cons (j_atV 0 j_int) ja_nil))))))) (jss_one (js_ret j_bl)) jss_nil)
    (jss_one (js_ret (j_and (j_ge (j_atV 0 j_int) j_int) (j_one (j_eq hr (j_h F_common_divisor (hr.mono (by decide)) rfl (ja_cons (j_atV 0 j_int) (ja_cons (j_atV 0 j_int) ja_nil))) j_int))))))), ?_⟩
  rintro ds M Q ⟨q, rfl, k⟩
  refine ⟨_, _, rfl, _, rfl, _, rfl, ?_⟩
  have hp : (1 : Int) ≤ q.den := by have := q.den_pos; omega
  show if decide ((1 : Int) ≤ q.den) = true then _ else _
  refine iteY (decide_eq_true hp) ?_
  refine ⟨_, _, rfl, by show 0 ≤ 60; decide, _, Sub.refl _, ?_⟩
  rw [gcd_fr]
  exact k
noncomputable abbrev hIsFr (P : Program) (w : World) (K : PySem.W.Frag) (mg : Str → Option Value) (base : Heap) : Prop := Has P w K mg base CX0 2 "is_fraction" ["thing"] (spW K (pur gIsFr))

/-! ### bounds of any fractions -/
private theorem dg_bound : ∀ k n, (dgL n).length ≤ k → n < 10 ^ k := by
  intro k
  induction k with
  | zero => intro n h; exact absurd (List.length_eq_zero_iff.mp (Nat.le_zero.mp h)) (dg_ne n)
  | succ k ih =>
    intro n h
    by_cases c : n < 10
    · exact Nat.lt_of_lt_of_le c (by rw [Nat.pow_succ]; have : 0 < 10 ^ k := Nat.pow_pos (by decide); omega)
    · rw [dg_step (by omega), List.length_append] at h
      have := ih (n / 10) (by simpa using h)
      rw [Nat.pow_succ]; omega
private theorem Fig.sm {q : Rat} (h : Fig q) : SmR 1000 q := by
  have e : (10 : Nat) ^ 40 ≤ 2 ^ 1000 := by decide +kernel
  have h1 := dg_bound _ _ h.1
  have h2 := dg_bound _ _ h.2
  exact ⟨Nat.lt_of_lt_of_le h1 e, Nat.lt_of_lt_of_le h2 e⟩
private theorem Fig.ok {q : Rat} (h : Fig q) : Ok1 q := ⟨h.sm, h⟩
noncomputable def gIsBE : List D → (D → Prop) → Prop := fun ds P => ∃ qs : List Rat, ds = [.tup (qs.map frD)] ∧ (∀ q ∈ qs, Fig q) ∧ ∀ b : Bool, (b = true ↔ ∃ x y, qs = [x, y] ∧ x ≤ y) → P (.bl b)
noncomputable abbrev s_is_bounds : Stmt := top 12
private theorem sc_is_bounds : FnScope ["thing"] ["thing"] (defScope s_is_bounds) := ⟨rfl, rfl, rfl, by decide +kernel, rfl, by decide +kernel, by decide +kernel⟩
private theorem h_is_bounds (B : Bl mg) (F : Def K mg "is_bounds" s_is_bounds ["thing"]) (F_is_tuple_of : hTupOf P w K mg base) (F_is_fraction : hIsFr P w K mg base) (F_below : Has P w K mg base CX0 1 "below" ["q", "r"] (spW K (pur gBelow))) : Has P w K mg base CX0 3 "is_bounds" ["thing"] (spW K (pur gIsBE)) := by
  refine F.hasP sc_is_bounds (fun ds P h => by obtain ⟨_, rfl, _⟩ := h; rfl) fun f cdv A outer s H E hr => ?_
  have nd := sc_is_bounds.nd
  refine ⟨_, (jss_cons (js_if (jt_not (jt (j_h F_is_tuple_of (hr.mono (by decide)) rfl (ja_cons (jv 0) (ja_cons j_int ja_nil))))) (jss_one (js_ret j_bl)) jss_nil)
    (jss_cons (js_if (JW.jt (jw_or (jt_not (jt (j_h F_is_fraction (hr.mono (by decide)) rfl (ja_cons (j_atV 0 j_int) ja_nil)))) (jw_or1 (jt_not (jt (j_h F_is_fraction (hr.mono (by decide)) rfl (ja_cons (j_atV 0 j_int) ja_nil))))))) (jss_one (js_ret j_bl)) jss_nil)
    (jss_one (js_ret (j_not (j_h F_below (hr.mono (by decide)) rfl (ja_cons (j_atV 0 j_int) (ja_cons (j_atV 0 j_int) ja_nil)))))))), ?_⟩
  rintro ds M Q ⟨qs, rfl, fq, k⟩
  have no : (∀ x y, qs ≠ [x, y]) → ∃ M'', Sub M'' M ∧ Q (.bl false) M'' := fun h => ⟨_, Sub.refl _, k false ⟨fun z => (nomatch z), fun ⟨x, y, e, _⟩ => absurd e (h x y)⟩⟩
  rcases qs with _ | ⟨x, _ | ⟨y, _ | ⟨z, r⟩⟩⟩
  · exact ⟨_, _, rfl, no fun _ _ e => nomatch e⟩
  · exact ⟨_, _, rfl, no fun _ _ e => by cases e⟩
  · have mx : Mx y x := Mx.of (fq y (by simp)).sm (fq x (by simp)).sm
    refine ⟨_, _, rfl, x, rfl, y, rfl, _, _, rfl, mx, _, Sub.refl _, k _ ?_⟩
    constructor
    · intro h
      exact ⟨x, y, rfl, Rat.not_lt.mp (by simpa using h)⟩
    · rintro ⟨a, b, e, h⟩
      injection e with e1 e2
      injection e2 with e2
      subst e1 e2
      simpa using Rat.not_lt.mpr h
  · refine ⟨_, _, rfl, ?_⟩
    have e : tupOf (.tup (((x :: y :: z :: r)).map frD)) 2 = false := by
      show ((((x :: y :: z :: r).map frD).length : Int) == 2) = false
      simp only [List.map_cons, List.length_cons]
      rw [beq_eq_false_iff_ne]; omega
    rw [e]
    exact no fun _ _ e => by cases e

/-! ### bounds and demands read or refused -/
noncomputable def rowQ (r : List (List Nat)) : D := .lst (r.map stD)
private theorem six_in {n d k : Nat} (h : k ≤ n) : HT.sIx n d (some (k : Int)) = k := by
  unfold HT.sIx
  simp only []
  split <;> (try split) <;> omega
private theorem cut_mid (pre mid post : List D) {a b : Int} (ha : a = (pre.length : Int)) (hb : b = ((pre.length + mid.length : Nat) : Int)) : L3.cutD (pre ++ (mid ++ post)) (some a) (some b) = mid := by
  subst ha hb
  unfold L3.cutD
  have e : (pre ++ (mid ++ post)).length = pre.length + (mid.length + post.length) := by rw [List.length_append, List.length_append]
  rw [six_in (by omega), six_in (by omega), List.drop_left, Nat.add_sub_cancel_left, List.take_left]
private theorem cut_end (pre mid : List D) {a : Int} (ha : a = (pre.length : Int)) : L3.cutD (pre ++ mid) (some a) none = mid := by
  subst ha
  unfold L3.cutD
  rw [six_in (by rw [List.length_append]; omega), show HT.sIx (pre ++ mid).length (pre ++ mid).length none = (pre ++ mid).length from rfl, List.drop_left, List.length_append, Nat.add_sub_cancel_left, List.take_length]
private theorem at_pre (pre : List D) (d : D) (post : List D) {a : Int} (ha : a = (pre.length : Int)) : atI (pre ++ d :: post) a = some d := by
  subst ha
  have h : pre.length < (pre ++ d :: post).length := by rw [List.length_append, List.length_cons]; omega
  unfold atI ixN
  rw [if_pos (by omega), if_pos (by omega)]
  show (pre ++ d :: post)[((pre.length : Nat) : Int).toNat]? = some d
  rw [Int.toNat_natCast, List.getElem?_append_right (Nat.le_refl _), Nat.sub_self]; rfl
private theorem cut1 (l : List D) : L3.cutD l (some 1) none = l.drop 1 := by
  cases l with
  | nil => rfl
  | cons a r => exact cut_end [a] r (by rfl)
private theorem TxW.drop {ws : List (List Nat)} (h : TxW ws) (n : Nat) : TxW (ws.drop n) := ⟨by rw [List.length_drop]; have := h.1; omega, fun x hx => h.2 x (List.mem_of_mem_drop hx)⟩
noncomputable abbrev BdIs (ws : List (List Nat)) (x : Rat × Rat) : Prop := ws.drop 1 = [txL x.1, txL x.2] ∧ Fig x.1 ∧ Fig x.2 ∧ x.1 ≤ x.2
noncomputable def gRBE : List D → (Option D → Prop) → Prop := fun ds P => ∃ ws, ds = [rowQ ws] ∧ TxW ws ∧ Told (BdIs ws) bQ P
noncomputable abbrev s_read_bounds : Stmt := top 31
private theorem sc_read_bounds : FnScope ["words", "pair"] ["words"] (defScope s_read_bounds) := ⟨rfl, rfl, rfl, by decide +kernel, rfl, by decide +kernel, by decide +kernel⟩
private theorem h_read_bounds (B : Bl mg) (XC : ExC K mg "NoText") (F : Def K mg "read_bounds" s_read_bounds ["words"]) (F_read_words : hTX P w K mg base 4 "read_words" ["words"] gRWE) (F_is_bounds : Has P w K mg base CX0 3 "is_bounds" ["thing"] (spW K (pur gIsBE))) : hTX P w K mg base 5 "read_bounds" ["words"] gRBE := by
  refine hasXE F sc_read_bounds (fun ds P h => by obtain ⟨q, rfl, _⟩ := h; rfl) fun f cdv A outer s H E Z0 F0 M ds Q hr hg hx => ?_
  have nd := sc_read_bounds.nd
  refine ⟨_, (xss_cons (xs_set (i := 1) nd rfl (Or.inl rfl) (xe_tuple rfl B.tuple (xa_cons (xe_h F_read_words hx arr_cx (hr.mono (by decide)) rfl (xa_of (ja_nox (ja_cons (j_fz (jn_sl (jv 0) (jo_some j_int) jo_none)) ja_nil)))) (xa_of (ja_nox ja_nil)))))
    (xss_cons (xs_if (jt_nox (jt_not (jt (j_h F_is_bounds (hr.mono (by decide)) rfl (ja_cons (jv 1) ja_nil))))) (xss_one (xs_raise hx arr_cx rfl XC.m XC.q)) (xss_of (jss_nox jss_nil)))
    (xss_of (jss_nox (jss_one (js_ret (jv 1))))))), ?_⟩
  obtain ⟨ws, rfl, tw, k1, k2⟩ := hg
  refine ⟨ws.drop 1, ?_, tw.drop 1, fun qs hq => ?_, fun h => ⟨Sub.refl _, k2 fun x hx => ?_⟩⟩
  · show [D.lst (L3.cutD (ws.map stD) (some 1) none)] = _
    rw [cut1, ← List.map_drop]
  · refine ⟨qs, rfl, hq.2, fun b hb => ?_⟩
    cases b with
    | false =>
      exact ⟨Sub.refl _, k2 fun x hx => by
        have e : qs = [x.1, x.2] := by
          have : qs.map txL = [x.1, x.2].map txL := hq.1.symm.trans hx.1
          exact List.map_inj_right (fun _ _ => tx_inj) |>.mp this
        have := hb.mpr ⟨x.1, x.2, e, hx.2.2.2⟩
        cases this⟩
    | true =>
      obtain ⟨x, y, rfl, le⟩ := hb.mp rfl
      exact ⟨Sub.refl _, k1 (x, y) ⟨hq.1, hq.2 x (by simp), hq.2 y (by simp), le⟩⟩
  · exact h [x.1, x.2] ⟨hx.1, fun q hq => by
      simp only [List.mem_cons, List.not_mem_nil, or_false] at hq
      rcases hq with rfl | rfl
      · exact hx.2.1
      · exact hx.2.2.1⟩
noncomputable abbrev DmIs (n m : Nat) (ws : List (List Nat)) (z : ZR) : Prop := ∃ a, ws = a :: (z.1.map txL ++ [58] :: (z.2.1.map txL ++ [[58], txL z.2.2])) ∧ z.1.length = n ∧ z.2.1.length = m ∧ (∀ q ∈ z.1, Fig q) ∧ (∀ q ∈ z.2.1, Fig q) ∧ Fig z.2.2
noncomputable def gRDE : List D → (Option D → Prop) → Prop := fun ds P => ∃ (ws : List (List Nat)) (n m : Nat), ds = [rowQ ws, .int (n : Int), .int (m : Int)] ∧ TxW ws ∧ Told (DmIs n m ws) zQ P
private theorem parts_dem {n m : Nat} {ws : List (List Nat)} (h : ws.length = n + m + 4) : ∃ a A u C v x, ws = a :: (A ++ u :: (C ++ [v, x])) ∧ A.length = n ∧ C.length = m := by
  cases ws with
  | nil => rw [List.length_nil] at h; omega
  | cons a r =>
    rw [List.length_cons] at h
    have e1 := (List.take_append_drop n r).symm
    have l1 : (r.take n).length = n := by rw [List.length_take]; omega
    cases h2 : r.drop n with
    | nil => have := congrArg List.length h2; rw [List.length_drop, List.length_nil] at this; omega
    | cons u t =>
      have lt : t.length = m + 2 := by have := congrArg List.length h2; rw [List.length_drop, List.length_cons] at this; omega
      have e2 := (List.take_append_drop m t).symm
      have l2 : (t.take m).length = m := by rw [List.length_take]; omega
      have l3 : (t.drop m).length = 2 := by rw [List.length_drop]; omega
      match h3 : t.drop m, l3 with
      | [v, x], _ =>
        rw [h3] at e2
        exact ⟨a, r.take n, u, t.take m, v, x, by rw [← e2, ← h2, ← e1], l1, l2⟩
noncomputable abbrev s_read_demand : Stmt := top 32
private theorem sc_read_demand : FnScope ["words", "size_count", "shim_count", "first", "second"] ["words", "size_count", "shim_count"] (defScope s_read_demand) := ⟨rfl, rfl, rfl, by decide +kernel, rfl, by decide +kernel, by decide +kernel⟩
private theorem h_read_demand (B : Bl mg) (XC : ExC K mg "NoText") (F : Def K mg "read_demand" s_read_demand ["words", "size_count", "shim_count"]) (F_read_words : hTX P w K mg base 4 "read_words" ["words"] gRWE) (F_read_fraction : hTX P w K mg base 3 "read_fraction" ["text"] gReadE) : hTX P w K mg base 5 "read_demand" ["words", "size_count", "shim_count"] gRDE := by
  refine hasXE F sc_read_demand (fun ds P h => by obtain ⟨_, _, _, rfl, _⟩ := h; rfl) fun f cdv A outer s H E Z0 F0 M ds Q hr hg hx => ?_
  have nd := sc_read_demand.nd
  refine ⟨_, (xss_cons (xs_of (js_nox (js_set (i := 3) nd rfl (Or.inl rfl) (j_add j_int (jv 1)))))
    (xss_cons (xs_of (js_nox (js_set (i := 4) nd rfl (Or.inl rfl) (j_add (j_add (jv 3) j_int) (jv 2)))))
    (xss_cons (xs_if (jt_nox (JW.jt (jw_or (jt_ne hr (j_lenV 0 rfl B.len) (j_add (jv 4) j_int)) (jw_or (jt_ne hr (j_atV 0 (jv 3)) j_str) (jw_or1 (jt_ne hr (j_atV 0 (jv 4)) j_str)))))) (xss_one (xs_raise hx arr_cx rfl XC.m XC.q)) (xss_of (jss_nox jss_nil)))
    (xss_one (xs_ret (xe_tup (xa_cons (xe_h F_read_words hx arr_cx (hr.mono (by decide)) rfl (xa_of (ja_nox (ja_cons (j_fz (jn_sl (jv 0) (jo_some j_int) (jo_some (jv 3)))) ja_nil)))) (xa_cons (xe_h F_read_words hx arr_cx (hr.mono (by decide)) rfl (xa_of (ja_nox (ja_cons (j_fz (jn_sl (jv 0) (jo_some (j_add (jv 3) j_int)) (jo_some (jv 4)))) ja_nil)))) (xa_cons (xe_h F_read_fraction hx arr_cx (hr.mono (by decide)) rfl (xa_of (ja_nox (ja_cons (j_atV 0 (j_add (jv 4) j_int)) ja_nil)))) (xa_of (ja_nox ja_nil))))))))))), ?_⟩
  obtain ⟨ws, n, m, rfl, tw, k1, k2⟩ := hg
  refine ⟨by show 0 ≤ 60; decide, ?_⟩
  show if (!peq (.int ((ws.map stD).length : Int)) (.int (1 + (n : Int) + 1 + (m : Int) + 2))) = true then _ else _
  refine iteB (fun c => ⟨Sub.refl _, k2 fun z hz => ?_⟩) (fun c => ?_)
  · obtain ⟨a, e, h1, h2, _⟩ := hz
    have : ((ws.map stD).length : Int) = 1 + (n : Int) + 1 + (m : Int) + 2 := by
      rw [List.length_map, e]
      simp only [List.length_cons, List.length_append, List.length_map, List.length_nil]; omega
    rw [this, peq_refl] at c
    cases c
  have ln : ws.length = n + m + 4 := by
    have c : peq (.int ((ws.map stD).length : Int)) (.int (1 + (n : Int) + 1 + (m : Int) + 2)) = true := by simpa using c
    have : ((ws.map stD).length : Int) = 1 + (n : Int) + 1 + (m : Int) + 2 := by simpa [peq] using c
    rw [List.length_map] at this; omega
  obtain ⟨a, A, u, C, v, x, ew, lA, lC⟩ := parts_dem ln
  have same : ∀ z, DmIs n m ws z → A = z.1.map txL ∧ u = [58] ∧ C = z.2.1.map txL ∧ v = [58] ∧ x = txL z.2.2 := fun z ⟨a', e, h1, h2, _⟩ => by
    rw [ew] at e
    injection e with _ e
    obtain ⟨e1, e⟩ := List.append_inj e (by rw [List.length_map, lA, h1])
    injection e with e2 e
    obtain ⟨e3, e⟩ := List.append_inj e (by rw [List.length_map, lC, h2])
    injection e with e4 e
    injection e with e5
    exact ⟨e1, e2, e3, e4, e5⟩
  have w0 : ws.map stD = [stD a] ++ (A.map stD ++ (stD u :: (C.map stD ++ [stD v, stD x]))) := by
    rw [ew]; simp only [List.map_cons, List.map_append, List.map_nil, List.cons_append, List.nil_append]
  have w1 : ws.map stD = ([stD a] ++ A.map stD) ++ stD u :: (C.map stD ++ [stD v, stD x]) := by rw [w0, List.append_assoc]
  have w2 : ws.map stD = ([stD a] ++ A.map stD ++ [stD u]) ++ (C.map stD ++ [stD v, stD x]) := by rw [w1]; simp only [List.append_assoc, List.cons_append, List.nil_append]
  have w3 : ws.map stD = ([stD a] ++ A.map stD ++ [stD u] ++ C.map stD) ++ stD v :: [stD x] := by rw [w2, ← List.append_assoc]
  have w4 : ws.map stD = ([stD a] ++ A.map stD ++ [stD u] ++ C.map stD ++ [stD v]) ++ stD x :: [] := by rw [w3]; simp only [List.append_assoc, List.cons_append, List.nil_append]
  have i1 : atI (ws.map stD) (1 + (n : Int)) = some (stD u) := by rw [w1]; exact at_pre _ _ _ (by simp only [List.length_append, List.length_cons, List.length_nil, List.length_map, lA]; omega)
  have i2 : atI (ws.map stD) (1 + (n : Int) + 1 + (m : Int)) = some (stD v) := by rw [w3]; exact at_pre _ _ _ (by simp only [List.length_append, List.length_cons, List.length_nil, List.length_map, lA, lC]; omega)
  have i3 : atI (ws.map stD) (1 + (n : Int) + 1 + (m : Int) + 1) = some (stD x) := by rw [w4]; exact at_pre _ _ _ (by simp only [List.length_append, List.length_cons, List.length_nil, List.length_map, lA, lC]; omega)
  have c1 : L3.cutD (ws.map stD) (some 1) (some (1 + (n : Int))) = A.map stD := by rw [w0]; exact cut_mid _ _ _ (by rfl) (by simp only [List.length_cons, List.length_nil, List.length_map, lA]; omega)
  have c2 : L3.cutD (ws.map stD) (some (1 + (n : Int) + 1)) (some (1 + (n : Int) + 1 + (m : Int))) = C.map stD := by rw [w2]; exact cut_mid _ _ _ (by simp only [List.length_append, List.length_cons, List.length_nil, List.length_map, lA]; omega) (by simp only [List.length_append, List.length_cons, List.length_nil, List.length_map, lA, lC]; omega)
  have sub : (∀ y ∈ A, y ∈ ws) ∧ (∀ y ∈ C, y ∈ ws) ∧ x ∈ ws := by
    rw [ew]
    exact ⟨fun y hy => .tail _ (List.mem_append_left _ hy), fun y hy => .tail _ (List.mem_append_right _ (.tail _ (List.mem_append_left _ hy))), .tail _ (List.mem_append_right _ (.tail _ (List.mem_append_right _ (.tail _ (.head _)))))⟩
  have tA : TxW A := ⟨by have := tw.1; omega, fun y hy => tw.2 y (sub.1 y hy)⟩
  have tC : TxW C := ⟨by have := tw.1; omega, fun y hy => tw.2 y (sub.2.1 y hy)⟩
  show match atI (ws.map stD) (1 + (n : Int)) with | some d => _ | none => False
  rw [i1]
  refine ⟨by show 0 ≤ 60; decide, ?_⟩
  rw [eCol]
  show if (!peq (.str (st u)) (.str (st [58]))) = true then _ else _
  rw [peq_st]
  refine iteB (fun c => ⟨Sub.refl _, k2 fun z hz => ?_⟩) (fun c3 => ?_)
  · rw [(same z hz).2.1] at c; cases c
  have hu : u = [58] := by simpa using c3
  show match atI (ws.map stD) (1 + (n : Int) + 1 + (m : Int)) with | some d => _ | none => False
  rw [i2]
  refine ⟨by show 0 ≤ 60; decide, ?_⟩
  show if (!peq (.str (st v)) (.str (st [58]))) = true then _ else _
  rw [peq_st]
  refine iteB (fun c => ⟨Sub.refl _, k2 fun z hz => ?_⟩) (fun c4 => ?_)
  · rw [(same z hz).2.2.2.1] at c; cases c
  have hv : v = [58] := by simpa using c4
  refine ⟨A, ?_, tA, fun qs hq => ⟨C, ?_, tC, fun rs hr' => ?_, fun h => ⟨Sub.refl _, k2 fun z hz => ?_⟩⟩, fun h => ⟨Sub.refl _, k2 fun z hz => ?_⟩⟩
  · show [D.lst (L3.cutD (ws.map stD) (some 1) (some (1 + (n : Int))))] = _
    rw [c1]
  · show [D.lst (L3.cutD (ws.map stD) (some (1 + (n : Int) + 1)) (some (1 + (n : Int) + 1 + (m : Int))))] = _
    rw [c2]
  · show match atI (ws.map stD) (1 + (n : Int) + 1 + (m : Int) + 1) with | some d => _ | none => False
    rw [i3]
    refine ⟨x, rfl, tw.2 x sub.2.2, fun q hx' => ⟨by show 3 ≤ sizeLine; decide, Sub.refl _, k1 (qs, rs, q) ⟨a, ?_, ?_, ?_, hq.2, hr'.2, hx'.2⟩⟩, fun h => ⟨Sub.refl _, k2 fun z hz => ?_⟩⟩
    · rw [ew, hq.1, hr'.1, hx'.1, hu, hv]
    · rw [← lA, hq.1, List.length_map]
    · rw [← lC, hr'.1, List.length_map]
    · have := (same z hz).2.2.2.2
      obtain ⟨_, _, _, _, _, _, f3⟩ := hz
      exact h z.2.2 ⟨this, f3⟩
  · have := (same z hz).2.2.1
    obtain ⟨_, _, _, _, _, f2, _⟩ := hz
    exact h z.2.1 ⟨this, f2⟩
  · have := (same z hz).1
    obtain ⟨_, _, _, _, f1, _⟩ := hz
    exact h z.1 ⟨this, f1⟩

/-! ### a plan read -/
noncomputable def isRow (w : List Nat) (r : List (List Nat)) : Bool := r.head? == some w
noncomputable def gCalled : List D → (D → Prop) → Prop := fun ds P => ∃ (R : List (List (List Nat))) (w : List Nat), ds = [.lst (R.map rowQ), stD w] ∧ R.length ≤ 5000001 ∧ (∀ r ∈ R, r ≠ []) ∧ P (.lst ((R.filter (isRow w)).map rowQ))
noncomputable abbrev s_rows_called : Stmt := top 33
private theorem sc_rows_called : FnScope ["rows", "word"] ["rows", "word"] (defScope s_rows_called) := ⟨rfl, rfl, rfl, by decide +kernel, rfl, by decide +kernel, by decide +kernel⟩
private theorem h_rows_called (B : Bl mg) (F : Def K mg "rows_called" s_rows_called ["rows", "word"]) : Has P w K mg base CX0 1 "rows_called" ["rows", "word"] (spW K (pur gCalled)) := by
  refine F.hasP sc_rows_called (fun ds P h => by obtain ⟨_, _, rfl, _⟩ := h; rfl) fun f cdv A outer s H E hr => ?_
  have nd := sc_rows_called.nd
  refine ⟨_, (jss_one (js_ret (j_fz (jn_lc ["words", "word"] [none, some 1] ⟨rfl, by decide +kernel, by decide +kernel, rfl, rfl, free_of rfl⟩ rfl (ji_list (jv 0)) (fun _ _ _ _ _ => (jg_name (i := 0) (show List.Nodup [("words" : Str), ("word" : Str)] by decide +kernel) rfl (Or.inl rfl))) (fun _ _ _ _ _ => (jc_one (jt_eq hr (j_atV 0 j_int) (jv 1)))) (fun _ _ _ _ _ => (jv 0)))))), ?_⟩
  rintro ds M Q ⟨R, w, rfl, lR, ne, k⟩
  refine ⟨fun j out ρ M2 => M2 = M ∧ ∃ o : Ent, ρ = [o, .sh (stD w)] ∧ out = ((R.take j).filter (isRow w)).map rowQ, ⟨rfl, _, rfl, rfl⟩, ?_, ?_⟩
  · rintro j d out ρ M2 hd ⟨rfl, o, rfl, rfl⟩
    obtain ⟨r, hr, rfl⟩ := map_get hd
    have hj := (List.getElem?_eq_some_iff.mp hr).1
    have nr := ne r (List.mem_of_getElem? hr)
    cases r with
    | nil => exact absurd rfl nr
    | cons a r =>
      have i0 : atI ((a :: r).map stD) 0 = some (stD a) := at_pre [] (stD a) (r.map stD) rfl
      show match atI ((a :: r).map stD) 0 with | some d => _ | none => False
      rw [i0]
      refine ⟨by show 0 ≤ 60; decide, ?_⟩
      show if peq (.str (st a)) (.str (st w)) = true then _ else _
      rw [peq_st]
      have ir : isRow w (a :: r) = decide (a = w) := by
        show (some a == some w) = _
        rw [Bool.eq_iff_iff]; simp
      refine iteB (fun c => ?_) (fun c => ?_)
      · refine ⟨?_, rfl, _, rfl, ?_⟩
        · rw [List.length_map]
          have := List.length_filter_le (isRow w) (R.take j)
          rw [List.length_take] at this
          exact szL (by omega)
        · rw [List.take_add_one, hr, List.filter_append, List.map_append]
          show _ = _ ++ List.map rowQ (List.filter (isRow w) [a :: r])
          rw [List.filter_cons, ir, c]; rfl
      · refine ⟨rfl, _, rfl, ?_⟩
        rw [List.take_add_one, hr, List.filter_append]
        show _ = List.map rowQ (_ ++ List.filter (isRow w) [a :: r])
        rw [List.filter_cons, ir, c]
        simp
  · rintro out ρ M2 ⟨rfl, o, rfl, rfl⟩
    refine ⟨_, Sub.refl _, ?_⟩
    rw [List.length_map, List.take_length]
    exact k

/-! ### rows of a plan's text -/
private theorem kind1 (x : Str) : ¬ Builtin.Str.strKind x < Builtin.Str.strKind (st [59, 32]) := by
  have e : Builtin.Str.strKind (st [59, 32]) = 1 := by decide +kernel
  rw [e]
  unfold Builtin.Str.strKind
  split
  · decide
  · split <;> decide
private theorem no59 (q : Rat) : 59 ∉ txL q := fun m => by
  have h : ∀ n : Int, 59 ∉ sgL n := fun n m => by
    unfold sgL at m
    rcases List.mem_append.mp m with m | m
    · split at m
      · simp at m
      · cases m
    · have := (dg_mem m).2; omega
  by_cases c : q.den = 1
  · rw [tx_num c] at m; exact h _ m
  · rw [tx_frac c] at m
    rcases List.mem_append.mp m with m | m
    · exact h _ m
    · rcases List.mem_cons.mp m with m | m
      · cases m
      · have := (dg_mem m).2; omega
private theorem words_free {c : Nat} (hc : c = 32 ∨ c = 59) {S T : List (Rat × Rat)} {Z : List ZR} : ∀ r ∈ rowsP S T Z, ∀ l ∈ r, c ∉ l := by
  have tx : ∀ q, c ∉ txL q := fun q => by
    rcases hc with rfl | rfl
    · exact no32 q
    · exact no59 q
  have ws : c ∉ wSize ∧ c ∉ wShim ∧ c ∉ wDem ∧ c ∉ [58] := by rcases hc with rfl | rfl <;> decide
  have rb : ∀ (w : List Nat) (x : Rat × Rat), c ∉ w → ∀ l ∈ rowB w x, c ∉ l := fun w x hw l hl => by
    unfold rowB at hl
    simp only [List.mem_cons, List.not_mem_nil, or_false] at hl
    rcases hl with rfl | rfl | rfl
    · exact hw
    · exact tx _
    · exact tx _
  intro r hr l hl
  unfold rowsP at hr
  rcases List.mem_append.mp hr with hr | hr
  · obtain ⟨x, _, rfl⟩ := List.mem_map.mp hr; exact rb _ x ws.1 l hl
  rcases List.mem_append.mp hr with hr | hr
  · obtain ⟨x, _, rfl⟩ := List.mem_map.mp hr; exact rb _ x ws.2.1 l hl
  · obtain ⟨z, _, rfl⟩ := List.mem_map.mp hr
    have ts : ∀ qs : List Rat, l ∈ qs.map txL → c ∉ l := fun qs h => by obtain ⟨q, _, rfl⟩ := List.mem_map.mp h; exact tx q
    unfold rowD at hl
    rcases List.mem_cons.mp hl with rfl | hl
    · exact ws.2.2.1
    rcases List.mem_append.mp hl with hl | hl
    · exact ts _ hl
    rcases List.mem_cons.mp hl with rfl | hl
    · exact ws.2.2.2
    rcases List.mem_append.mp hl with hl | hl
    · exact ts _ hl
    simp only [List.mem_cons, List.not_mem_nil, or_false] at hl
    rcases hl with rfl | rfl
    · exact ws.2.2.2
    · exact tx _
private theorem inter_free {c : Nat} (hc : c ≠ 32) : ∀ {ls : List (List Nat)}, (∀ l ∈ ls, c ∉ l) → c ∉ inter 32 ls
  | [], _, m => by cases m
  | l :: ls, f, m => by
    rcases List.mem_append.mp m with m | m
    · exact f l (.head _) m
    · obtain ⟨x, hx, mx⟩ := List.mem_flatten.mp m
      obtain ⟨y, hy, rfl⟩ := List.mem_map.mp hx
      rcases List.mem_cons.mp mx with e | mx
      · exact hc e
      · exact f y (.tail _ hy) mx
private theorem plan_split {S T : List (Rat × Rat)} {Z : List ZR} (h : rowsP S T Z ≠ []) : Txt.split (st (planT S T Z)) (st [59, 32]) = ((rowsP S T Z).map (inter 32)).map st := by
  unfold planT
  exact splitS_st (by decide) (fun z => h (List.map_eq_nil_iff.mp z)) (fun l hl => by
    obtain ⟨r, hr, rfl⟩ := List.mem_map.mp hl
    exact inter_free (by decide) fun l hl => words_free (.inr rfl) r hr l hl) (kind1 _)
private theorem row_split {S T : List (Rat × Rat)} {Z : List ZR} {r : List (List Nat)} (hr : r ∈ rowsP S T Z) (nr : r ≠ []) : Txt.split (st (inter 32 r)) (st [32]) = r.map st :=
  split_st nr fun l hl => words_free (.inl rfl) r hr l hl
private theorem called_size {S T : List (Rat × Rat)} {Z : List ZR} : (rowsP S T Z).filter (isRow wSize) = S.map (rowB wSize) := by
  unfold rowsP
  rw [List.filter_append, List.filter_append]
  rw [List.filter_eq_self.mpr (fun r hr => by obtain ⟨x, _, rfl⟩ := List.mem_map.mp hr; rfl), List.filter_eq_nil_iff.mpr (fun r hr => by obtain ⟨x, _, rfl⟩ := List.mem_map.mp hr; simp [isRow, rowB]), List.filter_eq_nil_iff.mpr (fun r hr => by obtain ⟨x, _, rfl⟩ := List.mem_map.mp hr; simp [isRow, rowD]), List.append_nil, List.append_nil]
private theorem called_shim {S T : List (Rat × Rat)} {Z : List ZR} : (rowsP S T Z).filter (isRow wShim) = T.map (rowB wShim) := by
  unfold rowsP
  rw [List.filter_append, List.filter_append]
  rw [List.filter_eq_nil_iff.mpr (fun r hr => by obtain ⟨x, _, rfl⟩ := List.mem_map.mp hr; simp [isRow, rowB]), List.filter_eq_self.mpr (fun r hr => by obtain ⟨x, _, rfl⟩ := List.mem_map.mp hr; rfl), List.filter_eq_nil_iff.mpr (fun r hr => by obtain ⟨x, _, rfl⟩ := List.mem_map.mp hr; simp [isRow, rowD]), List.append_nil, List.nil_append]
private theorem called_dem {S T : List (Rat × Rat)} {Z : List ZR} : (rowsP S T Z).filter (isRow wDem) = Z.map rowD := by
  unfold rowsP
  rw [List.filter_append, List.filter_append]
  rw [List.filter_eq_nil_iff.mpr (fun r hr => by obtain ⟨x, _, rfl⟩ := List.mem_map.mp hr; simp [isRow, rowB]), List.filter_eq_nil_iff.mpr (fun r hr => by obtain ⟨x, _, rfl⟩ := List.mem_map.mp hr; simp [isRow, rowB]), List.filter_eq_self.mpr (fun r hr => by obtain ⟨x, _, rfl⟩ := List.mem_map.mp hr; rfl), List.nil_append, List.nil_append]

/-! ### plans read or refused -/
noncomputable def spl (x : List Nat) : List (List Nat) := (Txt.split (st x) (st [32])).map fun p => p.cps.toList
private theorem spl_ok (x : List Nat) : spl x ≠ [] ∧ inter 32 (spl x) = x ∧ Txt.split (st x) (st [32]) = (spl x).map st := by
  obtain ⟨ls, ne, _, ei, hs⟩ := split_any 32 x
  have e : spl x = ls := by
    unfold spl
    rw [hs, List.map_map]
    exact List.map_id' ls
  rw [e]; exact ⟨ne, ei, hs⟩
private theorem splitS_any (l : List Nat) : ∃ ls : List (List Nat), ls ≠ [] ∧ interS [59, 32] ls = l ∧ Txt.split (st l) (st [59, 32]) = ls.map st := by
  have hj := StrLaws.join_split (st l) (st [59, 32])
  generalize hP : Txt.split (st l) (st [59, 32]) = Ps at hj
  have eP : Ps = (Ps.map fun p => p.cps.toList).map st := by
    rw [List.map_map]
    exact (List.map_id' Ps).symm
  rw [← StrLaws.glued_eq_join, eP, glueS] at hj
  refine ⟨_, fun z => ?_, st_inj hj, eP⟩
  rw [z] at hj
  have e0 : [] = l := st_inj hj
  rw [List.map_eq_nil_iff.mp z, ← e0] at hP
  have : Txt.split (st []) (st [59, 32]) = [st []] := by
    unfold Txt.split
    rw [if_pos]
    simp [st, Str.length]
  rw [this] at hP
  cases hP
private theorem interS_parts {s : List Nat} (hs : 1 ≤ s.length) : ∀ {ls : List (List Nat)}, ls.length ≤ (interS s ls).length + 1 ∧ ∀ x ∈ ls, x.length ≤ (interS s ls).length ∧ ∀ a ∈ x, a ∈ interS s ls
  | [] => ⟨Nat.zero_le _, fun _ h => nomatch h⟩
  | [l] => by
    have e : interS s [l] = l := List.append_nil l
    rw [e]
    exact ⟨Nat.le_add_left _ _, fun x hx => by rw [List.mem_singleton.mp hx]; exact ⟨Nat.le_refl _, fun _ h => h⟩⟩
  | l :: m :: ls => by
    obtain ⟨h1, h2⟩ := interS_parts hs (ls := m :: ls)
    rw [interS_cons]
    simp only [List.length_append, List.length_cons] at h1 h2 ⊢
    refine ⟨by omega, fun x hx => ?_⟩
    rcases List.mem_cons.mp hx with rfl | hx
    · exact ⟨by omega, fun a ha => List.mem_append_left _ ha⟩
    · obtain ⟨h3, h4⟩ := h2 x hx
      exact ⟨by omega, fun a ha => List.mem_append_right _ (List.mem_append_right _ (h4 a ha))⟩
private theorem TxB.partS {l : List Nat} {ls : List (List Nat)} (h : TxB l) (e : interS [59, 32] ls = l) : ls.length ≤ 5000001 ∧ ∀ x ∈ ls, TxB x := by
  obtain ⟨h1, h2⟩ := interS_parts (s := [59, 32]) (by decide) (ls := ls)
  rw [e] at h1 h2
  have := h.2
  exact ⟨by omega, fun x hx => ⟨fun a ha => h.1 a ((h2 x hx).2 a ha), by have := (h2 x hx).1; omega⟩⟩
private theorem TxB.spl {x : List Nat} (h : TxB x) : TxW (spl x) := h.part (spl_ok x).2.1
noncomputable def PlanG (S T : List (Rat × Rat)) (Z : List ZR) : Prop := S ≠ [] ∧ (∀ x ∈ S, Fig x.1 ∧ Fig x.2 ∧ x.1 ≤ x.2) ∧ (∀ x ∈ T, Fig x.1 ∧ Fig x.2 ∧ x.1 ≤ x.2) ∧ ∀ z ∈ Z, z.1.length = S.length ∧ z.2.1.length = T.length ∧ (∀ q ∈ z.1, Fig q) ∧ (∀ q ∈ z.2.1, Fig q) ∧ Fig z.2.2
noncomputable abbrev Pl3 := List (Rat × Rat) × List (Rat × Rat) × List ZR
noncomputable abbrev PlIs (l : List Nat) (p : Pl3) : Prop := l = planT p.1 p.2.1 p.2.2 ∧ PlanG p.1 p.2.1 p.2.2
noncomputable def gRPE : List D → (Option D → Prop) → Prop := fun ds P => ∃ l, ds = [.str (st l)] ∧ TxB l ∧ Told (PlIs l) (fun p => planQ p.1 p.2.1 p.2.2) P
private theorem spl_row {S T : List (Rat × Rat)} {Z : List ZR} {r : List (List Nat)} (hr : r ∈ rowsP S T Z) (nr : r ≠ []) : spl (inter 32 r) = r := by
  have h := (spl_ok (inter 32 r)).2.2
  rw [row_split hr nr] at h
  exact (st_map_inj h).symm
private theorem rows_ne {S T : List (Rat × Rat)} {Z : List ZR} : ∀ r ∈ rowsP S T Z, r ≠ [] := fun r hr => by
  unfold rowsP at hr
  rcases List.mem_append.mp hr with hr | hr
  · obtain ⟨x, _, rfl⟩ := List.mem_map.mp hr; simp [rowB]
  rcases List.mem_append.mp hr with hr | hr
  · obtain ⟨x, _, rfl⟩ := List.mem_map.mp hr; simp [rowB]
  · obtain ⟨x, _, rfl⟩ := List.mem_map.mp hr; simp [rowD]
private theorem peqs_st : ∀ {a b : List (List Nat)}, peqs (a.map stD) (b.map stD) = true → a = b
  | [], [], _ => rfl
  | [], _ :: _, h => by simp [peqs] at h
  | _ :: _, [], h => by rw [List.map_nil, List.map_cons, peqs] at h; cases h
  | x :: a, y :: b, h => by
    rw [List.map_cons, List.map_cons, peqs, Bool.and_eq_true] at h
    have h1 : peq (.str (st x)) (.str (st y)) = true := h.1
    rw [peq_st] at h1
    rw [of_decide_eq_true h1, peqs_st h.2]
private theorem peqs_rows : ∀ {a b : List (List (List Nat))}, peqs (a.map rowQ) (b.map rowQ) = true → a = b
  | [], [], _ => rfl
  | [], _ :: _, h => by simp [peqs] at h
  | _ :: _, [], h => by rw [List.map_nil, List.map_cons, peqs] at h; cases h
  | x :: a, y :: b, h => by
    rw [List.map_cons, List.map_cons, peqs, Bool.and_eq_true] at h
    have h1 : peq (.lst (x.map stD)) (.lst (y.map stD)) = true := h.1
    rw [peq] at h1
    rw [peqs_st h1, peqs_rows h.2]
private theorem deps_map' {α : Type} {f : α → D} {n : Nat} (h : ∀ x, dep (f x) ≤ n) : ∀ l : List α, deps (l.map f) ≤ n
  | [] => by rw [List.map_nil, deps]; exact Nat.zero_le _
  | x :: l => by rw [List.map_cons, deps]; exact Nat.max_le.mpr ⟨h x, deps_map' h l⟩
private theorem dep_rowQ (r : List (List Nat)) : dep (rowQ r) ≤ 1 := by
  unfold rowQ
  rw [dep]
  exact Nat.succ_le_succ (deps_map' (fun x => Nat.le_refl 0) r)
private theorem dep_rows (R : List (List (List Nat))) : dep (.lst (R.map rowQ)) ≤ 60 := by rw [dep]; exact Nat.le_trans (Nat.succ_le_succ (deps_map' dep_rowQ R)) (by decide)
private theorem row_of {w : List Nat} {r : List (List Nat)} {x : Rat × Rat} (h : isRow w r = true) (b : BdIs r x) : r = rowB w x := by
  cases r with
  | nil => cases h
  | cons a t =>
    have ha : a = w := by
      have : (some a == some w) = true := h
      simpa using this
    have := b.1
    rw [List.drop_succ_cons, List.drop_zero] at this
    rw [ha, this]; rfl
private theorem dem_of {n m : Nat} {r : List (List Nat)} {z : ZR} (h : isRow wDem r = true) (b : DmIs n m r z) : r = rowD z := by
  obtain ⟨a, e, _⟩ := b
  rw [e] at h ⊢
  have ha : a = wDem := by
    have : (some a == some wDem) = true := h
    simpa using this
  rw [ha]; rfl
noncomputable abbrev s_read_plan : Stmt := top 34
private theorem sc_read_plan : FnScope ["text", "rows", "sizes", "shims", "demands"] ["text"] (defScope s_read_plan) := ⟨rfl, rfl, rfl, by decide +kernel, rfl, by decide +kernel, by decide +kernel⟩
private theorem h_read_plan (B : Bl mg) (XC : ExC K mg "NoText") (F : Def K mg "read_plan" s_read_plan ["text"]) (F_require_text : hReq P w K mg base) (F_rows_called : Has P w K mg base CX0 1 "rows_called" ["rows", "word"] (spW K (pur gCalled))) (F_read_bounds : hTX P w K mg base 5 "read_bounds" ["words"] gRBE) (F_read_demand : hTX P w K mg base 5 "read_demand" ["words", "size_count", "shim_count"] gRDE) : hTX P w K mg base 6 "read_plan" ["text"] gRPE := by
  refine hasXE F sc_read_plan (fun ds P h => by obtain ⟨q, rfl, _⟩ := h; rfl) fun f cdv A outer s H E Z0 F0 M ds Q hr hg hx => ?_
  have nd := sc_read_plan.nd
  refine ⟨_, (xss_cons (xs_expr (xe_h F_require_text hx arr_cx (hr.mono (by decide)) rfl (xa_of (ja_nox (ja_cons (jv 0) ja_nil)))))
    (xss_cons (xs_of (js_nox (js_setC (k := 1) nd rfl (Or.inl rfl) ["row"] [none] ⟨rfl, by decide +kernel, by decide +kernel, rfl, rfl, by intro i x j _ h; exact absurd h (by rcases i with _ | _ | _ | i <;> simp)⟩ rfl (ji_list (j_mt (fun ho ha => pe_bm PySem.F.plainAttrs_str PySem.F.slot_str_split PySem.F.type_str_split mt_split ho ha) w_split (jv 0) (ja_cons j_str ja_nil))) (fun _ _ _ _ _ => (jg_name (i := 0) (show List.Nodup [("row" : Str)] by decide +kernel) rfl (Or.inl rfl))) (fun _ _ _ _ _ => jc_nil) (fun _ _ _ _ _ => (j_mt (fun ho ha => pe_bm PySem.F.plainAttrs_str PySem.F.slot_str_split PySem.F.type_str_split mt_split ho ha) w_split (jv 0) (ja_cons j_str ja_nil))))))
    (xss_cons (xs_of (js_nox (js_set (i := 2) nd rfl (Or.inr rfl) (j_h F_rows_called (hr.mono (by decide)) rfl (ja_cons (jv 1) (ja_cons j_str ja_nil))))))
    (xss_cons (xs_of (js_nox (js_set (i := 3) nd rfl (Or.inr rfl) (j_h F_rows_called (hr.mono (by decide)) rfl (ja_cons (jv 1) (ja_cons j_str ja_nil))))))
    (xss_cons (xs_of (js_nox (js_set (i := 4) nd rfl (Or.inl rfl) (j_h F_rows_called (hr.mono (by decide)) rfl (ja_cons (jv 1) (ja_cons j_str ja_nil))))))
    (xss_cons (xs_if (jt_nox (JW.jt (jw_or (jt_eq hr (j_lenV 2 rfl B.len) j_int) (jw_or1 (jt_ne hr (jv 1) (j_fz (jn_cat (j_fz (jn_cat (jv 2) (jv 3))) (jv 4)))))))) (xss_one (xs_raise hx arr_cx rfl XC.m XC.q)) (xss_of (jss_nox jss_nil)))
    (xss_one (xs_ret (xe_tup (xa_cons (xe_lc ["words"] [none] hx arr_cx ⟨rfl, by decide +kernel, by decide +kernel, rfl, rfl, by intro i x j _ h; exact absurd h (by rcases i with _ | _ | _ | i <;> simp)⟩ rfl (ji_list (jv 2)) (fun _ _ _ _ _ => (jg_name (i := 0) (show List.Nodup [("words" : Str)] by decide +kernel) rfl (Or.inl rfl))) (fun _ _ _ _ _ => jc_nil) (fun _ _ _ _ _ _ _ _ _ ar2 hx2 => (xe_h F_read_bounds hx2 ar2 (hr.mono (by decide)) rfl (xa_of (ja_nox (ja_cons (jv 0) ja_nil)))))) (xa_cons (xe_lc ["words"] [none] hx arr_cx ⟨rfl, by decide +kernel, by decide +kernel, rfl, rfl, by intro i x j _ h; exact absurd h (by rcases i with _ | _ | _ | i <;> simp)⟩ rfl (ji_list (jv 3)) (fun _ _ _ _ _ => (jg_name (i := 0) (show List.Nodup [("words" : Str)] by decide +kernel) rfl (Or.inl rfl))) (fun _ _ _ _ _ => jc_nil) (fun _ _ _ _ _ _ _ _ _ ar2 hx2 => (xe_h F_read_bounds hx2 ar2 (hr.mono (by decide)) rfl (xa_of (ja_nox (ja_cons (jv 0) ja_nil)))))) (xa_cons (xe_lc ["words", "sizes", "shims"] [none, some 2, some 3] hx arr_cx ⟨rfl, by decide +kernel, by decide +kernel, rfl, rfl, free_of rfl⟩ rfl (ji_list (jv 4)) (fun _ _ _ _ _ => (jg_name (i := 0) (show List.Nodup [("words" : Str), ("sizes" : Str), ("shims" : Str)] by decide +kernel) rfl (Or.inl rfl))) (fun _ _ _ _ _ => jc_nil) (fun _ _ _ _ _ _ _ _ _ ar2 hx2 => (xe_h F_read_demand hx2 ar2 (hr.mono (by decide)) rfl (xa_of (ja_nox (ja_cons (jv 0) (ja_cons (j_lenV 1 rfl B.len) (ja_cons (j_lenV 2 rfl B.len) ja_nil)))))))) (xa_of (ja_nox ja_nil)))))))))))))), ?_⟩
  obtain ⟨l, rfl, tb, k1, k2⟩ := hg
  refine ⟨_, rfl, fun _ => ?_, fun z => nomatch z⟩
  obtain ⟨ls, ne, ei, hs⟩ := splitS_any l
  obtain ⟨lp, tp⟩ := tb.partS ei
  refine ⟨Str.ofString "; ", rfl, ?_⟩
  rw [eSemi, hs, List.map_map]
  refine ⟨rfl, tb.sz, by rw [List.length_map]; exact szM lp, fun j out ρ M2 => M2 = M ∧ ∃ o : Ent, ρ = [o] ∧ out = ((ls.map spl).take j).map rowQ, ⟨rfl, _, rfl, rfl⟩, ?_, ?_⟩
  · rintro j d out ρ M2 hd ⟨rfl, o, rfl, rfl⟩
    obtain ⟨x, hx', rfl⟩ := map_get hd
    have hj := (List.getElem?_eq_some_iff.mp hx').1
    have tx := tp x (List.mem_of_getElem? hx')
    refine ⟨Str.ofString " ", rfl, ?_⟩
    rw [e32]
    show _ ∧ (st x).length ≤ _ ∧ (Txt.split (st x) (st [32])).length ≤ _ ∧ _
    rw [(spl_ok x).2.2]
    refine ⟨rfl, tx.sz, by rw [List.length_map]; exact szM tx.spl.1, ?_, rfl, _, rfl, ?_⟩
    · rw [List.length_map, List.length_take, List.length_map]; exact szL (by omega)
    · rw [List.take_add_one, List.getElem?_map, hx', List.map_append, List.map_map]; rfl
  rintro out ρ M2 ⟨rfl, o, rfl, rfl⟩
  rw [List.length_map, show (ls.map spl).take ls.length = ls.map spl by rw [← List.length_map (f := spl), List.take_length]]
  generalize hR : ls.map spl = R
  have lR : R.length ≤ 5000001 := by rw [← hR, List.length_map]; exact lp
  have nR : ∀ r ∈ R, r ≠ [] := fun r hr => by rw [← hR] at hr; obtain ⟨x, _, rfl⟩ := List.mem_map.mp hr; exact (spl_ok x).1
  have tR : ∀ r ∈ R, TxW r := fun r hr => by rw [← hR] at hr; obtain ⟨x, hx', rfl⟩ := List.mem_map.mp hr; exact (tp x hx').spl
  have same : ∀ p, PlIs l p → R = rowsP p.1 p.2.1 p.2.2 := fun p hp => by
    have nr : rowsP p.1 p.2.1 p.2.2 ≠ [] := fun z => by
      unfold rowsP at z
      exact hp.2.1 (List.map_eq_nil_iff.mp (List.append_eq_nil_iff.mp z).1)
    have h := plan_split nr
    rw [← hp.1, hs] at h
    rw [← hR, st_map_inj h, List.map_map]
    conv => rhs; rw [← List.map_id (rowsP p.1 p.2.1 p.2.2)]
    exact List.map_congr_left fun r hr => spl_row hr (rows_ne r hr)
  have back : R.map (inter 32) = ls := by
    rw [← hR, List.map_map]
    conv => rhs; rw [← List.map_id ls]
    exact List.map_congr_left fun x _ => (spl_ok x).2.1
  clear hR
  refine ⟨R, wSize, by rw [eSize]; rfl, lR, nR, R, wShim, by rw [eShim]; rfl, lR, nR, R, wDem, by rw [eDem]; rfl, lR, nR, ?_⟩
  have fl : ∀ w, (R.filter (isRow w)).length ≤ 5000001 := fun w => Nat.le_trans (List.length_filter_le _ _) lR
  have mf : ∀ {w r}, r ∈ R.filter (isRow w) → isRow w r = true ∧ TxW r := fun {w r} h => ⟨(List.mem_filter.mp h).2, tR r (List.mem_filter.mp h).1⟩
  have dS : ∀ p, PlIs l p → R.filter (isRow wSize) = p.1.map (rowB wSize) ∧ R.filter (isRow wShim) = p.2.1.map (rowB wShim) ∧ R.filter (isRow wDem) = p.2.2.map rowD := fun p hp => by
    rw [same p hp]; exact ⟨called_size, called_shim, called_dem⟩
  generalize hA : R.filter (isRow wSize) = WA at dS
  generalize hB : R.filter (isRow wShim) = WB at dS
  generalize hC : R.filter (isRow wDem) = WC at dS
  have lA : WA.length ≤ 5000001 := by rw [← hA]; exact fl _
  have lB : WB.length ≤ 5000001 := by rw [← hB]; exact fl _
  have lC : WC.length ≤ 5000001 := by rw [← hC]; exact fl _
  refine ⟨by show 0 ≤ 60; decide, ?_⟩
  show if peq (.int ((WA.map rowQ).length : Int)) (.int 0) = true then _ else _
  refine iteB (fun c => ⟨Sub.refl _, k2 fun p hp => ?_⟩) (fun c => ?_)
  · have : WA.length = 0 := by simpa [peq] using c
    have e := (dS p hp).1
    rw [List.length_eq_zero_iff.mp this] at e
    exact hp.2.1 (List.map_eq_nil_iff.mp e.symm)
  have nA : WA ≠ [] := fun z => by subst z; cases c
  refine ⟨by simp only [List.length_map]; exact Nat.le_trans (show _ ≤ 10000002 by omega) (by rw [sizeLine_eq]; decide), by simp only [List.length_append, List.length_map]; exact Nat.le_trans (show _ ≤ 15000003 by omega) (by rw [sizeLine_eq]; decide), ?_⟩
  rw [← List.map_append, ← List.map_append]
  refine ⟨dep_rows _, ?_⟩
  show if (!peq (.lst (R.map rowQ)) (.lst ((WA ++ WB ++ WC).map rowQ))) = true then _ else _
  refine iteB (fun c => ⟨Sub.refl _, k2 fun p hp => ?_⟩) (fun c => ?_)
  · obtain ⟨e1, e2, e3⟩ := dS p hp
    have : R = WA ++ WB ++ WC := by rw [same p hp, e1, e2, e3, List.append_assoc]; rfl
    rw [← this, peq_refl] at c
    cases c
  have eR : R = WA ++ WB ++ WC := by
    have c : peq (.lst (R.map rowQ)) (.lst ((WA ++ WB ++ WC).map rowQ)) = true := by simpa using c
    rw [peq] at c
    exact peqs_rows c
  -- sizes
  refine ⟨fun j out ρ M3 => M3 = M2 ∧ ∃ o : Ent, ρ = [o] ∧ ∃ S : List (Rat × Rat), WA.take j = S.map (rowB wSize) ∧ (∀ x ∈ S, Fig x.1 ∧ Fig x.2 ∧ x.1 ≤ x.2) ∧ out = S.map bQ, ⟨rfl, _, rfl, [], rfl, (fun _ h => nomatch h), rfl⟩, ?_, ?_⟩
  · rintro j d out ρ M3 hd ⟨rfl, o, rfl, S, eS, fS, rfl⟩
    obtain ⟨r, hr', rfl⟩ := map_get hd
    have hj := (List.getElem?_eq_some_iff.mp hr').1
    have mr := List.mem_of_getElem? hr'
    obtain ⟨m1, m2⟩ := mf (w := wSize) (r := r) (by rw [hA]; exact mr)
    have lS : S.length ≤ j := by
      have := congrArg List.length eS
      rw [List.length_map, List.length_take] at this; omega
    refine ⟨r, rfl, m2, fun x hx' => ⟨by rw [List.length_map]; exact szL (by omega), rfl, _, rfl, S ++ [x], ?_, fun y hy => ?_, by rw [List.map_append]; rfl⟩, fun h => ⟨Sub.refl _, k2 fun p hp => ?_⟩⟩
    · rw [List.take_add_one, hr', eS, List.map_append, row_of m1 hx']; rfl
    · rcases List.mem_append.mp hy with hy | hy
      · exact fS y hy
      · rw [List.mem_singleton.mp hy]; exact hx'.2
    · rw [(dS p hp).1] at mr
      obtain ⟨x, hx', rfl⟩ := List.mem_map.mp mr
      exact h x ⟨rfl, hp.2.2.1 x hx'⟩
  rintro out ρ M3 ⟨rfl, o, rfl, S, eS, fS, rfl⟩
  rw [List.length_map, List.take_length] at eS
  -- shims
  refine ⟨fun j out ρ M4 => M4 = M3 ∧ ∃ o : Ent, ρ = [o] ∧ ∃ T : List (Rat × Rat), WB.take j = T.map (rowB wShim) ∧ (∀ x ∈ T, Fig x.1 ∧ Fig x.2 ∧ x.1 ≤ x.2) ∧ out = T.map bQ, ⟨rfl, _, rfl, [], rfl, (fun _ h => nomatch h), rfl⟩, ?_, ?_⟩
  · rintro j d out ρ M4 hd ⟨rfl, o, rfl, T, eT, fT, rfl⟩
    obtain ⟨r, hr', rfl⟩ := map_get hd
    have hj := (List.getElem?_eq_some_iff.mp hr').1
    have mr := List.mem_of_getElem? hr'
    obtain ⟨m1, m2⟩ := mf (w := wShim) (r := r) (by rw [hB]; exact mr)
    have lT : T.length ≤ j := by
      have := congrArg List.length eT
      rw [List.length_map, List.length_take] at this; omega
    refine ⟨r, rfl, m2, fun x hx' => ⟨by rw [List.length_map]; exact szL (by omega), rfl, _, rfl, T ++ [x], ?_, fun y hy => ?_, by rw [List.map_append]; rfl⟩, fun h => ⟨Sub.refl _, k2 fun p hp => ?_⟩⟩
    · rw [List.take_add_one, hr', eT, List.map_append, row_of m1 hx']; rfl
    · rcases List.mem_append.mp hy with hy | hy
      · exact fT y hy
      · rw [List.mem_singleton.mp hy]; exact hx'.2
    · rw [(dS p hp).2.1] at mr
      obtain ⟨x, hx', rfl⟩ := List.mem_map.mp mr
      exact h x ⟨rfl, hp.2.2.2.1 x hx'⟩
  rintro out ρ M4 ⟨rfl, o, rfl, T, eT, fT, rfl⟩
  rw [List.length_map, List.take_length] at eT
  have lSA : S.length = WA.length := by rw [eS, List.length_map]
  have lTB : T.length = WB.length := by rw [eT, List.length_map]
  -- demands
  refine ⟨fun j out ρ M5 => M5 = M4 ∧ ∃ o : Ent, ρ = [o, .sh (.lst (WA.map rowQ)), .sh (.lst (WB.map rowQ))] ∧ ∃ Z : List ZR, WC.take j = Z.map rowD ∧ (∀ z ∈ Z, z.1.length = S.length ∧ z.2.1.length = T.length ∧ (∀ q ∈ z.1, Fig q) ∧ (∀ q ∈ z.2.1, Fig q) ∧ Fig z.2.2) ∧ out = Z.map zQ, ⟨rfl, _, rfl, [], rfl, (fun _ h => nomatch h), rfl⟩, ?_, ?_⟩
  · rintro j d out ρ M5 hd ⟨rfl, o, rfl, Z, eZ, fZ, rfl⟩
    obtain ⟨r, hr', rfl⟩ := map_get hd
    have hj := (List.getElem?_eq_some_iff.mp hr').1
    have mr := List.mem_of_getElem? hr'
    obtain ⟨m1, m2⟩ := mf (w := wDem) (r := r) (by rw [hC]; exact mr)
    have lZ : Z.length ≤ j := by
      have := congrArg List.length eZ
      rw [List.length_map, List.length_take] at this; omega
    refine ⟨r, S.length, T.length, by rw [List.length_map, List.length_map, lSA, lTB], m2, fun z hz => ⟨by rw [List.length_map]; exact szL (by omega), rfl, _, rfl, Z ++ [z], ?_, fun y hy => ?_, by rw [List.map_append]; rfl⟩, fun h => ⟨Sub.refl _, k2 fun p hp => ?_⟩⟩
    · rw [List.take_add_one, hr', eZ, List.map_append, dem_of m1 hz]; rfl
    · rcases List.mem_append.mp hy with hy | hy
      · exact fZ y hy
      · rw [List.mem_singleton.mp hy]
        obtain ⟨_, _, g⟩ := hz
        exact g
    · obtain ⟨e1, e2, e3⟩ := dS p hp
      rw [e3] at mr
      obtain ⟨z, hz, rfl⟩ := List.mem_map.mp mr
      refine h z ⟨_, rfl, ?_⟩
      rw [lSA, lTB, e1, e2, List.length_map, List.length_map]
      exact hp.2.2.2.2 z hz
  rintro out ρ M5 ⟨rfl, o, rfl, Z, eZ, fZ, rfl⟩
  rw [List.length_map, List.take_length] at eZ
  refine ⟨by show 3 ≤ sizeLine; decide, Sub.refl _, k1 (S, T, Z) ⟨?_, fun z => nA (by rw [eS]; have z : S = [] := z; rw [z]; rfl), fS, fT, fZ⟩⟩
  show l = planT S T Z
  unfold planT rowsP
  rw [← eS, ← eT, ← eZ, ← List.append_assoc, ← eR, back, ei]

/-! ### pools: dicts that are drawn from, with a budget -/
private theorem U1 {k : Nat} {A : Around} (hr : Room k A) : A.units + 1 < cLine := Nat.lt_of_le_of_lt (Nat.add_le_add_left (by decide) _) (Room.u60 hr)
private theorem noSl_str {x : Str} {j : Nat} {pos : Pos} : NoSl (.Constant (.str x) j pos) := by
  first | exact fun _ _ => rfl | (intro _ _ _ _ _ h; cases h) | trivial | decide
noncomputable def PoolAt (b : Int) (o : HO) : Prop := ∃ (kvs : List (Key × V)) (rest count : Int) (mixed : Bool), o = .dK kvs ∧ kvs.length ≤ 10 ∧ valV kvs (.inr "rest") = some (.int rest) ∧ valV kvs (.inr "mixed") = some (.bl mixed) ∧ valV kvs (.inr "count") = some (.int count) ∧ 0 ≤ count ∧ count + b ≤ 1000000000000000
private theorem putK_len {kvs : List (Key × V)} {k : Key} {v y : V} (h : valV kvs k = some v) : (putK kvs k y).length = kvs.length := by
  unfold putK
  have : (kvs.any fun kv => decide (kv.1 = k)) = true := by
    unfold valV at h
    rw [Option.map_eq_some_iff] at h
    obtain ⟨p, hp, _⟩ := h
    rw [List.any_eq_true]
    exact ⟨p, List.mem_of_find?_eq_some hp, by have := List.find?_some hp; simpa using this⟩
  rw [if_pos this, List.length_map]
noncomputable def spTake : Sp := fun vs H Q _ => ∃ (p : Addr) (many b : Int) (o : HO), vs = [.ref p, .int many] ∧ H p = some o ∧ PoolAt b o ∧ 1 ≤ b ∧ 0 < many ∧ Sm 9000 many ∧ ∀ r o', 0 ≤ r → r < many → PoolAt (b - 1) o' → Q (.int r) (upd H p o')
private theorem upd_upd {H : Hp} {p : Addr} {o o' : HO} : upd (upd H p o) p o' = upd H p o' := by
  funext b
  by_cases h : b = p
  · subst h; rw [upd_same, upd_same]
  · rw [upd_ne h, upd_ne h, upd_ne h]
noncomputable abbrev s_law_take : Stmt := top 38
private theorem sc_law_take : FnScope ["pool", "many", "rest"] ["pool", "many"] (defScope s_law_take) := ⟨rfl, rfl, rfl, by decide +kernel, rfl, by decide +kernel, by decide +kernel⟩
private theorem h0__law_take (B : Bl mg) (F : Def K mg "_law_take" s_law_take ["pool", "many"]) : Has P w K mg base CX0 1 "_law_take" ["pool", "many"] spTake := by
  refine F.has sc_law_take (fun vs H Q E h => by obtain ⟨_, _, _, _, rfl, _⟩ := h; rfl) (fun f cdv A outer s H vs Q E hr h => ?_)
  obtain ⟨p, many, b, o, rfl, hp, ⟨kvs, rest, count, mixed, rfl, l10, k1, k2, k3, c0, cb⟩, b1, m0, m1, q⟩ := h
  have nd := sc_law_take.nd
  refine ⟨_, (pss_cons (ps_set (i := 2) nd rfl (Or.inl rfl) (pe_dget (U1 hr) (pv 0) pe_str noSl_str))
    (pss_cons (ps_if (pt_not (pt_val (pe_dget (U1 hr) (pv 0) pe_str noSl_str))) (pss_cons (ps_dput (U1 hr) (pv 0) pe_str (pe_op op_fdivS (pv 2) (pv 1)) rfl)
    (pss_one (ps_ret (pe_op op_modN (pv 2) (pv 1))))) pss_nil)
    (pss_cons (ps_dput (U1 hr) (pv 0) pe_str (pe_op op_add (pe_dget (U1 hr) (pv 0) pe_str noSl_str) pe_int) rfl)
    (pss_cons (ps_set (i := 2) nd rfl (Or.inl rfl) (pe_op op_add (pe_op op_modN (pv 2) pe_int) (pe_op op_mulS pe_int (pe_dget (U1 hr) (pv 0) pe_str noSl_str))))
    (pss_cons (ps_set (i := 2) nd rfl (Or.inl rfl) (pe_op op_modN (pe_op op_mulS (pv 2) (pe_op op_add (pv 2) pe_int)) pe_int))
    (pss_cons (ps_set (i := 2) nd rfl (Or.inl rfl) (pe_op op_modN (pe_op op_mulS (pv 2) (pv 2)) pe_int))
    (pss_cons (ps_dput (U1 hr) (pv 0) pe_str (pv 2) rfl)
    (pss_one (ps_ret (pe_op op_modN (pe_op op_fdivS (pv 2) pe_int) (pv 1))))))))))), ?_⟩
  have lk : kvs.length < sizeLine := Nat.lt_of_le_of_lt l10 (by decide)
  have g1 : DGet H p (.str "rest") (some (.int rest)) := by have := DGet.k (k := .inr "rest") hp; rw [k1] at this; exact this
  have g2 : DGet H p (.str "mixed") (some (.bl mixed)) := by have := DGet.k (k := .inr "mixed") hp; rw [k2] at this; exact this
  refine ⟨_, rfl, p, _, rfl, g1, _, rfl, p, _, rfl, g2, _, rfl, ?_⟩
  have ne12 : ¬ ((.inr "mixed" : Key) = .inr "rest") := by decide
  have ne13 : ¬ ((.inr "count" : Key) = .inr "rest") := by decide
  have ne31 : ¬ ((.inr "rest" : Key) = .inr "count") := by decide
  have ne32 : ¬ ((.inr "mixed" : Key) = .inr "count") := by decide
  have ml : ∀ x : Int, 0 ≤ x.fmod many ∧ x.fmod many < many := fun x => by
    rw [Int.fmod_eq_emod_of_nonneg _ (by omega)]; exact ⟨Int.emod_nonneg _ (by omega), Int.emod_lt_of_pos _ m0⟩
  refine iteB (fun c => ?_) (fun c => ?_)
  · refine ⟨_, rfl, _, rfl, _, _, rfl, rfl, ⟨by omega, m1⟩, _, rfl, p, _, rfl, DPut.k (k := .inr "rest") hp lk, ?_⟩
    refine ⟨_, rfl, _, rfl, _, _, rfl, rfl, (by omega : many ≠ 0), ?_⟩
    refine q _ _ (ml _).1 (ml _).2 ⟨_, _, count, mixed, rfl, by rw [putK_len k1]; exact l10, by rw [valV_put, if_pos rfl], by rw [valV_put, if_neg ne12]; exact k2, by rw [valV_put, if_neg ne13]; exact k3, c0, by omega⟩
  · have g3 : DGet H p (.str "count") (some (.int count)) := by have := DGet.k (k := .inr "count") hp; rw [k3] at this; exact this
    refine ⟨_, rfl, p, _, rfl, g3, _, _, rfl, rfl, _, rfl, p, _, rfl, DPut.k (k := .inr "count") hp lk, ?_⟩
    generalize e1 : putK kvs (.inr "count") (.int (count + 1)) = kv1
    have h1 : valV kv1 (.inr "count") = some (.int (count + 1)) := by rw [← e1, valV_put, if_pos rfl]
    have h2 : valV kv1 (.inr "rest") = some (.int rest) := by rw [← e1, valV_put, if_neg ne31]; exact k1
    have h3 : valV kv1 (.inr "mixed") = some (.bl mixed) := by rw [← e1, valV_put, if_neg ne32]; exact k2
    have l1 : kv1.length ≤ 10 := by rw [← e1, putK_len k3]; exact l10
    have hp1 : upd H p (.dK kv1) p = some (.dK kv1) := upd_same
    have g4 : DGet (upd H p (.dK kv1)) p (.str "count") (some (.int (count + 1))) := by have := DGet.k (k := .inr "count") hp1; rw [h1] at this; exact this
    have sm : ∀ x : Int, -(2 ^ 100 : Int) < x → x < (2 ^ 100 : Int) → Sm 100 x := fun x a b => sm_of a b
    have P1 : 0 ≤ rest.fmod 1000000000357 ∧ rest.fmod 1000000000357 < 1000000000357 := by
      rw [Int.fmod_eq_emod_of_nonneg _ (by decide)]; exact ⟨Int.emod_nonneg _ (by decide), Int.emod_lt_of_pos _ (by decide)⟩
    have pw : (2 : Int) ^ 100 = 1267650600228229401496703205376 := by decide
    refine ⟨_, rfl, _, _, rfl, rfl, (by decide : (1000000000357 : Int) ≠ 0), _, rfl, p, _, rfl, g4, _, _, rfl, rfl, ⟨100, 100, by decide, sm _ (by decide) (by decide), sm _ (by omega) (by omega)⟩, _, _, rfl, rfl, ?_⟩
    refine ⟨_, rfl, _, rfl, _, _, rfl, rfl, _, _, rfl, rfl, ⟨100, 100, by decide, sm _ (by omega) (by omega), sm _ (by omega) (by omega)⟩, _, _, rfl, rfl, (by decide : (1000000000387 : Int) ≠ 0), ?_⟩
    have P2 : ∀ y : Int, 0 ≤ y.fmod 1000000000387 ∧ y.fmod 1000000000387 < 1000000000387 := fun y => by
      rw [Int.fmod_eq_emod_of_nonneg _ (by decide)]; exact ⟨Int.emod_nonneg _ (by decide), Int.emod_lt_of_pos _ (by decide)⟩
    have P2 := P2 ((rest.fmod 1000000000357 + 30011 * (count + 1)) * (rest.fmod 1000000000357 + 30011 * (count + 1) + 61))
    refine ⟨_, rfl, _, rfl, _, _, rfl, rfl, ⟨100, 100, by decide, sm _ (by omega) (by omega), sm _ (by omega) (by omega)⟩, _, _, rfl, rfl, (by decide : (999999999863 : Int) ≠ 0), ?_⟩
    refine ⟨_, rfl, _, rfl, p, _, rfl, DPut.k (k := .inr "rest") hp1 (Nat.lt_of_le_of_lt l1 (by decide)), ?_⟩
    rw [upd_upd]
    refine ⟨_, rfl, _, _, rfl, rfl, ⟨by decide, by unfold Sm; exact Nat.lt_of_lt_of_le (show (17 : Int).natAbs < 2 ^ 5 by decide) (Nat.pow_le_pow_right (by decide) (by decide))⟩, _, rfl, _, _, rfl, rfl, (by omega : many ≠ 0), ?_⟩
    exact q _ _ (ml _).1 (ml _).2 ⟨_, _, count + 1, mixed, rfl, by rw [putK_len h2]; exact l1, by rw [valV_put, if_pos rfl], by rw [valV_put, if_neg ne12]; exact h3, by rw [valV_put, if_neg ne13]; exact h1, by omega, by omega⟩
noncomputable def isPool (b : Int) : HO → Prop := PoolAt b
noncomputable def gTake : List D → (D → Prop) → Prop := fun ds P => ∃ many : Int, ds = [.int many] ∧ 0 < many ∧ Sm 9000 many ∧ ∀ r : Int, 0 ≤ r → r < many → P (.int r)
private theorem less_pool : Less isPool := fun b b' o h ⟨kvs, rest, count, mixed, e, l, k1, k2, k3, c0, cb⟩ => ⟨kvs, rest, count, mixed, e, l, k1, k2, k3, c0, by omega⟩
private theorem h__law_take (B : Bl mg) (F : Def K mg "_law_take" s_law_take ["pool", "many"]) : Has P w K mg base CX0 1 "_law_take" ["pool", "many"] (spP K isPool 1 gTake) := by
  obtain ⟨f, fd, F, b, kp, m⟩ := (h0__law_take (P := P) (w := w) (base := base) B F).ex
  refine ⟨f, fd, F.imp ?_, b, kp, m⟩
  rintro vs H Q E ⟨Z, F', M, p, vs', ds, P, b, rfl, ag, hp, hb, r, ⟨many, rfl, m0, m1, q⟩, kk⟩
  obtain ⟨v, rfl, rv⟩ := rps1 r
  rw [Rp] at rv
  subst rv
  obtain ⟨fp, o, ho, po⟩ := ag.mo p _ hp
  refine ⟨p, many, b, o, rfl, ho, po, hb, m0, m1, fun r o' r0 r1 po' => kk (.int r) _ F' (.int r) (Same.refl _) ⟨fun b o e => ?_, fun b o e => ?_, fun b o e => ?_⟩ (by rw [Rp]) (q r r0 r1)⟩
  · rw [upd_ne (fun z => by rw [z, fp] at e; cases e)]; exact ag.sm b o e
  · obtain ⟨a1, a2, a3⟩ := ag.zz b o e
    have ne : b ≠ p := fun z => by rw [z, hp] at a3; cases a3
    exact ⟨by rw [upd_ne ne]; exact a1, a2, by rw [mset_ne ne]; exact a3⟩
  · by_cases e1 : b = p
    · subst e1
      rw [mset_same] at e
      cases e
      exact ⟨fp, o', upd_same, po'⟩
    · rw [mset_ne e1] at e
      obtain ⟨a1, a2⟩ := ag.mo b o e
      exact ⟨a1, MOk.same (Same.refl _) (upd_ne e1) a2⟩

/-! ### k74's draws -/
noncomputable def spNth (K : PySem.W.Frag) : Sp := fun vs H Q _ => ∃ (p : Addr) (k : Int) (ns : List Int), vs = [.ref p, .int k] ∧ 0 ≤ k ∧ k ≤ 1000 ∧ SqL K H p (ns.map V.int) ∧ ∀ (c : Int) H', Same H H' → Q (.int c) H'
noncomputable abbrev s_law_nth : Stmt := top 36
private theorem sc_law_nth : FnScope ["script", "k", "cell"] ["script", "k"] (defScope s_law_nth) := ⟨rfl, rfl, rfl, by decide +kernel, rfl, by decide +kernel, by decide +kernel⟩
private theorem h0__law_nth (B : Bl mg) (F : Def K mg "_law_nth" s_law_nth ["script", "k"]) : Has P w K mg base CX0 1 "_law_nth" ["script", "k"] (spNth K) := by
  refine F.has sc_law_nth (fun vs H Q E h => by obtain ⟨_, _, _, rfl, _⟩ := h; rfl) (fun f cdv A outer s H vs Q E hr h => ?_)
  obtain ⟨p, k, ns, rfl, k0, k1, hp, q⟩ := h
  have nd := sc_law_nth.nd
  refine ⟨_, (pss_cons (ps_for PassesOwn.never rfl (pi_list (pe_slice sl_list (pv 0) (po_some (pv 1)) (po_some (pe_op op_add (pv 1) pe_int)))) (pg_name (i := 2) nd rfl (Or.inl rfl))
    (pss_one (ps_ret (pv 2))))
    (pss_one (ps_ret pe_int))), ?_⟩
  refine ⟨_, rfl, _, rfl, _, rfl, _, rfl, _, _, rfl, rfl, _, rfl, p, ns.map V.int, rfl, hp, fun l hl => ?_⟩
  generalize hc : cutV (ns.map V.int) (some k) (some (k + 1)) = cs
  have hi : ∀ x ∈ cs, ∃ c, x = .int c := fun x hx => by
    rw [← hc] at hx
    unfold cutV at hx
    obtain ⟨c, _, rfl⟩ := List.mem_map.mp (List.mem_of_mem_drop (List.mem_of_mem_take hx))
    exact ⟨c, rfl⟩
  have sm : Same H (upd H l (.lst cs)) := Same.new hl
  have hq : SqL K (upd H l (.lst cs)) l cs := SqL.of upd_same
  refine ⟨l, rfl, ⟨_, hq⟩, fun i m σ H' => i = 0 ∧ σ = L2.start ["script", "k", "cell"] [V.ref p, V.int k] ∧ H' = upd H l (.lst cs), ⟨0, rfl, rfl, rfl⟩, ?_⟩
  rintro i m σ H' ⟨rfl, rfl, rfl⟩
  cases cs with
  | nil => exact .inl ⟨⟨_, hq, Nat.le_refl _⟩, q 0 _ sm⟩
  | cons x cs =>
    refine .inr ⟨⟨_, x, hq, rfl⟩, fun _ _ => False, fun _ _ h => h.elim, fun y H' ⟨e, hy⟩ => ?_⟩
    subst e
    have := hy _ hq
    cases this
    obtain ⟨c, rfl⟩ := hi x (.head _)
    exact ⟨_, rfl, q c _ sm⟩
noncomputable def gCell : List D → (D → Prop) → Prop := fun ds P => ∃ k : Int, ds = [.int k] ∧ 0 ≤ k ∧ k ≤ 1000 ∧ ∀ c : Int, P (.int c)
private theorem h__law_nth (B : Bl mg) (F : Def K mg "_law_nth" s_law_nth ["script", "k"]) : Has P w K mg base CX0 1 "_law_nth" ["script", "k"] (spD K (Scr K) gCell) := by
  obtain ⟨f, fd, F, b, kp, m⟩ := (h0__law_nth (P := P) (w := w) (base := base) B F).ex
  refine ⟨f, fd, F.imp ?_, b, kp, m⟩
  rintro vs H Q E ⟨Z, F', M, p, vs', ds, P, rfl, ag, ⟨ns, hS⟩, r, ⟨k, rfl, k0, k1, q⟩, kk⟩
  obtain ⟨v, rfl, rv⟩ := rps1 r
  rw [Rp] at rv
  subst rv
  exact ⟨p, k, ns, rfl, k0, k1, hS.sq ag, fun c H' sm => kk _ H' F' _ (Same.refl _) (ag.grow (Same.refl _) sm (ag.sm.trans sm) fun p h _ => h) (by rw [Rp]) (q c)⟩
private theorem cmL {i j : Int} (h : -(2 ^ 64) < i ∧ i < 2 ^ 64) : CM i j := .inl (.inl h)
noncomputable def gkPool : List D → Prop := fun ds => ∃ k : Int, ds = [.int k] ∧ 0 ≤ k ∧ k ≤ 1000
noncomputable abbrev s_law_pool : Stmt := top 37
private theorem sc_law_pool : FnScope ["script", "k", "cell"] ["script", "k"] (defScope s_law_pool) := ⟨rfl, rfl, rfl, by decide +kernel, rfl, by decide +kernel, by decide +kernel⟩
private theorem h__law_pool (B : Bl mg) (F : Def K mg "_law_pool" s_law_pool ["script", "k"]) (F__law_nth : Has P w K mg base CX0 1 "_law_nth" ["script", "k"] (spD K (Scr K) gCell)) : Has P w K mg base CX0 2 "_law_pool" ["script", "k"] (spMk K (Scr K) gkPool (isPool 100000000)) := by
  refine F.hasMkO sc_law_pool (fun ds h => by obtain ⟨_, rfl, _⟩ := h; rfl) fun f cdv A outer s H E hr => ?_
  have nd := sc_law_pool.nd
  refine ⟨_, (jss_cons (js_set (i := 2) nd rfl (Or.inl rfl) (j_hD 0 F__law_nth (hr.mono (by decide)) rfl (ja_cons (jv 1) ja_nil)))
    (jss_one (js_retD3 (isPool 100000000) (jv 2) (j_lt (jv 2) (j_pow j_int j_int)) (j_add j_int (j_mul j_int (jv 1)))))), ?_⟩
  rintro p ds M hS ⟨k, rfl, k0, k1⟩
  refine ⟨hS, k, rfl, k0, k1, fun c => ⟨⟨by decide, by decide⟩, cmL ⟨by decide, by decide⟩, _, _, _, rfl, rfl, rfl, ⟨_, c, 7 + 3 * k, decide (c < 10 ^ 18), rfl, by show 3 ≤ 10; decide, rfl, rfl, rfl, by omega, by omega⟩, fun q hq => ⟨q, rfl, hq, Sub.refl _⟩⟩⟩
noncomputable def gLeast : List D → (D → Prop) → Prop := fun ds P => ∃ a b : Int, ds = [.int a, .int b] ∧ 0 < b ∧ Sm 9000 b ∧ P (frD (Rat.divInt a b))
noncomputable abbrev s_law_least : Stmt := top 39
private theorem sc_law_least : FnScope ["top", "bottom", "one", "other", "rest"] ["top", "bottom"] (defScope s_law_least) := ⟨rfl, rfl, rfl, by decide +kernel, rfl, by decide +kernel, by decide +kernel⟩
private theorem h__law_least (B : Bl mg) (F : Def K mg "_law_least" s_law_least ["top", "bottom"]) : Has P w K mg base CX0 1 "_law_least" ["top", "bottom"] (spW K (pur gLeast)) := by
  refine F.hasP sc_law_least (fun ds P h => by obtain ⟨a, b, rfl, _⟩ := h; rfl) fun f cdv A outer s H E hr => ?_
  have nd := sc_law_least.nd
  refine ⟨_, (jss_cons (js_set (i := 2) nd rfl (Or.inl rfl) (j_abs rfl B.abs (ja_cons (jv 0) ja_nil)))
    (jss_cons (js_set (i := 3) nd rfl (Or.inl rfl) (jv 1))
    (jss_cons (js_while PassesOwn.never (jt_gt (jv 3) j_int) (jss_cons (js_set (i := 4) nd rfl (Or.inl rfl) (j_mod (jv 2) (jv 3)))
    (jss_cons (js_set (i := 2) nd rfl (Or.inl rfl) (jv 3))
    (jss_one (js_set (i := 3) nd rfl (Or.inl rfl) (jv 4))))))
    (jss_one (js_ret (j_tup (ja_cons (j_fdiv (jv 0) (jv 2)) (ja_cons (j_fdiv (jv 1) (jv 2)) ja_nil)))))))), ?_⟩
  rintro ds M Q ⟨a, b, rfl, b0, hs, q⟩
  have hb : b ≠ 0 := by omega
  refine ⟨fun m ρ M' => M' = M ∧ ∃ (l k : Int) (o : Ent), ρ = [.sh (.int a), .sh (.int b), .sh (.int l), .sh (.int k), o] ∧ m = k.natAbs ∧ 0 ≤ l ∧ 0 ≤ k ∧ Int.gcd l k = Int.gcd a b, ⟨_, rfl, _, _, _, rfl, rfl, ?_, by omega, ?_⟩, ?_⟩
  · split <;> omega
  · split <;> simp [Int.neg_gcd]
  rintro m ρ M' ⟨rfl, l, k, o, rfl, rfl, l0, k0, e⟩
  show if decide (0 < k) = true then _ else _
  refine iteB (fun c => ?_) (fun c => ?_)
  · have c' : k ≠ 0 := by have : 0 < k := by simpa using c
                          omega
    exact ⟨c', _, fmod_small (a := l) c', rfl, _, _, _, rfl, rfl, k0, Int.fmod_nonneg l0 k0, by rw [gcd_step, e]⟩
  have c' : k = 0 := by have : ¬ 0 < k := by simpa using c
                        omega
  subst c'
  have e2 : l = (Int.gcd a b : Int) := by
    rw [← e, Int.gcd_zero_right]
    omega
  subst e2
  have gs : Sm 9000 (Int.gcd a b : Int) := gcd_sm hb hs
  have gp := gcd_pos (a := a) hb
  have h1 : (Int.gcd a b : Int) ≠ 0 := by omega
  have g2 : frD (Rat.divInt a b) = .tup [.int (a.fdiv (Int.gcd a b : Int)), .int (b.fdiv (Int.gcd a b : Int))] := by
    unfold frD
    rw [fr_num hb, fr_den hb, if_neg (by omega)]
  exact ⟨⟨h1, gs⟩, ⟨h1, gs⟩, by show 2 ≤ sizeLine; decide, _, Sub.refl _, by rw [← g2]; exact q⟩

/-! ### k74's numbers -/
private theorem ixN_ok {n k : Nat} (h : k < n) : ixN n (k : Int) = some k := by
  unfold ixN
  rw [if_pos (by omega), if_pos (by omega)]
  rfl
private theorem at_mem {ds : List D} {i : Int} (h0 : 0 ≤ i) (h1 : i < ds.length) : ∃ d, d ∈ ds ∧ atI ds i = some d := by
  obtain ⟨k, rfl⟩ := Int.eq_ofNat_of_zero_le h0
  have hk : k < ds.length := by omega
  refine ⟨ds[k], List.getElem_mem hk, ?_⟩
  unfold atI
  rw [ixN_ok hk]
  exact List.getElem?_eq_getElem hk
private theorem RIx.lst {ds : List D} {i : Int} {P : D → Prop} (h0 : 0 ≤ i) (h1 : i < ds.length) (k : ∀ d, d ∈ ds → P d) : RIx (.lst ds) (.int i) P := by
  obtain ⟨d, h2, h3⟩ := at_mem h0 h1
  show match atI ds i with | some d => P d | none => False
  rw [h3]; exact k d h2
private theorem smM {n : Int} (h : n.natAbs < 2 ^ 200 := by decide) : Sm 9000 n := Sm.mono (a := 200) h (by decide)
noncomputable def Lt40 (q : Rat) : Prop := q.num.natAbs < 10 ^ 40 ∧ q.den < 10 ^ 40
private theorem Lt40.fig {q : Rat} (h : Lt40 q) : Fig q := ⟨dg_len 39 h.1, dg_len 39 h.2⟩
private theorem lt40_sm {n : Nat} (h : n < 10 ^ 40) : n < 2 ^ 1000 := Nat.lt_trans h (Nat.lt_of_lt_of_le (show (10 : Nat) ^ 40 < 2 ^ 200 by decide) (Nat.pow_le_pow_right (by decide) (by decide)))
private theorem Lt40.sm {q : Rat} (h : Lt40 q) : SmR 1000 q := ⟨lt40_sm h.1, by show (q.den : Int).natAbs < _; rw [Int.natAbs_natCast]; exact lt40_sm h.2⟩
private theorem lt40_of {a b : Int} (hb : 0 < b) (h1 : a.natAbs < 10 ^ 40) (h2 : b.natAbs < 10 ^ 40) : Lt40 (Rat.divInt a b) :=
  ⟨Nat.lt_of_le_of_lt (fr_num_le (by omega)) h1, Nat.lt_of_le_of_lt (fr_den_le (by omega)) h2⟩
noncomputable abbrev hTake (P : Program) (w : World) (K : PySem.W.Frag) (mg : Str → Option Value) (base : Heap) : Prop := Has P w K mg base CX0 1 "_law_take" ["pool", "many"] (spP K isPool 1 gTake)
noncomputable abbrev hLeast (P : Program) (w : World) (K : PySem.W.Frag) (mg : Str → Option Value) (base : Heap) : Prop := Has P w K mg base CX0 1 "_law_least" ["top", "bottom"] (spW K (pur gLeast))
private theorem str_sg (n : Int) : Str.ofString (toString n) = st (sgL n) := by
  by_cases h : n < 0
  · obtain ⟨m, rfl⟩ : ∃ m : Nat, n = Int.negSucc m := ⟨n.natAbs - 1, by omega⟩
    have e : toString (Int.negSucc m) = "-" ++ toString (m + 1) := rfl
    unfold sgL
    rw [if_pos h, e, PySem.Str.ofString_eq_toList, String.toList_append, List.map_append]
    have e2 : Str.ofString (toString ((m + 1 : Nat) : Int)) = st (dgL (m + 1)) := str_nat (m + 1)
    rw [PySem.Str.ofString_eq_toList] at e2
    have e3 : (toString (m + 1)).toList.map Char.toNat = dgL (m + 1) := st_inj e2
    rw [e3]
    rfl
  · obtain ⟨m, rfl⟩ := Int.eq_ofNat_of_zero_le (by omega : 0 ≤ n)
    have : sgL (m : Int) = dgL m := sg_nat m
    rw [this]
    exact str_nat m
private theorem log_sm {n : Int} (h : Sm 1000 n) : n.natAbs.log2 < 1920 := by
  by_cases c : n.natAbs = 0
  · rw [c]; decide
  · exact Nat.lt_of_lt_of_le ((Nat.log2_lt c).mpr h) (by decide)
noncomputable abbrev s_law_shown : Stmt := top 47
private theorem sc_law_shown : FnScope ["q"] ["q"] (defScope s_law_shown) := ⟨rfl, rfl, rfl, by decide +kernel, rfl, by decide +kernel, by decide +kernel⟩
private theorem h__law_shown (B : Bl mg) (F : Def K mg "_law_shown" s_law_shown ["q"]) : Has P w K mg base CX0 1 "_law_shown" ["q"] (spW K (pur gShow)) := by
  refine F.hasP sc_law_shown (fun ds P h => by obtain ⟨q, rfl, _⟩ := h; rfl) fun f cdv A outer s H E hr => ?_
  have nd := sc_law_shown.nd
  refine ⟨_, (jss_one (js_ret (j_catS (j_strI rfl B.str (ja_cons (j_atV 0 j_int) ja_nil)) (j_repS (j_catS j_str (j_strI rfl B.str (ja_cons (j_atV 0 j_int) ja_nil))) (j_intc rfl B.int (ja_cons (j_gt (j_atV 0 j_int) j_int) ja_nil)))))), ?_⟩
  rintro ds M Q ⟨q, rfl, sq, k⟩
  have l1 := sg_len sq.1
  have l2 := sg_len sq.2
  have dp := q.den_pos
  refine ⟨log_sm sq.1, log_sm sq.2, ?_⟩
  rw [str_sg, str_sg, e47]
  refine ⟨by rw [st_len, st_len]; exact sz5 (by show 1 + _ ≤ 5000; omega), ?_⟩
  show ((if decide ((1 : Int) < (q.den : Int)) = true then (1 : Int) else 0) = 0 ∨ (if decide ((1 : Int) < (q.den : Int)) = true then (1 : Int) else 0) = 1) ∧ (st (sgL q.num)).length + (if (if decide ((1 : Int) < (q.den : Int)) = true then (1 : Int) else 0) = 1 then st [47] ++ st (sgL (q.den : Int)) else Str.empty).length ≤ sizeLine ∧ ∃ M', Sub M' M ∧ Q (.str (st (sgL q.num) ++ (if (if decide ((1 : Int) < (q.den : Int)) = true then (1 : Int) else 0) = 1 then st [47] ++ st (sgL (q.den : Int)) else Str.empty))) M'
  by_cases c : q.den = 1
  · rw [decide_eq_false (by omega), if_neg (by decide), if_neg (by decide)]
    have e0 : Str.empty = st [] := rfl
    rw [e0, st_app, List.append_nil, ← tx_num c]
    exact ⟨.inl rfl, by rw [st_len, st_len]; exact sz5 (by rw [tx_num c]; show _ + 0 ≤ 5000; omega), _, Sub.refl _, k⟩
  · rw [decide_eq_true (by omega), if_pos rfl, if_pos rfl, st_app, st_app, sg_nat]
    have e : sgL q.num ++ ([47] ++ dgL q.den) = txL q := by rw [tx_frac c]; rfl
    rw [sg_nat] at l2
    rw [e]
    exact ⟨.inr rfl, by rw [st_len, st_len, List.length_append]; exact sz5 (by show _ + (1 + _) ≤ 5000; omega), _, Sub.refl _, k⟩

/-! ### k75's draws -/
noncomputable def gFracS : List D → (D → Prop) → Prop := fun ds P => ds = [] ∧ ∀ q : Rat, SmR 5 q → P (frD q)
private theorem sm5 {i : Int} (h1 : -32 < i) (h2 : i < 32) : Sm 5 i := by unfold Sm; omega
private theorem sm_lt40 {n : Nat} {q : Rat} (h : SmR n q) (hn : n ≤ 130) : Lt40 q := by
  have p : (2 : Nat) ^ n ≤ 10 ^ 40 := Nat.le_trans (Nat.pow_le_pow_right (by decide) hn) (by decide)
  refine ⟨Nat.lt_of_lt_of_le h.1 p, Nat.lt_of_lt_of_le ?_ p⟩
  have := h.2
  unfold Sm at this
  rwa [Int.natAbs_natCast] at this
private theorem Lt40.ok {q : Rat} (h : Lt40 q) : Ok1 q := ⟨h.sm, h.fig⟩
noncomputable abbrev s_law_fraction : Stmt := top 41
private theorem sc_law_fraction : FnScope ["pool"] ["pool"] (defScope s_law_fraction) := ⟨rfl, rfl, rfl, by decide +kernel, rfl, by decide +kernel, by decide +kernel⟩
private theorem h__law_fraction (B : Bl mg) (F : Def K mg "_law_fraction" s_law_fraction ["pool"]) (F__law_take : hTake P w K mg base) (F__law_least : hLeast P w K mg base) : Has P w K mg base CX0 2 "_law_fraction" ["pool"] (spP K isPool 2 gFracS) := by
  refine F.hasB less_pool sc_law_fraction (fun ds P h => by obtain ⟨rfl, _⟩ := h; rfl) fun f cdv A outer s H E hr => ?_
  have nd := sc_law_fraction.nd
  refine ⟨_, (jss_one (js_ret (j_h F__law_least (hr.mono (by decide)) rfl (ja_cons (j_sub (j_hP 0 F__law_take (hr.mono (by decide)) rfl (ja_cons j_int ja_nil)) j_int) (ja_cons (j_at (j_fz (jn_lst (ja_cons j_int (ja_cons j_int (ja_cons j_int (ja_cons j_int (ja_cons j_int (ja_cons j_int ja_nil)))))))) (j_hP 0 F__law_take (hr.mono (by decide)) rfl (ja_cons j_int ja_nil))) ja_nil))))), ?_⟩
  rintro p ds M b Q hp hb ⟨rfl, q⟩
  refine ⟨b, hp, by omega, 19, rfl, by decide, smM, fun r r0 r1 => ⟨by show 6 ≤ sizeLine; decide, b - 1, mset_same, by omega, 6, rfl, by decide, smM, fun r2 r20 r21 => RIx.lst r20 (by show r2 < 6; omega) fun d hd => ?_⟩⟩
  have hd : d ∈ [(1 : Int), 1, 2, 3, 4, 6].map D.int := hd
  obtain ⟨m, hm, rfl⟩ := List.mem_map.mp hd
  have mb : ∀ m ∈ [(1 : Int), 1, 2, 3, 4, 6], 0 < m ∧ m < 7 := by decide
  obtain ⟨m0, m1⟩ := mb m hm
  have ms : m.natAbs < 2 ^ 200 := Nat.lt_of_lt_of_le (show m.natAbs < 7 by omega) (by decide)
  exact ⟨r - 9, m, rfl, m0, smM ms, ⟨b - 1 - 1, by omega, by rw [mset_mset]; exact Sub.refl _⟩, q _ (fr_sm (by omega) (sm5 (by omega) (by omega)) (sm5 (by omega) (by omega)))⟩
private theorem den_mul' (q r : Rat) : 0 < (q.den : Int) * (r.den : Int) := Int.mul_pos (by have := q.den_pos; omega) (by have := r.den_pos; omega)
noncomputable def gOp (f : Rat → Rat → Rat) : List D → (D → Prop) → Prop := fun ds P => ∃ q r : Rat, ds = [frD q, frD r] ∧ Mx q r ∧ P (frD (f q r))
noncomputable abbrev s_law_sum : Stmt := top 40
private theorem sc_law_sum : FnScope ["q", "r"] ["q", "r"] (defScope s_law_sum) := ⟨rfl, rfl, rfl, by decide +kernel, rfl, by decide +kernel, by decide +kernel⟩
private theorem h__law_sum (B : Bl mg) (F : Def K mg "_law_sum" s_law_sum ["q", "r"]) (F__law_least : hLeast P w K mg base) : Has P w K mg base CX0 2 "_law_sum" ["q", "r"] (spW K (pur (gOp fun q r => q + r))) := by
  refine F.hasP sc_law_sum (fun ds P h => by obtain ⟨a, b, rfl, _⟩ := h; rfl) fun f cdv A outer s H E hr => ?_
  have nd := sc_law_sum.nd
  refine ⟨_, (jss_one (js_ret (j_h F__law_least (hr.mono (by decide)) rfl (ja_cons (j_add (j_mul (j_atV 0 j_int) (j_atV 1 j_int)) (j_mul (j_atV 1 j_int) (j_atV 0 j_int))) (ja_cons (j_mul (j_atV 0 j_int) (j_atV 1 j_int)) ja_nil))))), ?_⟩
  rintro ds M Q ⟨q, r, rfl, m, k⟩
  exact ⟨m.c1, m.c2, m.c3, _, _, rfl, den_mul' q r, m.s, _, Sub.refl _, by rw [r_add]; exact k⟩
noncomputable abbrev hFracS (P : Program) (w : World) (K : PySem.W.Frag) (mg : Str → Option Value) (base : Heap) : Prop := Has P w K mg base CX0 2 "_law_fraction" ["pool"] (spP K isPool 2 gFracS)
noncomputable abbrev hSum (P : Program) (w : World) (K : PySem.W.Frag) (mg : Str → Option Value) (base : Heap) : Prop := Has P w K mg base CX0 2 "_law_sum" ["q", "r"] (spW K (pur (gOp fun q r => q + r)))
noncomputable def bOk (x : Rat × Rat) : Prop := x.1 ≤ x.2 ∧ Lt40 x.1 ∧ Lt40 x.2
noncomputable def gBnd : List D → (D → Prop) → Prop := fun ds P => ds = [] ∧ ∀ x : Rat × Rat, bOk x → P (bQ x)
private theorem add_le {q s : Rat} (h : 0 ≤ s) : q ≤ q + s := by grind
private theorem fr_nonneg {a b : Int} (ha : 0 ≤ a) (hb : 0 < b) : 0 ≤ Rat.divInt a b := Rat.divInt_nonneg ha (by omega)
noncomputable abbrev s_law_bounds : Stmt := top 42
private theorem sc_law_bounds : FnScope ["pool", "low", "step"] ["pool"] (defScope s_law_bounds) := ⟨rfl, rfl, rfl, by decide +kernel, rfl, by decide +kernel, by decide +kernel⟩
private theorem h__law_bounds (B : Bl mg) (F : Def K mg "_law_bounds" s_law_bounds ["pool"]) (F__law_fraction : hFracS P w K mg base) (F__law_least : hLeast P w K mg base) (F__law_take : hTake P w K mg base) (F__law_sum : hSum P w K mg base) : Has P w K mg base CX0 3 "_law_bounds" ["pool"] (spP K isPool 4 gBnd) := by
  refine F.hasB less_pool sc_law_bounds (fun ds P h => by obtain ⟨rfl, _⟩ := h; rfl) fun f cdv A outer s H E hr => ?_
  have nd := sc_law_bounds.nd
  refine ⟨_, (jss_cons (js_set (i := 1) nd rfl (Or.inl rfl) (j_hP 0 F__law_fraction (hr.mono (by decide)) rfl ja_nil))
    (jss_cons (js_set (i := 2) nd rfl (Or.inl rfl) (j_h F__law_least (hr.mono (by decide)) rfl (ja_cons (j_hP 0 F__law_take (hr.mono (by decide)) rfl (ja_cons j_int ja_nil)) (ja_cons (j_at (j_fz (jn_lst (ja_cons j_int (ja_cons j_int (ja_cons j_int (ja_cons j_int ja_nil)))))) (j_hP 0 F__law_take (hr.mono (by decide)) rfl (ja_cons j_int ja_nil))) ja_nil))))
    (jss_one (js_ret (j_tup (ja_cons (jv 1) (ja_cons (j_h F__law_sum (hr.mono (by decide)) rfl (ja_cons (jv 1) (ja_cons (jv 2) ja_nil))) ja_nil))))))), ?_⟩
  rintro p ds M b Q hp hb ⟨rfl, q⟩
  refine ⟨b, hp, by omega, rfl, fun low hl => ⟨b - 2, mset_same, by omega, 4, rfl, by decide, smM, fun r r0 r1 => ⟨by show 4 ≤ sizeLine; decide, b - 2 - 1, mset_same, by omega, 4, rfl, by decide, smM, fun r2 r20 r21 => RIx.lst r20 (by show r2 < 4; omega) fun d hd => ?_⟩⟩⟩
  have hd : d ∈ [(1 : Int), 1, 2, 3].map D.int := hd
  obtain ⟨m, hm, rfl⟩ := List.mem_map.mp hd
  have mb : ∀ m ∈ [(1 : Int), 1, 2, 3], 0 < m ∧ m < 4 := by decide
  obtain ⟨m0, m1⟩ := mb m hm
  have ms : m.natAbs < 2 ^ 200 := Nat.lt_of_lt_of_le (show m.natAbs < 7 by omega) (by decide)
  have ss : SmR 5 (Rat.divInt r m) := fr_sm (by omega) (sm5 (by omega) (by omega)) (sm5 (by omega) (by omega))
  refine ⟨r, m, rfl, m0, smM ms, low, Rat.divInt r m, rfl, Mx.of hl ss, by show 2 ≤ sizeLine; decide, ⟨b - 2 - 1 - 1, by omega, by simp only [mset_mset]; exact Sub.refl _⟩, q (low, low + Rat.divInt r m) ⟨add_le (fr_nonneg r0 m0), sm_lt40 hl (by decide), sm_lt40 (smr_add hl ss) (by decide)⟩⟩

/-! ### k75: a plan drawn -/
noncomputable def PlanOk (S T : List (Rat × Rat)) (Z : List ZR) : Prop := OkP S T Z ∧ S ≠ [] ∧ (∀ x ∈ S, x.1 ≤ x.2) ∧ (∀ x ∈ T, x.1 ≤ x.2) ∧ (∀ z ∈ Z, z.1.length = S.length ∧ z.2.1.length = T.length) ∧ S.length ≤ 20 ∧ T.length ≤ 20 ∧ Z.length ≤ 20
private theorem rng_get0 {n i : Nat} {d : D} (h : (rngD 0 n)[i]? = some d) : d = .int (i : Int) ∧ i < n := by
  obtain ⟨h1, h2⟩ := rng_get h
  rw [Int.zero_add] at h1
  exact ⟨h1, h2⟩
private theorem frI (i : Int) : D.tup [.int i, .int 1] = frD (i : Rat) := by unfold frD; rw [Rat.num_intCast, Rat.den_intCast]; rfl
private theorem all_snoc {α : Type} {l : List α} {x : α} {p : α → Prop} (h : ∀ y ∈ l, p y) (k : p x) : ∀ y ∈ l ++ [x], p y := fun y hy => by
  rcases List.mem_append.mp hy with z | z
  · exact h y z
  · rw [List.mem_singleton] at z; subst z; exact k
noncomputable def zOk (n m : Nat) (z : ZR) : Prop := z.1.length = n ∧ z.2.1.length = m ∧ (∀ q ∈ z.1, Lt40 q) ∧ (∀ q ∈ z.2.1, Lt40 q) ∧ Lt40 z.2.2
noncomputable def gPlan75 : List D → (D → Prop) → Prop := fun ds P => ds = [.int 3] ∧ ∀ S T Z, PlanOk S T Z → P (planQ S T Z)
private theorem plan_ok {S T : List (Rat × Rat)} {Z : List ZR} (h0 : S ≠ []) (h1 : S.length ≤ 20) (h2 : T.length ≤ 20) (h3 : Z.length ≤ 20) (hS : ∀ x ∈ S, bOk x) (hT : ∀ x ∈ T, bOk x) (hZ : ∀ z ∈ Z, zOk S.length T.length z) : PlanOk S T Z :=
  ⟨⟨by omega, by omega, by omega, fun x hx => ⟨(hS x hx).2.1.ok, (hS x hx).2.2.ok⟩, fun x hx => ⟨(hT x hx).2.1.ok, (hT x hx).2.2.ok⟩, fun z hz => by
    obtain ⟨a, b, c, d, e⟩ := hZ z hz
    exact ⟨by omega, by omega, fun q hq => (c q hq).ok, fun q hq => (d q hq).ok, e.ok⟩⟩, h0, fun x hx => (hS x hx).1, fun x hx => (hT x hx).1, fun z hz => ⟨(hZ z hz).1, (hZ z hz).2.1⟩, h1, h2, h3⟩
noncomputable abbrev s_law_plan : Stmt := top 43
private theorem sc_law_plan : FnScope ["pool", "most", "sizes", "shims", "demands", "k", "a", "b"] ["pool", "most"] (defScope s_law_plan) := ⟨rfl, rfl, rfl, by decide +kernel, rfl, by decide +kernel, by decide +kernel⟩
private theorem h__law_plan (B : Bl mg) (F : Def K mg "_law_plan" s_law_plan ["pool", "most"]) (F__law_bounds : Has P w K mg base CX0 3 "_law_bounds" ["pool"] (spP K isPool 4 gBnd)) (F__law_take : hTake P w K mg base) (F__law_fraction : hFracS P w K mg base) (F__law_sum : hSum P w K mg base) : Has P w K mg base CX0 4 "_law_plan" ["pool", "most"] (spP K isPool 500 gPlan75) := by
  refine F.hasB less_pool sc_law_plan (fun ds P h => by obtain ⟨rfl, _⟩ := h; rfl) fun f cdv A outer s H E hr => ?_
  have nd := sc_law_plan.nd
  refine ⟨_, (jss_cons (js_setCZ (k := 2) nd rfl (Or.inl rfl) ["k", "pool"] [none, some 0] ⟨rfl, by decide +kernel, by decide +kernel, rfl, rfl, free_of rfl⟩ rfl (ji_rng1 rfl B.range (ja_cons (j_add j_int (j_hP 0 F__law_take (hr.mono (by decide)) rfl (ja_cons (jv 1) ja_nil))) ja_nil)) (fun _ _ _ _ _ => (jg_name (i := 0) (show List.Nodup [("k" : Str), ("pool" : Str)] by decide +kernel) rfl (Or.inl rfl))) (fun _ _ _ _ _ => jc_nil) (fun _ _ _ _ _ => (j_hP 1 F__law_bounds (hr.mono (by decide)) rfl ja_nil)))
    (jss_cons (js_setCZ (k := 3) nd rfl (Or.inl rfl) ["k", "pool"] [none, some 0] ⟨rfl, by decide +kernel, by decide +kernel, rfl, rfl, free_of rfl⟩ rfl (ji_rng1 rfl B.range (ja_cons (j_hP 0 F__law_take (hr.mono (by decide)) rfl (ja_cons j_int ja_nil)) ja_nil)) (fun _ _ _ _ _ => (jg_name (i := 0) (show List.Nodup [("k" : Str), ("pool" : Str)] by decide +kernel) rfl (Or.inl rfl))) (fun _ _ _ _ _ => jc_nil) (fun _ _ _ _ _ => (j_hP 1 F__law_bounds (hr.mono (by decide)) rfl ja_nil)))
    (jss_cons (js_setN (i := 4) nd rfl (Or.inl rfl) (jn_lst ja_nil))
    (jss_cons (js_for PassesOwn.never rfl (ji_rng1 rfl B.range (ja_cons (j_hP 0 F__law_take (hr.mono (by decide)) rfl (ja_cons j_int ja_nil)) ja_nil)) (jg_name (i := 5) nd rfl (Or.inl rfl))
    (jss_cons (js_setCZ (k := 6) nd rfl (Or.inl rfl) ["size", "pool"] [none, some 0] ⟨rfl, by decide +kernel, by decide +kernel, rfl, rfl, free_of rfl⟩ rfl (ji_list (jv 2)) (fun _ _ _ _ _ => (jg_name (i := 0) (show List.Nodup [("size" : Str), ("pool" : Str)] by decide +kernel) rfl (Or.inl rfl))) (fun _ _ _ _ _ => jc_nil) (fun _ _ _ _ _ => (j_hP 1 F__law_fraction (hr.mono (by decide)) rfl ja_nil)))
    (jss_cons (js_setCZ (k := 7) nd rfl (Or.inl rfl) ["shim", "pool"] [none, some 0] ⟨rfl, by decide +kernel, by decide +kernel, rfl, rfl, free_of rfl⟩ rfl (ji_list (jv 3)) (fun _ _ _ _ _ => (jg_name (i := 0) (show List.Nodup [("shim" : Str), ("pool" : Str)] by decide +kernel) rfl (Or.inl rfl))) (fun _ _ _ _ _ => jc_nil) (fun _ _ _ _ _ => (j_hP 1 F__law_fraction (hr.mono (by decide)) rfl ja_nil)))
    (jss_one (js_appW 4 (j_tup (ja_cons (jv 6) (ja_cons (jv 7) (ja_cons (j_h F__law_sum (hr.mono (by decide)) rfl (ja_cons (j_hP 0 F__law_fraction (hr.mono (by decide)) rfl ja_nil) (ja_cons (j_tup (ja_cons (j_hP 0 F__law_take (hr.mono (by decide)) rfl (ja_cons j_int ja_nil)) (ja_cons j_int ja_nil))) ja_nil))) ja_nil)))))))))
    (jss_one (js_ret (j_tup (ja_cons (jv 2) (ja_cons (jv 3) (ja_cons (jv 4) ja_nil)))))))))), ?_⟩
  rintro p ds M b Q hp hb ⟨rfl, q⟩
  refine ⟨b, hp, by omega, 3, rfl, by decide, smM, fun r r0 r1 => ⟨⟨by omega, by omega⟩, fun j out ρ M2 => ∃ (b' : Int) (S : List (Rat × Rat)) (o : Ent), b - 1 - 4 * (j : Int) ≤ b' ∧ M2 = mset M p (.op (isPool b')) ∧ ρ = [o, .rf p] ∧ out = S.map bQ ∧ S.length = j ∧ ∀ x ∈ S, bOk x, ⟨b - 1, [], _, by omega, rfl, rfl, rfl, rfl, by simp⟩, ?_, ?_⟩⟩
  · rintro j d out ρ M2 hd ⟨b', S, o, hb', rfl, rfl, rfl, lS, oS⟩
    obtain ⟨rfl, hj⟩ := rng_get0 hd
    have hj : j < 6 := by omega
    refine ⟨b', mset_same, by omega, rfl, fun x hx => ⟨by rw [List.length_map, lS]; exact small1000 (by omega), b' - 4, S ++ [x], _, by omega, by rw [mset_mset], rfl, by rw [List.map_append]; rfl, by rw [List.length_append, lS]; rfl, all_snoc oS hx⟩⟩
  rintro out ρ M2 ⟨b1, S, o, hb1, rfl, rfl, rfl, lS, oS⟩
  rw [rng_len] at lS hb1
  refine ⟨b1, mset_same, by omega, 3, rfl, by decide, smM, fun r2 r20 r21 => ⟨⟨by omega, by omega⟩, fun j out ρ M2 => ∃ (b' : Int) (T : List (Rat × Rat)) (o : Ent), b1 - 1 - 4 * (j : Int) ≤ b' ∧ M2 = mset M p (.op (isPool b')) ∧ ρ = [o, .rf p] ∧ out = T.map bQ ∧ T.length = j ∧ ∀ x ∈ T, bOk x, ⟨b1 - 1, [], _, by omega, by rw [mset_mset], rfl, rfl, rfl, by simp⟩, ?_, ?_⟩⟩
  · rintro j d out ρ M2 hd ⟨b', T, o, hb', rfl, rfl, rfl, lT, oT⟩
    obtain ⟨rfl, hj⟩ := rng_get0 hd
    have hj : j < 6 := by omega
    refine ⟨b', mset_same, by omega, rfl, fun x hx => ⟨by rw [List.length_map, lT]; exact small1000 (by omega), b' - 4, T ++ [x], _, by omega, by rw [mset_mset], rfl, by rw [List.map_append]; rfl, by rw [List.length_append, lT]; rfl, all_snoc oT hx⟩⟩
  rintro out ρ M2 ⟨b2, T, o, hb2, rfl, rfl, rfl, lT, oT⟩
  rw [rng_len] at lT hb2
  have lS6 : S.length ≤ 6 := by omega
  have lT6 : T.length ≤ 6 := by omega
  refine ⟨by show 0 ≤ sizeLine; decide, b2, mset_same, by omega, 4, rfl, by decide, smM, fun r3 r30 r31 => ⟨⟨by omega, by omega⟩, fun i ρ M2 => ∃ (b' : Int) (Z : List ZR) (o5 o6 o7 : Ent), b2 - 1 - 60 * (i : Int) ≤ b' ∧ M2 = mset M p (.op (isPool b')) ∧ ρ = [.rf p, .sh (.int 3), .sh (.lst (S.map bQ)), .sh (.lst (T.map bQ)), .ow (Z.map zQ), o5, o6, o7] ∧ Z.length = i ∧ ∀ z ∈ Z, zOk S.length T.length z, ⟨b2 - 1, [], _, _, _, by omega, by rw [mset_mset], rfl, rfl, by simp⟩, ?_, ?_⟩⟩
  · rintro i d ρ M2 hd ⟨b3, Z, o5, o6, o7, hb3, rfl, rfl, lZ, oZ⟩
    obtain ⟨rfl, hi⟩ := rng_get0 hd
    have hi : i < 6 := by omega
    refine ⟨fun j out ρ M2 => ∃ (b' : Int) (qs : List Rat) (o : Ent), b3 - 2 * (j : Int) ≤ b' ∧ M2 = mset M p (.op (isPool b')) ∧ ρ = [o, .rf p] ∧ out = qs.map frD ∧ qs.length = j ∧ ∀ q ∈ qs, SmR 5 q, ⟨b3, [], _, by omega, rfl, rfl, rfl, rfl, by simp⟩, ?_, ?_⟩
    · rintro j d out ρ M2 hd ⟨b', qs, o, hb', rfl, rfl, rfl, lq, oq⟩
      have hj := (List.getElem?_eq_some_iff.mp hd).1
      rw [List.length_map] at hj
      exact ⟨b', mset_same, by omega, rfl, fun x hx => ⟨by rw [List.length_map, lq]; exact small1000 (by omega), b' - 2, qs ++ [x], _, by omega, by rw [mset_mset], rfl, by rw [List.map_append]; rfl, by rw [List.length_append, lq]; rfl, all_snoc oq hx⟩⟩
    rintro out ρ M2 ⟨b4, as, o, hb4, rfl, rfl, rfl, la, oa⟩
    rw [List.length_map] at la hb4
    refine ⟨fun j out ρ M2 => ∃ (b' : Int) (qs : List Rat) (o : Ent), b4 - 2 * (j : Int) ≤ b' ∧ M2 = mset M p (.op (isPool b')) ∧ ρ = [o, .rf p] ∧ out = qs.map frD ∧ qs.length = j ∧ ∀ q ∈ qs, SmR 5 q, ⟨b4, [], _, by omega, rfl, rfl, rfl, rfl, by simp⟩, ?_, ?_⟩
    · rintro j d out ρ M2 hd ⟨b', qs, o, hb', rfl, rfl, rfl, lq, oq⟩
      have hj := (List.getElem?_eq_some_iff.mp hd).1
      rw [List.length_map] at hj
      exact ⟨b', mset_same, by omega, rfl, fun x hx => ⟨by rw [List.length_map, lq]; exact small1000 (by omega), b' - 2, qs ++ [x], _, by omega, by rw [mset_mset], rfl, by rw [List.map_append]; rfl, by rw [List.length_append, lq]; rfl, all_snoc oq hx⟩⟩
    rintro out ρ M2 ⟨b5, bs, o, hb5, rfl, rfl, rfl, lb, ob⟩
    rw [List.length_map] at lb hb5
    refine ⟨trivial, b5, mset_same, by omega, rfl, fun c hc => ⟨b5 - 2, mset_same, by omega, 30, rfl, by decide, smM, fun t t0 t1 => ⟨by show 2 ≤ sizeLine; decide, c, (t : Rat), by rw [frI], ?_, ?_⟩⟩⟩
    · exact Mx.of hc (m := 5) ⟨by rw [Rat.num_intCast]; exact sm5 (by omega) (by omega), by rw [Rat.den_intCast]; unfold Sm; decide⟩
    have st : SmR 5 (t : Rat) := ⟨by rw [Rat.num_intCast]; exact sm5 (by omega) (by omega), by rw [Rat.den_intCast]; unfold Sm; decide⟩
    refine ⟨by show 3 ≤ sizeLine; decide, by rw [List.length_map, lZ]; exact small1000 (by omega), b5 - 2 - 1, Z ++ [(as, bs, c + (t : Rat))], _, _, _, by omega, by simp only [mset_mset], by rw [List.map_append]; rfl, by rw [List.length_append, lZ]; rfl, all_snoc oZ ⟨la, lb, fun q hq => sm_lt40 (oa q hq) (by decide), fun q hq => sm_lt40 (ob q hq) (by decide), sm_lt40 (smr_add hc st) (by decide)⟩⟩
  · rintro ρ M2 ⟨b3, Z, o5, o6, o7, hb3, rfl, rfl, lZ, oZ⟩
    rw [rng_len] at lZ hb3
    refine ⟨by show 3 ≤ sizeLine; decide, ⟨b3, by omega, Sub.refl _⟩, q S T Z (plan_ok ?_ (by omega) (by omega) (by omega) oS oT oZ)⟩
    intro z
    rw [z, List.length_nil] at lS
    omega

/-! ### k75: far numbers -/
noncomputable def gFar : List D → (D → Prop) → Prop := fun ds P => ∃ most : Int, ds = [.int most] ∧ 10000 ≤ most + 9000 ∧ most.natAbs ≤ 10 ^ 40 ∧ ∀ q : Rat, (q.num.natAbs < most.natAbs) → (q.den < most.natAbs ∨ q.den ≤ 5000) → P (frD q)
noncomputable abbrev s_law_far_number : Stmt := top 44
private theorem sc_law_far_number : FnScope ["pool", "most", "top", "bottom"] ["pool", "most"] (defScope s_law_far_number) := ⟨rfl, rfl, rfl, by decide +kernel, rfl, by decide +kernel, by decide +kernel⟩
private theorem h__law_far_number (B : Bl mg) (F : Def K mg "_law_far_number" s_law_far_number ["pool", "most"]) (F__law_take : hTake P w K mg base) (F__law_least : hLeast P w K mg base) : Has P w K mg base CX0 2 "_law_far_number" ["pool", "most"] (spP K isPool 6 gFar) := by
  refine F.hasB less_pool sc_law_far_number (fun ds P h => by obtain ⟨_, rfl, _⟩ := h; rfl) fun f cdv A outer s H E hr => ?_
  have nd := sc_law_far_number.nd
  refine ⟨_, (jss_cons (js_set (i := 2) nd rfl (Or.inl rfl) (j_at (j_fz (jn_lst (ja_cons (j_hP 0 F__law_take (hr.mono (by decide)) rfl (ja_cons (jv 1) ja_nil)) (ja_cons (j_sub (jv 1) j_int) (ja_cons j_int ja_nil))))) (j_hP 0 F__law_take (hr.mono (by decide)) rfl (ja_cons j_int ja_nil))))
    (jss_cons (js_set (i := 3) nd rfl (Or.inl rfl) (j_at (j_fz (jn_lst (ja_cons j_int (ja_cons (j_add j_int (j_hP 0 F__law_take (hr.mono (by decide)) rfl (ja_cons (j_sub (jv 1) j_int) ja_nil))) (ja_cons (j_sub (jv 1) j_int) (ja_cons (j_add j_int (j_hP 0 F__law_take (hr.mono (by decide)) rfl (ja_cons j_int ja_nil))) (ja_cons j_int ja_nil))))))) (j_hP 0 F__law_take (hr.mono (by decide)) rfl (ja_cons j_int ja_nil))))
    (jss_one (js_ret (j_h F__law_least (hr.mono (by decide)) rfl (ja_cons (j_at (j_fz (jn_lst (ja_cons (jv 2) (ja_cons (j_sub j_int (jv 2)) ja_nil)))) (j_hP 0 F__law_take (hr.mono (by decide)) rfl (ja_cons j_int ja_nil))) (ja_cons (jv 3) ja_nil))))))), ?_⟩
  rintro p ds M b Q hp hb ⟨m, rfl, m0, m1, q⟩
  have m0 : 1000 ≤ m := by omega
  have m2 : m.natAbs < 2 ^ 200 := Nat.lt_of_le_of_lt m1 (by decide)
  have sM : ∀ x : Int, 0 ≤ x → x ≤ m → Sm 9000 x := fun x h1 h2 => smM (by generalize (2 : Nat) ^ 200 = T at *; omega)
  refine ⟨b, hp, by omega, m, rfl, by omega, sM m (by omega) (by omega), fun t t0 t1 => ⟨by show 3 ≤ sizeLine; decide, b - 1, mset_same, by omega, 3, rfl, by decide, smM, fun r2 r20 r21 => RIx.lst r20 (by show r2 < 3; omega) fun d hd => ?_⟩⟩
  have hd : d ∈ [t, m - 1, 0].map D.int := hd
  obtain ⟨top, ht, rfl⟩ := List.mem_map.mp hd
  have tb : 0 ≤ top ∧ top < m := by
    simp only [List.mem_cons, List.not_mem_nil, or_false] at ht
    omega
  refine ⟨b - 1 - 1, mset_same, by omega, m - 1, rfl, by omega, sM _ (by omega) (by omega), fun u u0 u1 => ⟨b - 1 - 1 - 1, mset_same, by omega, 5000, rfl, by decide, smM, fun v v0 v1 => ⟨by show 5 ≤ sizeLine; decide, b - 1 - 1 - 1 - 1, mset_same, by omega, 5, rfl, by decide, smM, fun r3 r30 r31 => RIx.lst r30 (by show r3 < 5; omega) fun d hd => ?_⟩⟩⟩
  have hd : d ∈ [1, 1 + u, m - 1, 1 + v, 100].map D.int := hd
  obtain ⟨bot, hbt, rfl⟩ := List.mem_map.mp hd
  have bb : 0 < bot ∧ (bot < m ∨ bot ≤ 5000) := by
    simp only [List.mem_cons, List.not_mem_nil, or_false] at hbt
    omega
  have sB : Sm 9000 bot := by
    rcases bb.2 with h | h
    · exact sM _ (by omega) (by omega)
    · exact smM (Nat.lt_of_lt_of_le (show bot.natAbs < 5001 by omega) (by decide))
  refine ⟨by show 2 ≤ sizeLine; decide, b - 1 - 1 - 1 - 1 - 1, mset_same, by omega, 2, rfl, by decide, smM, fun r4 r40 r41 => RIx.lst r40 (by show r4 < 2; omega) fun d hd => ?_⟩
  have hd : d ∈ [top, 0 - top].map D.int := hd
  obtain ⟨x, hx, rfl⟩ := List.mem_map.mp hd
  have xb : x.natAbs < m.natAbs := by
    simp only [List.mem_cons, List.not_mem_nil, or_false] at hx
    omega
  have d1 := fr_den_le (a := x) (b := bot) (by omega)
  refine ⟨x, bot, rfl, bb.1, sB, ⟨b - 1 - 1 - 1 - 1 - 1 - 1, by omega, by simp only [mset_mset]; exact Sub.refl _⟩, q _ (Nat.lt_of_le_of_lt (fr_num_le (by omega)) xb) ?_⟩
  rcases bb.2 with h | h
  · exact .inl (by omega)
  · exact .inr (by omega)

/-! ### k75: far bounds, great plans -/
private theorem T38 : ∃ T : Nat, T = 10 ^ 38 ∧ 10000 ≤ T ∧ 100 * T = 10 ^ 40 ∧ T < 2 ^ 200 := ⟨_, rfl, by decide, by decide, by decide⟩
private theorem far_lt {q : Rat} (h1 : q.num.natAbs < 10 ^ 38) (h2 : q.den < 10 ^ 38) : Lt40 q := by
  obtain ⟨T, eT, T1, T2, T3⟩ := T38
  unfold Lt40
  rw [← T2]
  rw [← eT] at h1 h2
  exact ⟨by omega, by omega⟩
private theorem far_sum {q : Rat} {t : Int} (h1 : q.num.natAbs < 10 ^ 38) (h2 : q.den < 10 ^ 38) (t0 : 0 ≤ t) (t1 : t < 4) : Lt40 (q + (t : Rat)) := by
  obtain ⟨T, eT, T1, T2, T3⟩ := T38
  rw [← eT] at h1 h2
  rw [← r_add, Rat.num_intCast, Rat.den_intCast]
  have dp := q.den_pos
  have : ((1 : Nat) : Int) = 1 := rfl
  rw [this, Int.mul_one, Int.mul_one]
  have tm : 0 ≤ t * (q.den : Int) ∧ t * (q.den : Int) ≤ 3 * (q.den : Int) := ⟨Int.mul_nonneg t0 (by omega), Int.mul_le_mul_of_nonneg_right (by omega) (by omega)⟩
  refine lt40_of (by omega) ?_ ?_
  · rw [← T2]; omega
  · rw [← T2]; omega
noncomputable abbrev hFar (P : Program) (w : World) (K : PySem.W.Frag) (mg : Str → Option Value) (base : Heap) : Prop := Has P w K mg base CX0 2 "_law_far_number" ["pool", "most"] (spP K isPool 6 gFar)
noncomputable abbrev s_law_far_bounds : Stmt := top 45
private theorem sc_law_far_bounds : FnScope ["pool", "low"] ["pool"] (defScope s_law_far_bounds) := ⟨rfl, rfl, rfl, by decide +kernel, rfl, by decide +kernel, by decide +kernel⟩
private theorem h__law_far_bounds (B : Bl mg) (F : Def K mg "_law_far_bounds" s_law_far_bounds ["pool"]) (F__law_far_number : hFar P w K mg base) (F__law_take : hTake P w K mg base) (F__law_sum : hSum P w K mg base) : Has P w K mg base CX0 3 "_law_far_bounds" ["pool"] (spP K isPool 8 gBnd) := by
  refine F.hasB less_pool sc_law_far_bounds (fun ds P h => by obtain ⟨rfl, _⟩ := h; rfl) fun f cdv A outer s H E hr => ?_
  have nd := sc_law_far_bounds.nd
  refine ⟨_, (jss_cons (js_set (i := 1) nd rfl (Or.inl rfl) (j_hP 0 F__law_far_number (hr.mono (by decide)) rfl (ja_cons (j_at (j_fz (jn_lst (ja_cons j_int (ja_cons (j_pow j_int j_int) (ja_cons (j_pow j_int j_int) ja_nil))))) (j_hP 0 F__law_take (hr.mono (by decide)) rfl (ja_cons j_int ja_nil))) ja_nil)))
    (jss_one (js_ret (j_tup (ja_cons (jv 1) (ja_cons (j_h F__law_sum (hr.mono (by decide)) rfl (ja_cons (jv 1) (ja_cons (j_tup (ja_cons (j_hP 0 F__law_take (hr.mono (by decide)) rfl (ja_cons j_int ja_nil)) (ja_cons j_int ja_nil))) ja_nil))) ja_nil)))))), ?_⟩
  rintro p ds M b Q hp hb ⟨rfl, q⟩
  have cp : ∀ j : Int, 0 ≤ j → j ≤ 100 → CPow 10 j := fun j h1 h2 => cpow h1 (by omega) (by decide)
  refine ⟨cp 20 (by decide) (by decide), cp 38 (by decide) (by decide), by show 3 ≤ sizeLine; decide, b, hp, by omega, 3, rfl, by decide, smM, fun r r0 r1 => RIx.lst r0 (by show r < 3; omega) fun d hd => ?_⟩
  have hd : d ∈ [(1000 : Int), 10 ^ (20 : Int).toNat, 10 ^ (38 : Int).toNat].map D.int := hd
  obtain ⟨m, hm, rfl⟩ := List.mem_map.mp hd
  have mb : ∀ m ∈ [(1000 : Int), 10 ^ (20 : Int).toNat, 10 ^ (38 : Int).toNat], 10000 ≤ m + 9000 ∧ m.natAbs ≤ 10 ^ 40 ∧ m.natAbs ≤ 10 ^ 38 := by decide
  obtain ⟨m0, m1, m2⟩ := mb m hm
  have k5 : (5000 : Nat) < 10 ^ 38 := by decide
  refine ⟨b - 1, mset_same, by omega, m, rfl, m0, m1, fun low n1 d1 => ?_⟩
  have hn : low.num.natAbs < 10 ^ 38 := Nat.lt_of_lt_of_le n1 m2
  have hd : low.den < 10 ^ 38 := by
    rcases d1 with h | h
    · exact Nat.lt_of_lt_of_le h m2
    · exact Nat.lt_of_le_of_lt h k5
  have l40 := far_lt hn hd
  refine ⟨b - 1 - 6, mset_same, by omega, 4, rfl, by decide, smM, fun t t0 t1 => ⟨by show 2 ≤ sizeLine; decide, low, (t : Rat), by rw [frI], ?_, ?_⟩⟩
  · exact Mx.of l40.sm (m := 5) ⟨by rw [Rat.num_intCast]; exact sm5 (by omega) (by omega), by rw [Rat.den_intCast]; unfold Sm; decide⟩
  · refine ⟨by show 2 ≤ sizeLine; decide, ⟨b - 1 - 6 - 1, by omega, by simp only [mset_mset]; exact Sub.refl _⟩, q (low, low + (t : Rat)) ⟨add_le ?_, l40, far_sum hn hd t0 t1⟩⟩
    exact Rat.intCast_nonneg.mpr t0

/-! ### k75: great plans drawn -/
noncomputable def gGreat75 : List D → (D → Prop) → Prop := fun ds P => ds = [] ∧ ∀ S T Z, PlanOk S T Z → P (planQ S T Z)
private theorem far40 {m : Int} {x : Rat} (m1 : m.natAbs ≤ 10 ^ 40) (n1 : x.num.natAbs < m.natAbs) (d1 : x.den < m.natAbs ∨ x.den ≤ 5000) : Lt40 x := by
  refine ⟨Nat.lt_of_lt_of_le n1 m1, ?_⟩
  rcases d1 with h | h
  · exact Nat.lt_of_lt_of_le h m1
  · exact Nat.lt_of_le_of_lt h (by decide)
noncomputable abbrev s_law_great_plan : Stmt := top 46
private theorem sc_law_great_plan : FnScope ["pool", "sizes", "shims", "demands", "k", "a", "b"] ["pool"] (defScope s_law_great_plan) := ⟨rfl, rfl, rfl, by decide +kernel, rfl, by decide +kernel, by decide +kernel⟩
private theorem h__law_great_plan (B : Bl mg) (F : Def K mg "_law_great_plan" s_law_great_plan ["pool"]) (F__law_far_bounds : Has P w K mg base CX0 3 "_law_far_bounds" ["pool"] (spP K isPool 8 gBnd)) (F__law_take : hTake P w K mg base) (F__law_far_number : hFar P w K mg base) : Has P w K mg base CX0 4 "_law_great_plan" ["pool"] (spP K isPool 2000 gGreat75) := by
  refine F.hasB less_pool sc_law_great_plan (fun ds P h => by obtain ⟨rfl, _⟩ := h; rfl) fun f cdv A outer s H E hr => ?_
  have nd := sc_law_great_plan.nd
  refine ⟨_, (jss_cons (js_setCZ (k := 1) nd rfl (Or.inl rfl) ["k", "pool"] [none, some 0] ⟨rfl, by decide +kernel, by decide +kernel, rfl, rfl, free_of rfl⟩ rfl (ji_rng1 rfl B.range (ja_cons (j_add j_int (j_hP 0 F__law_take (hr.mono (by decide)) rfl (ja_cons j_int ja_nil))) ja_nil)) (fun _ _ _ _ _ => (jg_name (i := 0) (show List.Nodup [("k" : Str), ("pool" : Str)] by decide +kernel) rfl (Or.inl rfl))) (fun _ _ _ _ _ => jc_nil) (fun _ _ _ _ _ => (j_hP 1 F__law_far_bounds (hr.mono (by decide)) rfl ja_nil)))
    (jss_cons (js_setCZ (k := 2) nd rfl (Or.inl rfl) ["k", "pool"] [none, some 0] ⟨rfl, by decide +kernel, by decide +kernel, rfl, rfl, free_of rfl⟩ rfl (ji_rng1 rfl B.range (ja_cons (j_hP 0 F__law_take (hr.mono (by decide)) rfl (ja_cons j_int ja_nil)) ja_nil)) (fun _ _ _ _ _ => (jg_name (i := 0) (show List.Nodup [("k" : Str), ("pool" : Str)] by decide +kernel) rfl (Or.inl rfl))) (fun _ _ _ _ _ => jc_nil) (fun _ _ _ _ _ => (j_hP 1 F__law_far_bounds (hr.mono (by decide)) rfl ja_nil)))
    (jss_cons (js_setN (i := 3) nd rfl (Or.inl rfl) (jn_lst ja_nil))
    (jss_cons (js_for PassesOwn.never rfl (ji_rng1 rfl B.range (ja_cons (j_hP 0 F__law_take (hr.mono (by decide)) rfl (ja_cons j_int ja_nil)) ja_nil)) (jg_name (i := 4) nd rfl (Or.inl rfl))
    (jss_cons (js_setCZ (k := 5) nd rfl (Or.inl rfl) ["size", "pool"] [none, some 0] ⟨rfl, by decide +kernel, by decide +kernel, rfl, rfl, free_of rfl⟩ rfl (ji_list (jv 1)) (fun _ _ _ _ _ => (jg_name (i := 0) (show List.Nodup [("size" : Str), ("pool" : Str)] by decide +kernel) rfl (Or.inl rfl))) (fun _ _ _ _ _ => jc_nil) (fun _ _ _ _ _ => (j_hP 1 F__law_far_number (hr.mono (by decide)) rfl (ja_cons (j_at (j_fz (jn_lst (ja_cons (j_pow j_int j_int) (ja_cons (j_pow j_int j_int) ja_nil)))) (j_hP 1 F__law_take (hr.mono (by decide)) rfl (ja_cons j_int ja_nil))) ja_nil))))
    (jss_cons (js_setCZ (k := 6) nd rfl (Or.inl rfl) ["shim", "pool"] [none, some 0] ⟨rfl, by decide +kernel, by decide +kernel, rfl, rfl, free_of rfl⟩ rfl (ji_list (jv 2)) (fun _ _ _ _ _ => (jg_name (i := 0) (show List.Nodup [("shim" : Str), ("pool" : Str)] by decide +kernel) rfl (Or.inl rfl))) (fun _ _ _ _ _ => jc_nil) (fun _ _ _ _ _ => (j_hP 1 F__law_far_number (hr.mono (by decide)) rfl (ja_cons (j_at (j_fz (jn_lst (ja_cons (j_pow j_int j_int) (ja_cons (j_pow j_int j_int) ja_nil)))) (j_hP 1 F__law_take (hr.mono (by decide)) rfl (ja_cons j_int ja_nil))) ja_nil))))
    (jss_one (js_appW 3 (j_tup (ja_cons (jv 5) (ja_cons (jv 6) (ja_cons (j_hP 0 F__law_far_number (hr.mono (by decide)) rfl (ja_cons (j_pow j_int j_int) ja_nil)) ja_nil)))))))))
    (jss_one (js_ret (j_tup (ja_cons (jv 1) (ja_cons (jv 2) (ja_cons (jv 3) ja_nil)))))))))), ?_⟩
  rintro p ds M b Q hp hb ⟨rfl, q⟩
  have cp : ∀ j : Int, 0 ≤ j → j ≤ 100 → CPow 10 j := fun j h1 h2 => cpow h1 (by omega) (by decide)
  have mb : ∀ m ∈ [(10 : Int) ^ (7 : Int).toNat, 10 ^ (40 : Int).toNat], 10000 ≤ m + 9000 ∧ m.natAbs ≤ 10 ^ 40 := by decide
  have mb' : ∀ m : Int, m = 10 ^ (38 : Int).toNat → 10000 ≤ m + 9000 ∧ m.natAbs ≤ 10 ^ 40 := fun m e => by subst e; decide
  refine ⟨b, hp, by omega, 3, rfl, by decide, smM, fun r r0 r1 => ⟨⟨by omega, by omega⟩, fun j out ρ M2 => ∃ (b' : Int) (S : List (Rat × Rat)) (o : Ent), b - 1 - 8 * (j : Int) ≤ b' ∧ M2 = mset M p (.op (isPool b')) ∧ ρ = [o, .rf p] ∧ out = S.map bQ ∧ S.length = j ∧ ∀ x ∈ S, bOk x, ⟨b - 1, [], _, by omega, rfl, rfl, rfl, rfl, by simp⟩, ?_, ?_⟩⟩
  · rintro j d out ρ M2 hd ⟨b', S, o, hb', rfl, rfl, rfl, lS, oS⟩
    obtain ⟨rfl, hj⟩ := rng_get0 hd
    have hj : j < 6 := by omega
    refine ⟨b', mset_same, by omega, rfl, fun x hx => ⟨by rw [List.length_map, lS]; exact small1000 (by omega), b' - 8, S ++ [x], _, by omega, by rw [mset_mset], rfl, by rw [List.map_append]; rfl, by rw [List.length_append, lS]; rfl, all_snoc oS hx⟩⟩
  rintro out ρ M2 ⟨b1, S, o, hb1, rfl, rfl, rfl, lS, oS⟩
  rw [rng_len] at lS hb1
  refine ⟨b1, mset_same, by omega, 3, rfl, by decide, smM, fun r2 r20 r21 => ⟨⟨by omega, by omega⟩, fun j out ρ M2 => ∃ (b' : Int) (T : List (Rat × Rat)) (o : Ent), b1 - 1 - 8 * (j : Int) ≤ b' ∧ M2 = mset M p (.op (isPool b')) ∧ ρ = [o, .rf p] ∧ out = T.map bQ ∧ T.length = j ∧ ∀ x ∈ T, bOk x, ⟨b1 - 1, [], _, by omega, by rw [mset_mset], rfl, rfl, rfl, by simp⟩, ?_, ?_⟩⟩
  · rintro j d out ρ M2 hd ⟨b', T, o, hb', rfl, rfl, rfl, lT, oT⟩
    obtain ⟨rfl, hj⟩ := rng_get0 hd
    have hj : j < 6 := by omega
    refine ⟨b', mset_same, by omega, rfl, fun x hx => ⟨by rw [List.length_map, lT]; exact small1000 (by omega), b' - 8, T ++ [x], _, by omega, by rw [mset_mset], rfl, by rw [List.map_append]; rfl, by rw [List.length_append, lT]; rfl, all_snoc oT hx⟩⟩
  rintro out ρ M2 ⟨b2, T, o, hb2, rfl, rfl, rfl, lT, oT⟩
  rw [rng_len] at lT hb2
  have lS6 : S.length ≤ 6 := by omega
  have lT6 : T.length ≤ 6 := by omega
  refine ⟨by show 0 ≤ sizeLine; decide, b2, mset_same, by omega, 4, rfl, by decide, smM, fun r3 r30 r31 => ⟨⟨by omega, by omega⟩, fun i ρ M2 => ∃ (b' : Int) (Z : List ZR) (o5 o6 o7 : Ent), b2 - 1 - 200 * (i : Int) ≤ b' ∧ M2 = mset M p (.op (isPool b')) ∧ ρ = [.rf p, .sh (.lst (S.map bQ)), .sh (.lst (T.map bQ)), .ow (Z.map zQ), o5, o6, o7] ∧ Z.length = i ∧ ∀ z ∈ Z, zOk S.length T.length z, ⟨b2 - 1, [], _, _, _, by omega, by rw [mset_mset], rfl, rfl, by simp⟩, ?_, ?_⟩⟩
  · rintro i d ρ M2 hd ⟨b3, Z, o5, o6, o7, hb3, rfl, rfl, lZ, oZ⟩
    obtain ⟨rfl, hi⟩ := rng_get0 hd
    have hi : i < 6 := by omega
    refine ⟨fun j out ρ M2 => ∃ (b' : Int) (qs : List Rat) (o : Ent), b3 - 7 * (j : Int) ≤ b' ∧ M2 = mset M p (.op (isPool b')) ∧ ρ = [o, .rf p] ∧ out = qs.map frD ∧ qs.length = j ∧ ∀ q ∈ qs, Lt40 q, ⟨b3, [], _, by omega, rfl, rfl, rfl, rfl, by simp⟩, ?_, ?_⟩
    · rintro j d out ρ M2 hd ⟨b', qs, o, hb', rfl, rfl, rfl, lq, oq⟩
      have hj := (List.getElem?_eq_some_iff.mp hd).1
      rw [List.length_map] at hj
      refine ⟨cp 7 (by decide) (by decide), cp 40 (by decide) (by decide), by show 2 ≤ sizeLine; decide, b', mset_same, by omega, 2, rfl, by decide, smM, fun r r0 r1 => RIx.lst r0 (by show r < 2; omega) fun d hd => ?_⟩
      have hd : d ∈ [(10 : Int) ^ (7 : Int).toNat, 10 ^ (40 : Int).toNat].map D.int := hd
      obtain ⟨m, hm, rfl⟩ := List.mem_map.mp hd
      obtain ⟨m0, m1⟩ := mb m hm
      exact ⟨b' - 1, mset_same, by omega, m, rfl, m0, m1, fun x n1 d1 => ⟨by rw [List.length_map, lq]; exact small1000 (by omega), b' - 1 - 6, qs ++ [x], _, by omega, by simp only [mset_mset], rfl, by rw [List.map_append]; rfl, by rw [List.length_append, lq]; rfl, all_snoc oq (far40 m1 n1 d1)⟩⟩
    rintro out ρ M2 ⟨b4, as, o, hb4, rfl, rfl, rfl, la, oa⟩
    rw [List.length_map] at la hb4
    refine ⟨fun j out ρ M2 => ∃ (b' : Int) (qs : List Rat) (o : Ent), b4 - 7 * (j : Int) ≤ b' ∧ M2 = mset M p (.op (isPool b')) ∧ ρ = [o, .rf p] ∧ out = qs.map frD ∧ qs.length = j ∧ ∀ q ∈ qs, Lt40 q, ⟨b4, [], _, by omega, rfl, rfl, rfl, rfl, by simp⟩, ?_, ?_⟩
    · rintro j d out ρ M2 hd ⟨b', qs, o, hb', rfl, rfl, rfl, lq, oq⟩
      have hj := (List.getElem?_eq_some_iff.mp hd).1
      rw [List.length_map] at hj
      refine ⟨cp 7 (by decide) (by decide), cp 40 (by decide) (by decide), by show 2 ≤ sizeLine; decide, b', mset_same, by omega, 2, rfl, by decide, smM, fun r r0 r1 => RIx.lst r0 (by show r < 2; omega) fun d hd => ?_⟩
      have hd : d ∈ [(10 : Int) ^ (7 : Int).toNat, 10 ^ (40 : Int).toNat].map D.int := hd
      obtain ⟨m, hm, rfl⟩ := List.mem_map.mp hd
      obtain ⟨m0, m1⟩ := mb m hm
      exact ⟨b' - 1, mset_same, by omega, m, rfl, m0, m1, fun x n1 d1 => ⟨by rw [List.length_map, lq]; exact small1000 (by omega), b' - 1 - 6, qs ++ [x], _, by omega, by simp only [mset_mset], rfl, by rw [List.map_append]; rfl, by rw [List.length_append, lq]; rfl, all_snoc oq (far40 m1 n1 d1)⟩⟩
    rintro out ρ M2 ⟨b5, bs, o, hb5, rfl, rfl, rfl, lb, ob⟩
    rw [List.length_map] at lb hb5
    obtain ⟨m0, m1⟩ := mb' _ rfl
    refine ⟨trivial, cp 38 (by decide) (by decide), b5, mset_same, by omega, _, rfl, m0, m1, fun c n1 d1 => ⟨by show 3 ≤ sizeLine; decide, by rw [List.length_map, lZ]; exact small1000 (by omega), b5 - 6, Z ++ [(as, bs, c)], _, _, _, by omega, by simp only [mset_mset], by rw [List.map_append]; rfl, by rw [List.length_append, lZ]; rfl, all_snoc oZ ⟨la, lb, oa, ob, far40 m1 n1 d1⟩⟩⟩
  · rintro ρ M2 ⟨b3, Z, o5, o6, o7, hb3, rfl, rfl, lZ, oZ⟩
    rw [rng_len] at lZ hb3
    refine ⟨by show 3 ≤ sizeLine; decide, ⟨b3, by omega, Sub.refl _⟩, q S T Z (plan_ok ?_ (by omega) (by omega) (by omega) oS oT oZ)⟩
    intro z
    rw [z, List.length_nil] at lS
    omega

/-! ### k75: the law's own text -/
noncomputable def gRow : List D → (D → Prop) → Prop := fun ds P => ∃ (ws : List (List Nat)) (qs : List Rat), (ds = [.lst (ws.map stD), .lst (qs.map frD)] ∨ ds = [.lst (ws.map stD), .tup (qs.map frD)]) ∧ ws.length ≤ 500 ∧ qs.length ≤ 500 ∧ (∀ q ∈ qs, SmR 1000 q) ∧ Sh1 (ws ++ qs.map txL) ∧ P (stD (inter 32 (ws ++ qs.map txL)))
noncomputable abbrev s_law_row : Stmt := top 48
private theorem sc_law_row : FnScope ["words", "fractions"] ["words", "fractions"] (defScope s_law_row) := ⟨rfl, rfl, rfl, by decide +kernel, rfl, by decide +kernel, by decide +kernel⟩
private theorem h__law_row (B : Bl mg) (F : Def K mg "_law_row" s_law_row ["words", "fractions"]) (F__law_shown : Has P w K mg base CX0 1 "_law_shown" ["q"] (spW K (pur gShow))) : Has P w K mg base CX0 2 "_law_row" ["words", "fractions"] (spW K (pur gRow)) := by
  refine F.hasP sc_law_row (fun ds P h => by obtain ⟨_, _, rfl | rfl, _⟩ := h <;> rfl) fun f cdv A outer s H E hr => ?_
  have nd := sc_law_row.nd
  refine ⟨_, (jss_one (js_ret (j_mt (fun ho ha => pe_bm PySem.F.plainAttrs_str PySem.F.slot_str_join PySem.F.type_str_join mt_join ho ha) w_join j_str (ja_cons (j_fz (jn_cat (jv 0) (j_fz (jn_lc ["q"] [none] ⟨rfl, by decide +kernel, by decide +kernel, rfl, rfl, by intro i x j _ h; exact absurd h (by rcases i with _ | _ | _ | i <;> simp)⟩ rfl (ji_seq (jv 1)) (fun _ _ _ _ _ => (jg_name (i := 0) (show List.Nodup [("q" : Str)] by decide +kernel) rfl (Or.inl rfl))) (fun _ _ _ _ _ => jc_nil) (fun _ _ _ _ _ => (j_h F__law_shown (hr.mono (by decide)) rfl (ja_cons (jv 0) ja_nil))))))) ja_nil)))), ?_⟩
  rintro ds M Q ⟨ws, qs, hds, lw, lq, sq, sh, k⟩
  have em : ∀ qs : List Rat, (ws.map stD) ++ (qs.map fun q => stD (txL q)) = ((ws ++ qs.map txL).map st).map D.str := fun qs => by
    rw [List.map_append, List.map_append, List.map_map, List.map_map, List.map_map]; rfl
  rcases hds with rfl | rfl
  all_goals
    refine ⟨fun j out ρ M2 => M2 = M ∧ ∃ o : Ent, ρ = [o] ∧ out = (qs.take j).map fun q => stD (txL q), ⟨rfl, _, rfl, rfl⟩, ?_, ?_⟩
    · rintro j d out ρ M2 hd ⟨rfl, o, rfl, rfl⟩
      obtain ⟨q, hq, rfl⟩ := map_get hd
      have hj := (List.getElem?_eq_some_iff.mp hq).1
      refine ⟨q, rfl, sq q (List.mem_of_getElem? hq), ?_, rfl, _, rfl, ?_⟩
      · rw [List.length_map, List.length_take]; exact small1000 (by omega)
      · rw [List.take_add_one, hq, List.map_append]; rfl
    · rintro out ρ M2 ⟨rfl, o, rfl, rfl⟩
      rw [show qs.take (qs.map frD).length = qs by rw [List.length_map, List.take_length]]
      refine ⟨by rw [List.length_map, List.length_map]; exact sz5 (by omega), _, by rw [em], ?_, _, Sub.refl _, ?_⟩
      · rw [e32]; exact sh.join
      · rw [e32, join_row]; exact k

noncomputable def gWrit : List D → (D → Prop) → Prop := fun ds P => ∃ S T Z, ds = [planQ S T Z] ∧ OkP S T Z ∧ P (stD (planT S T Z))
private theorem rowB_sh {w : List Nat} {x : Rat × Rat} (lw : w.length ≤ 10) (h : Ok1 x.1 ∧ Ok1 x.2) : Sh1 (rowB w x) := by
  have t1 := tx_len h.1.1
  have t2 := tx_len h.2.1
  refine ⟨by show 3 ≤ 3000; decide, fun l hl => ?_⟩
  unfold rowB at hl
  simp only [List.mem_cons, List.not_mem_nil, or_false] at hl
  rcases hl with rfl | rfl | rfl <;> omega
noncomputable abbrev s_law_written : Stmt := top 49
private theorem sc_law_written : FnScope ["plan", "sizes", "shims", "demands", "rows", "a", "b", "c", "words"] ["plan"] (defScope s_law_written) := ⟨rfl, rfl, rfl, by decide +kernel, rfl, by decide +kernel, by decide +kernel⟩
private theorem h__law_written (B : Bl mg) (F : Def K mg "_law_written" s_law_written ["plan"]) (F__law_row : Has P w K mg base CX0 2 "_law_row" ["words", "fractions"] (spW K (pur gRow))) (F__law_shown : Has P w K mg base CX0 1 "_law_shown" ["q"] (spW K (pur gShow))) : Has P w K mg base CX0 3 "_law_written" ["plan"] (spW K (pur gWrit)) := by
  refine F.hasP sc_law_written (fun ds P h => by obtain ⟨_, _, _, rfl, _⟩ := h; rfl) fun f cdv A outer s H E hr => ?_
  have nd := sc_law_written.nd
  refine ⟨_, (jss_cons (js_asg (jv 0) (jg_tup (n := 3) rfl (jgs_cons (jg_name (i := 1) nd rfl (Or.inl rfl)) (jgs_cons (jg_name (i := 2) nd rfl (Or.inl rfl)) (jgs_cons (jg_name (i := 3) nd rfl (Or.inl rfl)) jgs_nil)))))
    (jss_cons (js_setN (i := 4) nd rfl (Or.inl rfl) (jn_cat (j_fz (jn_lc ["pair"] [none] ⟨rfl, by decide +kernel, by decide +kernel, rfl, rfl, by intro i x j _ h; exact absurd h (by rcases i with _ | _ | _ | i <;> simp)⟩ rfl (ji_list (jv 1)) (fun _ _ _ _ _ => (jg_name (i := 0) (show List.Nodup [("pair" : Str)] by decide +kernel) rfl (Or.inl rfl))) (fun _ _ _ _ _ => jc_nil) (fun _ _ _ _ _ => (j_h F__law_row (hr.mono (by decide)) rfl (ja_cons (j_fz (jn_lst (ja_cons j_str ja_nil))) (ja_cons (jv 0) ja_nil)))))) (j_fz (jn_lc ["pair"] [none] ⟨rfl, by decide +kernel, by decide +kernel, rfl, rfl, by intro i x j _ h; exact absurd h (by rcases i with _ | _ | _ | i <;> simp)⟩ rfl (ji_list (jv 2)) (fun _ _ _ _ _ => (jg_name (i := 0) (show List.Nodup [("pair" : Str)] by decide +kernel) rfl (Or.inl rfl))) (fun _ _ _ _ _ => jc_nil) (fun _ _ _ _ _ => (j_h F__law_row (hr.mono (by decide)) rfl (ja_cons (j_fz (jn_lst (ja_cons j_str ja_nil))) (ja_cons (jv 0) ja_nil))))))))
    (jss_cons (js_for PassesOwn.never rfl (ji_list (jv 3)) (jg_tup (n := 3) rfl (jgs_cons (jg_name (i := 5) nd rfl (Or.inl rfl)) (jgs_cons (jg_name (i := 6) nd rfl (Or.inl rfl)) (jgs_cons (jg_name (i := 7) nd rfl (Or.inl rfl)) jgs_nil))))
    (jss_cons (js_set (i := 8) nd rfl (Or.inl rfl) (j_fz (jn_cat (j_fz (jn_cat (j_fz (jn_cat (j_fz (jn_lst (ja_cons j_str ja_nil))) (j_fz (jn_lc ["q"] [none] ⟨rfl, by decide +kernel, by decide +kernel, rfl, rfl, by intro i x j _ h; exact absurd h (by rcases i with _ | _ | _ | i <;> simp)⟩ rfl (ji_list (jv 5)) (fun _ _ _ _ _ => (jg_name (i := 0) (show List.Nodup [("q" : Str)] by decide +kernel) rfl (Or.inl rfl))) (fun _ _ _ _ _ => jc_nil) (fun _ _ _ _ _ => (j_h F__law_shown (hr.mono (by decide)) rfl (ja_cons (jv 0) ja_nil))))))) (j_fz (jn_lst (ja_cons j_str ja_nil))))) (j_fz (jn_lc ["q"] [none] ⟨rfl, by decide +kernel, by decide +kernel, rfl, rfl, by intro i x j _ h; exact absurd h (by rcases i with _ | _ | _ | i <;> simp)⟩ rfl (ji_list (jv 6)) (fun _ _ _ _ _ => (jg_name (i := 0) (show List.Nodup [("q" : Str)] by decide +kernel) rfl (Or.inl rfl))) (fun _ _ _ _ _ => jc_nil) (fun _ _ _ _ _ => (j_h F__law_shown (hr.mono (by decide)) rfl (ja_cons (jv 0) ja_nil))))))))
    (jss_one (js_appW 4 (j_h F__law_row (hr.mono (by decide)) rfl (ja_cons (j_fz (jn_cat (jv 8) (j_fz (jn_lst (ja_cons j_str ja_nil))))) (ja_cons (j_fz (jn_lst (ja_cons (jv 7) ja_nil))) ja_nil)))))))
    (jss_one (js_ret (j_mt (fun ho ha => pe_bm PySem.F.plainAttrs_str PySem.F.slot_str_join PySem.F.type_str_join mt_join ho ha) w_join j_str (ja_cons (jv 4) ja_nil))))))), ?_⟩
  rintro ds M Q ⟨S, T, Z, rfl, ok, k⟩
  obtain ⟨lr, rk⟩ := rows_ok ok
  obtain ⟨l1, l2, l3, s1, s2, s3⟩ := id ok
  have pr : ∀ {x : Rat × Rat}, Ok1 x.1 ∧ Ok1 x.2 → ∀ q ∈ [x.1, x.2], SmR 1000 q := fun {x} h q hq => by
    simp only [List.mem_cons, List.not_mem_nil, or_false] at hq
    rcases hq with rfl | rfl
    · exact h.1.1
    · exact h.2.1
  refine ⟨rfl, fun j out ρ M2 => M2 = M ∧ ∃ o : Ent, ρ = [o] ∧ out = (S.take j).map fun x => stD (inter 32 (rowB wSize x)), ⟨rfl, _, rfl, rfl⟩, ?_, ?_⟩
  · rintro j d out ρ M2 hd ⟨rfl, o, rfl, rfl⟩
    obtain ⟨x, hx, rfl⟩ := map_get hd
    have hj := (List.getElem?_eq_some_iff.mp hx).1
    have g := s1 x (List.mem_of_getElem? hx)
    refine ⟨by show 1 ≤ sizeLine; decide, [wSize], [x.1, x.2], .inr (by rw [eSize]; rfl), by show 1 ≤ 500; decide, by show 2 ≤ 500; decide, pr g, rowB_sh (w := wSize) (by decide) g, ?_, rfl, _, rfl, ?_⟩
    · rw [List.length_map, List.length_take]; exact small1000 (by omega)
    · rw [List.take_add_one, hx, List.map_append]; rfl
  rintro out ρ M2 ⟨rfl, o, rfl, rfl⟩
  rw [show S.take (S.map bQ).length = S by rw [List.length_map, List.take_length]]
  refine ⟨fun j out ρ M3 => M3 = M2 ∧ ∃ o : Ent, ρ = [o] ∧ out = (T.take j).map fun x => stD (inter 32 (rowB wShim x)), ⟨rfl, _, rfl, rfl⟩, ?_, ?_⟩
  · rintro j d out ρ M3 hd ⟨rfl, o, rfl, rfl⟩
    obtain ⟨x, hx, rfl⟩ := map_get hd
    have hj := (List.getElem?_eq_some_iff.mp hx).1
    have g := s2 x (List.mem_of_getElem? hx)
    refine ⟨by show 1 ≤ sizeLine; decide, [wShim], [x.1, x.2], .inr (by rw [eShim]; rfl), by show 1 ≤ 500; decide, by show 2 ≤ 500; decide, pr g, rowB_sh (w := wShim) (by decide) g, ?_, rfl, _, rfl, ?_⟩
    · rw [List.length_map, List.length_take]; exact small1000 (by omega)
    · rw [List.take_add_one, hx, List.map_append]; rfl
  rintro out ρ M3 ⟨rfl, o, rfl, rfl⟩
  rw [show T.take (T.map bQ).length = T by rw [List.length_map, List.take_length]]
  refine ⟨by rw [List.length_map, List.length_map]; exact sz5 (by omega), fun i ρ M' => M' = M3 ∧ ∃ o5 o6 o7 o8, ρ = [.sh (planQ S T Z), .sh (.lst (S.map bQ)), .sh (.lst (T.map bQ)), .sh (.lst (Z.map zQ)), .ow ((S.map fun x => stD (inter 32 (rowB wSize x))) ++ (T.map fun x => stD (inter 32 (rowB wShim x))) ++ ((Z.take i).map fun z => stD (inter 32 (rowD z)))), o5, o6, o7, o8], ⟨rfl, _, _, _, _, by rw [List.take_zero, List.map_nil, List.append_nil]; rfl⟩, ?_, ?_⟩
  · rintro i d ρ M' hd ⟨rfl, o5, o6, o7, o8, rfl⟩
    obtain ⟨z, hz, rfl⟩ := map_get hd
    have hi := (List.getElem?_eq_some_iff.mp hz).1
    have oz := s3 z (List.mem_of_getElem? hz)
    obtain ⟨z1, z2, z3, z4, z5⟩ := id oz
    have sh := rowD_sh oz.sm
    have comp : ∀ (qs : List Rat), (∀ q ∈ qs, Ok1 q) → qs.length ≤ 100 → ∀ (j : Nat) (q : Rat), qs[j]? = some q → SmR 1000 q ∧ j < 100 := fun qs h l j q hq => ⟨(h q (List.mem_of_getElem? hq)).1, by have := (List.getElem?_eq_some_iff.mp hq).1; omega⟩
    refine ⟨rfl, by show 1 ≤ sizeLine; decide, fun j out ρ M2 => M2 = M' ∧ ∃ o : Ent, ρ = [o] ∧ out = (z.1.take j).map fun q => stD (txL q), ⟨rfl, _, rfl, rfl⟩, ?_, ?_⟩
    · rintro j d out ρ M2 hd ⟨rfl, o, rfl, rfl⟩
      obtain ⟨q, hq, rfl⟩ := map_get hd
      obtain ⟨c1, c2⟩ := comp _ z3 z1 j q hq
      refine ⟨q, rfl, c1, ?_, rfl, _, rfl, ?_⟩
      · rw [List.length_map, List.length_take]; exact small1000 (by omega)
      · rw [List.take_add_one, hq, List.map_append]; rfl
    rintro out ρ M2 ⟨rfl, o, rfl, rfl⟩
    rw [show z.1.take (z.1.map frD).length = z.1 by rw [List.length_map, List.take_length]]
    refine ⟨by simp only [List.length_map, List.length_cons, List.length_nil]; exact sz5 (by omega), by show 1 ≤ sizeLine; decide, by simp only [List.length_append, List.length_map, List.length_cons, List.length_nil]; exact sz5 (by omega), fun j out ρ M4 => M4 = M2 ∧ ∃ o : Ent, ρ = [o] ∧ out = (z.2.1.take j).map fun q => stD (txL q), ⟨rfl, _, rfl, rfl⟩, ?_, ?_⟩
    · rintro j d out ρ M4 hd ⟨rfl, o, rfl, rfl⟩
      obtain ⟨q, hq, rfl⟩ := map_get hd
      obtain ⟨c1, c2⟩ := comp _ z4 z2 j q hq
      refine ⟨q, rfl, c1, ?_, rfl, _, rfl, ?_⟩
      · rw [List.length_map, List.length_take]; exact small1000 (by omega)
      · rw [List.take_add_one, hq, List.map_append]; rfl
    rintro out ρ M4 ⟨rfl, o, rfl, rfl⟩
    rw [show z.2.1.take (z.2.1.map frD).length = z.2.1 by rw [List.length_map, List.take_length]]
    have ew : [D.str (Str.ofString "demand")] ++ (z.1.map fun q => stD (txL q)) ++ [D.str (Str.ofString ":")] ++ (z.2.1.map fun q => stD (txL q)) ++ [D.str (Str.ofString ":")] = (wDem :: (z.1.map txL ++ [58] :: (z.2.1.map txL ++ [[58]]))).map stD := by
      rw [eDem, eCol]
      unfold stD
      simp only [List.map_cons, List.map_append, List.map_map, List.map_nil, List.append_assoc, List.cons_append, List.nil_append]
      rfl
    have er : wDem :: (z.1.map txL ++ [58] :: (z.2.1.map txL ++ [[58]])) ++ [z.2.2].map txL = rowD z := by
      unfold rowD
      simp only [List.cons_append, List.append_assoc, List.map_cons, List.map_nil, List.nil_append]
    refine ⟨by simp only [List.length_append, List.length_map, List.length_cons, List.length_nil]; exact sz5 (by omega), trivial, by show 1 ≤ sizeLine; decide, by simp only [List.length_append, List.length_map, List.length_cons, List.length_nil]; exact sz5 (by omega), by show 1 ≤ sizeLine; decide, wDem :: (z.1.map txL ++ [58] :: (z.2.1.map txL ++ [[58]])), [z.2.2], .inl ?_, ?_, by show 1 ≤ 500; decide, ?_, ?_, ?_⟩
    · rw [← ew]; rfl
    · simp only [List.length_cons, List.length_append, List.length_map, List.length_nil]; omega
    · intro q hq; rw [List.mem_singleton.mp hq]; exact z5.1
    · rw [er]; exact sh
    · rw [er]
      refine ⟨?_, rfl, _, _, _, _, by rw [List.take_add_one, hz, List.map_append, ← List.append_assoc]; rfl⟩
      simp only [List.length_append, List.length_map, List.length_take]; exact small1000 (by omega)
  · rintro ρ M' ⟨rfl, o5, o6, o7, o8, rfl⟩
    rw [show Z.take (Z.map zQ).length = Z by rw [List.length_map, List.take_length]]
    refine ⟨_, by rw [planT_D], ?_, _, Sub.refl _, ?_⟩
    · rw [eSemi]; exact rows_join lr rk
    · rw [eSemi]
      have : Txt.join (st [59, 32]) (((rowsP S T Z).map (inter 32)).map st) = st (planT S T Z) := glueS _ _
      rw [this]; exact k

/-! ### lists shown -/
private theorem join_small {qs : List Rat} (l : qs.length ≤ 1000) (h : ∀ q ∈ qs, SmR 1000 q) : ((qs.map fun q => st (txL q)).map (·.length)).sum + (qs.map fun q => st (txL q)).length * (st [32]).length ≤ 16777216 := by
  have : ∀ qs : List Rat, (∀ q ∈ qs, SmR 1000 q) → ((qs.map fun q => st (txL q)).map (·.length)).sum ≤ 2010 * qs.length := by
    intro qs
    induction qs with
    | nil => intro _; simp
    | cons q qs ih =>
      intro h
      have h1 := ih fun x hx => h x (.tail _ hx)
      have h2 := tx_len (h q (.head _))
      rw [List.map_cons, List.map_cons, List.sum_cons, st_len, List.length_cons]
      omega
  have h1 := this qs h
  rw [List.length_map, st_len, List.length_singleton]
  omega
noncomputable def gShowL : List D → (D → Prop) → Prop := fun ds P => ∃ qs : List Rat, ds = [.lst (qs.map frD)] ∧ qs.length ≤ 1000 ∧ (∀ q ∈ qs, SmR 1000 q) ∧ P (.str (st (spcL qs)))
private theorem strs_map (qs : List Rat) : (qs.map fun q => D.str (st (txL q))) = (qs.map fun q => st (txL q)).map D.str := by rw [List.map_map]; rfl
private theorem join_txt {qs : List Rat} (h : qs ≠ []) : Txt.join (st [32]) (qs.map fun q => st (txL q)) = st (spcL qs) := by
  unfold spcL
  rw [if_neg h, ← glue_st, List.map_map]; rfl
noncomputable abbrev s_show_list : Stmt := top 20
private theorem sc_show_list : FnScope ["fractions"] ["fractions"] (defScope s_show_list) := ⟨rfl, rfl, rfl, by decide +kernel, rfl, by decide +kernel, by decide +kernel⟩
private theorem h_show_list (B : Bl mg) (F : Def K mg "show_list" s_show_list ["fractions"]) (F_show_words : Has P w K mg base CX0 3 "show_words" ["fractions"] (spW K (pur gWords))) : Has P w K mg base CX0 4 "show_list" ["fractions"] (spW K (pur gShowL)) := by
  refine F.hasP sc_show_list (fun ds P h => by obtain ⟨q, rfl, _⟩ := h; rfl) fun f cdv A outer s H E hr => ?_
  have nd := sc_show_list.nd
  refine ⟨_, (jss_cons (js_if (jt_eq hr (j_lenV 0 rfl B.len) j_int) (jss_one (js_ret j_str)) jss_nil)
    (jss_one (js_ret (j_mt (fun ho ha => pe_bm PySem.F.plainAttrs_str PySem.F.slot_str_join PySem.F.type_str_join mt_join ho ha) w_join j_str (ja_cons (j_h F_show_words (hr.mono (by decide)) rfl (ja_cons (jv 0) ja_nil)) ja_nil))))), ?_⟩
  rintro ds M Q ⟨qs, rfl, lq, sq, k⟩
  refine ⟨by show 0 ≤ 60; decide, ?_⟩
  show if (((qs.map frD).length : Int) == 0) = true then _ else _
  refine iteB (fun c => ?_) (fun c => ?_)
  · have c : qs = [] := by
      have : (((qs.map frD).length : Nat) : Int) = 0 := by simpa using c
      rw [List.length_map] at this
      exact List.length_eq_zero_iff.mp (by omega)
    refine ⟨_, Sub.refl _, ?_⟩
    rw [enone]
    have e : spcL qs = [110, 111, 110, 101] := by unfold spcL; rw [if_pos c]
    rw [← e]
    exact k
  · have c : qs ≠ [] := fun z => by rw [z] at c; simp at c
    refine ⟨qs, .inl rfl, lq, sq, _, by rw [show (qs.map fun q => stD (txL q)) = qs.map fun q => D.str (st (txL q)) from rfl, strs_map], ?_, _, Sub.refl _, ?_⟩
    · rw [e32]; exact join_small lq sq
    · rw [e32, join_txt c]; exact k

/-! ### read plans are plans -/
private theorem bls_rep (n : Nat) : bls (List.replicate n (D.bl true)) = some (List.replicate n true) := by
  have := bls_map (List.replicate n true)
  rwa [List.map_replicate] at this
private theorem all_rep (n : Nat) : (List.replicate n true).all id = true := by simp
noncomputable def gIsBL : List D → (D → Prop) → Prop := fun ds P => ∃ S : List (Rat × Rat), ds = [.lst (S.map bQ)] ∧ S.length ≤ 1000 ∧ (∀ x ∈ S, Fig x.1 ∧ Fig x.2 ∧ x.1 ≤ x.2) ∧ P (.bl true)
noncomputable abbrev s_is_bounds_list : Stmt := top 13
private theorem sc_is_bounds_list : FnScope ["thing"] ["thing"] (defScope s_is_bounds_list) := ⟨rfl, rfl, rfl, by decide +kernel, rfl, by decide +kernel, by decide +kernel⟩
private theorem h_is_bounds_list (B : Bl mg) (F : Def K mg "is_bounds_list" s_is_bounds_list ["thing"]) (F_is_bounds : Has P w K mg base CX0 3 "is_bounds" ["thing"] (spW K (pur gIsBE))) : Has P w K mg base CX0 4 "is_bounds_list" ["thing"] (spW K (pur gIsBL)) := by
  refine F.hasP sc_is_bounds_list (fun ds P h => by obtain ⟨_, rfl, _⟩ := h; rfl) fun f cdv A outer s H E hr => ?_
  have nd := sc_is_bounds_list.nd
  refine ⟨_, (jss_one (js_ret (j_and (j_isW (T := "list") isLst kitLst rfl B.isinstance rfl B.list boot_list (jv 0)) (j_one (j_all rfl B.all rfl (ja_cons (j_fz (jn_lc ["pair"] [none] ⟨rfl, by decide +kernel, by decide +kernel, rfl, rfl, by intro i x j _ h; exact absurd h (by rcases i with _ | _ | _ | i <;> simp)⟩ rfl (ji_list (jv 0)) (fun _ _ _ _ _ => (jg_name (i := 0) (show List.Nodup [("pair" : Str)] by decide +kernel) rfl (Or.inl rfl))) (fun _ _ _ _ _ => jc_nil) (fun _ _ _ _ _ => (j_h F_is_bounds (hr.mono (by decide)) rfl (ja_cons (jv 0) ja_nil))))) ja_nil)))))), ?_⟩
  rintro ds M Q ⟨S, rfl, l, g, k⟩
  refine ⟨fun i es ρ M' => M' = M ∧ es = List.replicate i (D.bl true) ∧ ∃ o, ρ = [o], ⟨rfl, rfl, _, rfl⟩, ?_, ?_⟩
  · rintro i d out ρ M' hd ⟨rfl, rfl, o, rfl⟩
    obtain ⟨x, hx, rfl⟩ := map_get hd
    obtain ⟨g1, g2, g3⟩ := g x (List.mem_of_getElem? hx)
    have hi := (List.getElem?_eq_some_iff.mp hx).1
    refine ⟨[x.1, x.2], rfl, fun q hq => ?_, fun b hb => ?_⟩
    · simp only [List.mem_cons, List.not_mem_nil, or_false] at hq
      rcases hq with rfl | rfl
      · exact g1
      · exact g2
    · rw [hb.mpr ⟨_, _, rfl, g3⟩]
      exact ⟨by rw [List.length_replicate]; exact small1000 (by omega), rfl, by rw [List.replicate_succ'], .sh (bQ x), rfl⟩
  · rintro out ρ M' ⟨rfl, rfl, o, rfl⟩
    show match bls (List.replicate _ (D.bl true)) with | some bs => _ | none => False
    rw [bls_rep]
    exact ⟨_, Sub.refl _, by dsimp only; rw [all_rep]; exact k⟩
noncomputable def gIsFL : List D → (D → Prop) → Prop := fun ds P => ∃ (qs : List Rat) (n : Nat), ds = [D.lst (qs.map frD), .int n] ∧ qs.length = n ∧ n ≤ 1000 ∧ P (.bl true)
noncomputable abbrev s_is_fraction_list : Stmt := top 14
private theorem sc_is_fraction_list : FnScope ["thing", "length"] ["thing", "length"] (defScope s_is_fraction_list) := ⟨rfl, rfl, rfl, by decide +kernel, rfl, by decide +kernel, by decide +kernel⟩
private theorem h_is_fraction_list (B : Bl mg) (F : Def K mg "is_fraction_list" s_is_fraction_list ["thing", "length"]) (F_is_fraction : hIsFr P w K mg base) : Has P w K mg base CX0 3 "is_fraction_list" ["thing", "length"] (spW K (pur gIsFL)) := by
  refine F.hasP sc_is_fraction_list (fun ds P h => by obtain ⟨_, _, rfl, _⟩ := h; rfl) fun f cdv A outer s H E hr => ?_
  have nd := sc_is_fraction_list.nd
  refine ⟨_, (jss_cons (js_if (JW.jt (jw_or (jt_not (jt (j_isW (T := "list") isLst kitLst rfl B.isinstance rfl B.list boot_list (jv 0)))) (jw_or1 (jt_ne hr (j_lenV 0 rfl B.len) (jv 1))))) (jss_one (js_ret j_bl)) jss_nil)
    (jss_one (js_ret (j_all rfl B.all rfl (ja_cons (j_fz (jn_lc ["q"] [none] ⟨rfl, by decide +kernel, by decide +kernel, rfl, rfl, by intro i x j _ h; exact absurd h (by rcases i with _ | _ | _ | i <;> simp)⟩ rfl (ji_list (jv 0)) (fun _ _ _ _ _ => (jg_name (i := 0) (show List.Nodup [("q" : Str)] by decide +kernel) rfl (Or.inl rfl))) (fun _ _ _ _ _ => jc_nil) (fun _ _ _ _ _ => (j_h F_is_fraction (hr.mono (by decide)) rfl (ja_cons (jv 0) ja_nil))))) ja_nil))))), ?_⟩
  rintro ds M Q ⟨qs, n, rfl, l, hn, k⟩
  refine ⟨by show 0 ≤ 60; decide, ?_⟩
  show if (!(((qs.map frD).length : Int) == (n : Int))) = true then _ else _
  refine iteN (by rw [List.length_map, l]; simp) ?_
  refine ⟨fun i es ρ M' => M' = M ∧ es = List.replicate i (D.bl true) ∧ ∃ o, ρ = [o], ⟨rfl, rfl, _, rfl⟩, ?_, ?_⟩
  · rintro i d out ρ M' hd ⟨rfl, rfl, o, rfl⟩
    obtain ⟨x, hx, rfl⟩ := map_get hd
    have hi := (List.getElem?_eq_some_iff.mp hx).1
    exact ⟨x, rfl, by rw [List.length_replicate]; exact small1000 (by omega), rfl, by rw [List.replicate_succ'], .sh (frD x), rfl⟩
  · rintro out ρ M' ⟨rfl, rfl, o, rfl⟩
    show match bls (List.replicate _ (D.bl true)) with | some bs => _ | none => False
    rw [bls_rep]
    exact ⟨_, Sub.refl _, by dsimp only; rw [all_rep]; exact k⟩
noncomputable def gIsDem : List D → (D → Prop) → Prop := fun ds P => ∃ (z : ZR) (n m : Nat), ds = [zQ z, .int n, .int m] ∧ z.1.length = n ∧ z.2.1.length = m ∧ n ≤ 1000 ∧ m ≤ 1000 ∧ P (.bl true)
noncomputable abbrev s_is_demand : Stmt := top 15
private theorem sc_is_demand : FnScope ["thing", "size_count", "shim_count"] ["thing", "size_count", "shim_count"] (defScope s_is_demand) := ⟨rfl, rfl, rfl, by decide +kernel, rfl, by decide +kernel, by decide +kernel⟩
private theorem h_is_demand (B : Bl mg) (F : Def K mg "is_demand" s_is_demand ["thing", "size_count", "shim_count"]) (F_is_tuple_of : hTupOf P w K mg base) (F_is_fraction_list : Has P w K mg base CX0 3 "is_fraction_list" ["thing", "length"] (spW K (pur gIsFL))) (F_is_fraction : hIsFr P w K mg base) : Has P w K mg base CX0 4 "is_demand" ["thing", "size_count", "shim_count"] (spW K (pur gIsDem)) := by
  refine F.hasP sc_is_demand (fun ds P h => by obtain ⟨_, _, _, rfl, _⟩ := h; rfl) fun f cdv A outer s H E hr => ?_
  have nd := sc_is_demand.nd
  refine ⟨_, (jss_cons (js_if (jt_not (jt (j_h F_is_tuple_of (hr.mono (by decide)) rfl (ja_cons (jv 0) (ja_cons j_int ja_nil))))) (jss_one (js_ret j_bl)) jss_nil)
    (jss_cons (js_if (JW.jt (jw_or (jt_not (jt (j_h F_is_fraction_list (hr.mono (by decide)) rfl (ja_cons (j_atV 0 j_int) (ja_cons (jv 1) ja_nil))))) (jw_or1 (jt_not (jt (j_h F_is_fraction_list (hr.mono (by decide)) rfl (ja_cons (j_atV 0 j_int) (ja_cons (jv 2) ja_nil)))))))) (jss_one (js_ret j_bl)) jss_nil)
    (jss_one (js_ret (j_h F_is_fraction (hr.mono (by decide)) rfl (ja_cons (j_atV 0 j_int) ja_nil)))))), ?_⟩
  rintro ds M Q ⟨z, n, m, rfl, l1, l2, hn, hm, k⟩
  exact ⟨_, _, rfl, _, _, rfl, l1, hn, _, _, rfl, l2, hm, _, rfl, _, Sub.refl _, k⟩
structure GoodPlan (S T : List (Rat × Rat)) (Z : List ZR) : Prop where
  s0 : S ≠ []
  lS : S.length ≤ 1000
  lT : T.length ≤ 1000
  lZ : Z.length ≤ 1000
  oS : ∀ x ∈ S, Fig x.1 ∧ Fig x.2 ∧ x.1 ≤ x.2
  oT : ∀ x ∈ T, Fig x.1 ∧ Fig x.2 ∧ x.1 ≤ x.2
  l1 : ∀ z ∈ Z, z.1.length = S.length
  l2 : ∀ z ∈ Z, z.2.1.length = T.length
noncomputable def gIsPlan : List D → (D → Prop) → Prop := fun ds P => ∃ S T Z, ds = [planQ S T Z] ∧ GoodPlan S T Z ∧ P (.bl true)
noncomputable abbrev s_is_plan : Stmt := top 16
private theorem sc_is_plan : FnScope ["thing", "size_count", "shim_count"] ["thing"] (defScope s_is_plan) := ⟨rfl, rfl, rfl, by decide +kernel, rfl, by decide +kernel, by decide +kernel⟩
private theorem h_is_plan (B : Bl mg) (F : Def K mg "is_plan" s_is_plan ["thing"]) (F_is_tuple_of : hTupOf P w K mg base) (F_is_bounds_list : Has P w K mg base CX0 4 "is_bounds_list" ["thing"] (spW K (pur gIsBL))) (F_is_demand : Has P w K mg base CX0 4 "is_demand" ["thing", "size_count", "shim_count"] (spW K (pur gIsDem))) : Has P w K mg base CX0 5 "is_plan" ["thing"] (spW K (pur gIsPlan)) := by
  refine F.hasP sc_is_plan (fun ds P h => by obtain ⟨_, _, _, rfl, _⟩ := h; rfl) fun f cdv A outer s H E hr => ?_
  have nd := sc_is_plan.nd
  refine ⟨_, (jss_cons (js_if (jt_not (jt (j_h F_is_tuple_of (hr.mono (by decide)) rfl (ja_cons (jv 0) (ja_cons j_int ja_nil))))) (jss_one (js_ret j_bl)) jss_nil)
    (jss_cons (js_if (JW.jt (jw_or (jt_not (jt (j_h F_is_bounds_list (hr.mono (by decide)) rfl (ja_cons (j_atV 0 j_int) ja_nil)))) (jw_or1 (jt_not (jt (j_h F_is_bounds_list (hr.mono (by decide)) rfl (ja_cons (j_atV 0 j_int) ja_nil))))))) (jss_one (js_ret j_bl)) jss_nil)
    (jss_cons (js_if (JW.jt (jw_or (jt_eq hr (j_len rfl B.len (ja_cons (j_atV 0 j_int) ja_nil)) j_int) (jw_or1 (jt_not (jt (j_isW (T := "list") isLst kitLst rfl B.isinstance rfl B.list boot_list (j_atV 0 j_int))))))) (jss_one (js_ret j_bl)) jss_nil)
    (jss_cons (js_set (i := 1) nd rfl (Or.inr rfl) (j_len rfl B.len (ja_cons (j_atV 0 j_int) ja_nil)))
    (jss_cons (js_set (i := 2) nd rfl (Or.inr rfl) (j_len rfl B.len (ja_cons (j_atV 0 j_int) ja_nil)))
    (jss_one (js_ret (j_all rfl B.all rfl (ja_cons (j_fz (jn_lc ["demand", "size_count", "shim_count"] [none, some 1, some 2] ⟨rfl, by decide +kernel, by decide +kernel, rfl, rfl, free_of rfl⟩ rfl (ji_list (j_atV 0 j_int)) (fun _ _ _ _ _ => (jg_name (i := 0) (show List.Nodup [("demand" : Str), ("size_count" : Str), ("shim_count" : Str)] by decide +kernel) rfl (Or.inl rfl))) (fun _ _ _ _ _ => jc_nil) (fun _ _ _ _ _ => (j_h F_is_demand (hr.mono (by decide)) rfl (ja_cons (jv 0) (ja_cons (jv 1) (ja_cons (jv 2) ja_nil))))))) ja_nil))))))))), ?_⟩
  rintro ds M Q ⟨S, T, Z, rfl, g, k⟩
  refine ⟨_, _, rfl, S, rfl, g.lS, g.oS, T, rfl, g.lT, g.oT, by show 0 ≤ 60; decide, ?_⟩
  have s0 : ((S.map bQ).length : Int) ≠ 0 := by rw [List.length_map]; have := List.length_pos_iff.mpr g.s0; omega
  show if (((S.map bQ).length : Int) == 0) = true then _ else _
  refine iteN (by simpa using s0) ?_
  refine ⟨fun i es ρ M' => M' = M ∧ es = List.replicate i (D.bl true) ∧ ∃ o, ρ = [o, .sh (.int (S.map bQ).length), .sh (.int (T.map bQ).length)], ⟨rfl, rfl, _, rfl⟩, ?_, ?_⟩
  · rintro i d out ρ M' hd ⟨rfl, rfl, o, rfl⟩
    obtain ⟨z, hz, rfl⟩ := map_get hd
    have hi := (List.getElem?_eq_some_iff.mp hz).1
    have lZ := g.lZ
    have mz := List.mem_of_getElem? hz
    exact ⟨z, (S.map bQ).length, (T.map bQ).length, rfl, by rw [List.length_map]; exact g.l1 z mz, by rw [List.length_map]; exact g.l2 z mz, by rw [List.length_map]; exact g.lS, by rw [List.length_map]; exact g.lT, by rw [List.length_replicate]; exact small1000 (by omega), rfl, by rw [List.replicate_succ'], .sh (zQ z), rfl⟩
  · rintro out ρ M' ⟨rfl, rfl, o, rfl⟩
    show match bls (List.replicate _ (D.bl true)) with | some bs => _ | none => False
    rw [bls_rep]
    exact ⟨_, Sub.refl _, by dsimp only; rw [all_rep]; exact k⟩

/-! ### k77: a text changed at a drawn place -/
section
variable {X : Cx} {a b : Expr} {fa fb : WE} {pos : Pos}
noncomputable def RIxS : D → D → (D → Prop) → Prop := fun x y P => match x, y with
  | .str z, .int i => z.length ≤ sizeLine ∧ ∃ c, atI z.cps.toList i = some c ∧ P (.str ⟨#[c]⟩)
  | _, _ => False
private theorem w_ixS : OpW X rIxS RIxS := by
  intro x y v u F H Q P sm rx ry h k
  unfold RIxS at h
  split at h
  · rename_i z i
    obtain ⟨l, c, hc, q⟩ := h
    rw [Rp] at rx
    rw [Rp] at ry
    exact ⟨z, i, c, rx, ry, l, hc, k (.str ⟨#[c]⟩) (.str ⟨#[c]⟩) F H .rf (by rw [Rp]) q⟩
  · exact h.elim
private theorem j_ixS (ha : JE X a fa) (hb : JE X b fb) (hs : PlainIx b := by intro _ _; rfl) : JE X (.Subscript a b pos) (wOp RIxS fa fb) := j_ix ix_str w_ixS ha hb hs
end
noncomputable def TxC (b k : Nat) (l : List Nat) : Prop := (∀ c ∈ l, c < 128) ∧ l.length ≤ b + k ∧ l.count 59 ≤ 60 + k ∧ b ≤ 2000000
private theorem TxC.b {b k : Nat} {l : List Nat} (h : TxC b k l) (hk : k ≤ 10) : TxB l := ⟨h.1, by have := h.2.1; have := h.2.2.2; omega⟩
private theorem sl_take {l : List Nat} {a : Nat} (h : a ≤ l.length) : Txt.slice (st l) none (some (a : Int)) = st (l.take a) := by
  have := eq_of_beq (PyProof.Rows.slice_closes_to (x := st l) (j := (a : Int)) ⟨by omega, by show (a : Int) ≤ (l.length : Int); omega⟩)
  rw [this]
  show (⟨(List.take ((a : Int) - 0).toNat l).toArray⟩ : Str) = _
  rw [show ((a : Int) - 0).toNat = a by omega]; rfl
private theorem sl_drop0 {l : List Nat} {a : Nat} (h : a ≤ l.length) : Txt.slice (st l) (some (a : Int)) none = st (l.drop a) := by
  have := eq_of_beq (PyProof.Rows.slice_closes_from (x := st l) (i := (a : Int)) ⟨by omega, by show (a : Int) ≤ (l.length : Int); omega⟩)
  rw [this]
  show (⟨(List.take ((l.length : Int) - (a : Int)).toNat (List.drop (a : Int).toNat l)).toArray⟩ : Str) = _
  rw [Int.toNat_natCast, show ((l.length : Int) - (a : Int)).toNat = (l.drop a).length by rw [List.length_drop]; omega, List.take_length]; rfl
private theorem idx_lo {lo hi : Option Int} {n : Nat} {i : Int} (h : (n : Int) ≤ i) (e : lo = some i) : Builtin.Str.strSliceIndices lo hi 1 n = Builtin.Str.strSliceIndices (some (n : Int)) hi 1 n := by
  subst e
  unfold Builtin.Str.strSliceIndices
  simp only
  rw [if_neg (show ¬ i < 0 by omega), if_neg (show ¬ (n : Int) < 0 by omega), Int.min_eq_right h, Int.min_self]; rfl
private theorem idx_hi {lo hi : Option Int} {n : Nat} {i : Int} (h : (n : Int) ≤ i) (e : hi = some i) : Builtin.Str.strSliceIndices lo hi 1 n = Builtin.Str.strSliceIndices lo (some (n : Int)) 1 n := by
  subst e
  unfold Builtin.Str.strSliceIndices
  simp only
  rw [if_neg (show ¬ i < 0 by omega), if_neg (show ¬ (n : Int) < 0 by omega), Int.min_eq_right h, Int.min_self]; rfl
private theorem sl_drop {l : List Nat} {a : Nat} : Txt.slice (st l) (some (a : Int)) none = st (l.drop a) := by
  by_cases h : a ≤ l.length
  · exact sl_drop0 h
  · have : Txt.slice (st l) (some (a : Int)) none = Txt.slice (st l) (some (l.length : Int)) none := by
      unfold Txt.slice
      rw [st_len, idx_lo (i := (a : Int)) (by omega) rfl]
    rw [this, sl_drop0 (Nat.le_refl _), List.drop_length, List.drop_eq_nil_of_le (by omega)]
private theorem sl_one {l : List Nat} {a : Nat} (h : a ≤ l.length) : Txt.slice (st l) (some (a : Int)) (some ((a : Int) + 1)) = st ((l.drop a).take 1) := by
  by_cases h2 : a + 1 ≤ l.length
  · have := eq_of_beq (PyProof.Rows.slice_closes (x := st l) (i := (a : Int)) (j := (a : Int) + 1) ⟨by omega, by omega, by show (a : Int) + 1 ≤ (l.length : Int); omega⟩)
    rw [this]
    show (⟨(List.take ((a : Int) + 1 - (a : Int)).toNat (List.drop (a : Int).toNat l)).toArray⟩ : Str) = _
    rw [Int.toNat_natCast, show ((a : Int) + 1 - (a : Int)).toNat = 1 by omega]; rfl
  · have e : a = l.length := by omega
    subst e
    have : Txt.slice (st l) (some (l.length : Int)) (some ((l.length : Int) + 1)) = Txt.slice (st l) (some (l.length : Int)) (some (l.length : Int)) := by
      unfold Txt.slice
      rw [st_len, idx_hi (i := (l.length : Int) + 1) (by omega) rfl]
    have h3 := eq_of_beq (PyProof.Rows.slice_closes (x := st l) (i := (l.length : Int)) (j := (l.length : Int)) ⟨by omega, by omega, by show (l.length : Int) ≤ (l.length : Int); omega⟩)
    rw [this, h3, List.drop_length]
    show (⟨(List.take ((l.length : Int) - (l.length : Int)).toNat (List.drop (l.length : Int).toNat l)).toArray⟩ : Str) = _
    rw [Int.sub_self]; rfl
noncomputable def sgnL : List Nat := [48, 49, 50, 51, 52, 53, 54, 55, 56, 57, 47, 45, 43, 58, 59, 32, 97, 100, 101, 104, 105, 109, 110, 111, 115, 122, 9, 10]
private theorem eSgn : Str.ofString "0123456789/-+:; adehimnosz\t\n" = st sgnL := by rw [PySem.Str.ofString_eq_toList]; rfl
private theorem TxC.mix {B k : Nat} {l : List Nat} (h : TxC B k l) {a c : Nat} {b : List Nat} (hb : b = [] ∨ (b = [c] ∧ c < 128)) (r : List Nat) (hr : ∃ n, r = l.drop n ∧ a ≤ n) : TxC B (k + 1) (l.take a ++ b ++ r) := by
  obtain ⟨n, rfl, hn⟩ := hr
  obtain ⟨h1, h2, h3, h4⟩ := h
  have e : l = l.take a ++ l.drop a := (List.take_append_drop a l).symm
  have e1 : (l.drop n).length ≤ (l.drop a).length := by rw [List.length_drop, List.length_drop]; omega
  have e2 : (l.drop n).count 59 ≤ (l.drop a).count 59 := by
    have : l.drop n = (l.drop a).drop (n - a) := by rw [List.drop_drop]; congr 1; omega
    rw [this]
    exact (List.drop_sublist _ _).count_le _
  have e3 : l.length = (l.take a).length + (l.drop a).length := by rw [← List.length_append, ← e]
  have e4 : l.count 59 = (l.take a).count 59 + (l.drop a).count 59 := by rw [← List.count_append, ← e]
  have b1 : b.length ≤ 1 ∧ b.count 59 ≤ 1 := by
    rcases hb with rfl | ⟨rfl, _⟩
    · exact ⟨by decide, by decide⟩
    · exact ⟨Nat.le_refl _, List.count_le_length⟩
  refine ⟨fun x hx => ?_, ?_, ?_, h4⟩
  · rcases List.mem_append.mp hx with hx | hx
    · rcases List.mem_append.mp hx with hx | hx
      · exact h1 x (List.mem_of_mem_take hx)
      · rcases hb with rfl | ⟨rfl, hc⟩
        · cases hx
        · rw [List.mem_singleton.mp hx]; exact hc
    · exact h1 x (List.mem_of_mem_drop hx)
  · rw [List.length_append, List.length_append]; omega
  · rw [List.count_append, List.count_append]; omega
private theorem TxC.dbl {B k : Nat} {l : List Nat} (h : TxC B k l) (a : Nat) : TxC B (k + 1) (l.take a ++ (l.drop a).take 1 ++ l.drop a) := by
  cases e : l.drop a with
  | nil => rw [← e]; exact h.mix (c := 0) (.inl (by rw [e]; rfl)) _ ⟨a, rfl, Nat.le_refl _⟩
  | cons x t =>
    have : x ∈ l := List.mem_of_mem_drop (by rw [e]; exact .head _)
    rw [← e]
    exact h.mix (c := x) (.inr ⟨by rw [e]; rfl, h.1 x this⟩) _ ⟨a, rfl, Nat.le_refl _⟩
private theorem TxC.rot {B k : Nat} {l : List Nat} (h : TxC B k l) (a : Nat) : TxC B (k + 1) (l.drop a ++ l.take a) := by
  obtain ⟨h1, h2, h3, h4⟩ := h
  have e : l = l.take a ++ l.drop a := (List.take_append_drop a l).symm
  have e3 : l.length = (l.take a).length + (l.drop a).length := by rw [← List.length_append, ← e]
  have e4 : l.count 59 = (l.take a).count 59 + (l.drop a).count 59 := by rw [← List.count_append, ← e]
  refine ⟨fun x hx => ?_, by rw [List.length_append]; omega, by rw [List.count_append]; omega, h4⟩
  rcases List.mem_append.mp hx with hx | hx
  · exact h1 x (List.mem_of_mem_drop hx)
  · exact h1 x (List.mem_of_mem_take hx)
noncomputable def gChg : List D → (D → Prop) → Prop := fun ds P => ∃ (l : List Nat) (B k : Nat), ds = [stD l] ∧ TxC B k l ∧ k ≤ 5 ∧ ∀ l', TxC B (k + 1) l' → P (stD l')
noncomputable abbrev s_law_changed : Stmt := top 51
private theorem sc_law_changed : FnScope ["pool", "text", "signs", "at", "sign", "there", "some"] ["pool", "text"] (defScope s_law_changed) := ⟨rfl, rfl, rfl, by decide +kernel, rfl, by decide +kernel, by decide +kernel⟩
private theorem h__law_changed (B : Bl mg) (F : Def K mg "_law_changed" s_law_changed ["pool", "text"]) (F__law_take : hTake P w K mg base) : Has P w K mg base CX0 2 "_law_changed" ["pool", "text"] (spP K isPool 4 gChg) := by
  refine F.hasB less_pool sc_law_changed (fun ds P h => by obtain ⟨_, _, _, rfl, _⟩ := h; rfl) fun f cdv A outer s H E hr => ?_
  have nd := sc_law_changed.nd
  refine ⟨_, (jss_cons (js_set (i := 2) nd rfl (Or.inl rfl) j_str)
    (jss_cons (js_set (i := 3) nd rfl (Or.inl rfl) (j_hP 0 F__law_take (hr.mono (by decide)) rfl (ja_cons (j_add (j_lenT rfl B.len (ja_cons (jv 1) ja_nil)) j_int) ja_nil)))
    (jss_cons (js_set (i := 4) nd rfl (Or.inl rfl) (j_ixS (jv 2) (j_hP 0 F__law_take (hr.mono (by decide)) rfl (ja_cons j_int ja_nil))))
    (jss_cons (js_set (i := 5) nd rfl (Or.inl rfl) (j_hP 0 F__law_take (hr.mono (by decide)) rfl (ja_cons (j_add (j_lenT rfl B.len (ja_cons (jv 1) ja_nil)) j_int) ja_nil)))
    (jss_cons (js_set (i := 6) nd rfl (Or.inl rfl) (j_fz (jn_lst (ja_cons (j_catS (j_catS (j_slS (jv 1) jo_none (jo_some (jv 3))) (jv 4)) (j_slS (jv 1) (jo_some (jv 3)) jo_none)) (ja_cons (j_catS (j_slS (jv 1) jo_none (jo_some (jv 3))) (j_slS (jv 1) (jo_some (j_add (jv 3) j_int)) jo_none)) (ja_cons (j_catS (j_catS (j_slS (jv 1) jo_none (jo_some (jv 3))) (jv 4)) (j_slS (jv 1) (jo_some (j_add (jv 3) j_int)) jo_none)) ja_nil))))))
    (jss_one (js_ret (j_at (j_fz (jn_cat (jv 6) (j_fz (jn_lst (ja_cons (j_catS (j_catS (j_slS (jv 1) jo_none (jo_some (jv 3))) (j_slS (jv 1) (jo_some (jv 3)) (jo_some (j_add (jv 3) j_int)))) (j_slS (jv 1) (jo_some (jv 3)) jo_none)) (ja_cons (j_catS (j_slS (jv 1) (jo_some (jv 5)) jo_none) (j_slS (jv 1) jo_none (jo_some (jv 5)))) ja_nil)))))) (j_hP 0 F__law_take (hr.mono (by decide)) rfl (ja_cons j_int ja_nil)))))))))), ?_⟩
  rintro p ds M b Q hp hb ⟨l, Bd, k, rfl, tx, hk, q⟩
  have tb := tx.b (by omega)
  have sz := tb.sz
  have ll : ((st l).length : Int) = (l.length : Int) := by rw [st_len]
  have lm : l.length ≤ 5000000 := tb.2
  have draw : ∀ {P : Int → Prop}, (∀ a : Nat, a ≤ l.length → P (a : Int)) → ∀ r : Int, 0 ≤ r → r < ((st l).length : Int) + 1 → P r := fun {P} h r r0 r1 => by
    obtain ⟨a, rfl⟩ : ∃ a : Nat, r = (a : Int) := ⟨r.toNat, by omega⟩
    exact h a (by omega)
  have sm1 : Sm 9000 (((st l).length : Int) + 1) := smM (by rw [ll]; exact Nat.lt_of_le_of_lt (show _ ≤ 5000001 by omega) (by decide))
  refine ⟨sz, b, hp, by omega, ((st l).length : Int) + 1, rfl, by omega, sm1, draw fun a ha => ?_⟩
  refine ⟨b - 1, mset_same, by omega, 28, rfl, by decide, smM, fun r r0 r1 => ?_⟩
  obtain ⟨i, rfl⟩ : ∃ i : Nat, r = (i : Int) := ⟨r.toNat, by omega⟩
  have hi : i < sgnL.length := by show i < 28; omega
  have hc : sgnL[i] < 128 := by
    have : ∀ c ∈ sgnL, c < 128 := by decide
    exact this _ (List.getElem_mem hi)
  have hat : atI (st sgnL).cps.toList (i : Int) = some sgnL[i] := by
    show atI sgnL (i : Int) = _
    unfold atI
    rw [ixN_ok hi]
    exact List.getElem?_eq_getElem hi
  generalize sgnL[i] = c at hc hat
  rw [eSgn]
  refine ⟨by rw [st_len]; exact sz5 (by decide), c, hat, sz, b - 1 - 1, by rw [mset_mset]; exact mset_same, by omega, ((st l).length : Int) + 1, rfl, by omega, sm1, draw fun th hth => ?_⟩
  have cc : ∀ {x y : List Nat}, x.length ≤ 5000005 → y.length ≤ 5000005 → (st x).length + (st y).length ≤ sizeLine := fun h1 h2 => by
    rw [st_len, st_len]; exact Nat.le_trans (show _ ≤ 10000010 by omega) (by rw [sizeLine_eq]; decide)
  have lt : ∀ n, (l.take n).length ≤ 5000005 := fun n => by rw [List.length_take]; omega
  have ld : ∀ n, (l.drop n).length ≤ 5000005 := fun n => by rw [List.length_drop]; omega
  have l1 : ∀ n, (l.take n ++ [c]).length ≤ 5000005 := fun n => by rw [List.length_append, List.length_take]; show _ + 1 ≤ _; omega
  have d1 : Txt.slice (st l) (some ((a : Int) + 1)) none = st (l.drop (a + 1)) := sl_drop (a := a + 1)
  refine ⟨sz, ?_⟩
  show (Txt.slice (st l) none (some (a : Int))).length + (st [c]).length ≤ sizeLine ∧ _
  rw [sl_take ha]
  refine ⟨cc (lt a) (show 1 ≤ 5000005 by decide), sz, ?_⟩
  show (st (l.take a) ++ st [c]).length + (Txt.slice (st l) (some (a : Int)) none).length ≤ sizeLine ∧ _
  rw [sl_drop, st_app]
  refine ⟨cc (l1 a) (ld a), sz, ?_⟩
  refine ⟨sz, ?_⟩
  show (Txt.slice (st l) none (some (a : Int))).length + (Txt.slice (st l) (some ((a : Int) + 1)) none).length ≤ sizeLine ∧ _
  rw [sl_take ha, d1]
  refine ⟨cc (lt a) (ld (a + 1)), sz, ?_⟩
  show (Txt.slice (st l) none (some (a : Int))).length + (st [c]).length ≤ sizeLine ∧ _
  rw [sl_take ha]
  refine ⟨cc (lt a) (show 1 ≤ 5000005 by decide), sz, ?_⟩
  show (st (l.take a) ++ st [c]).length + (Txt.slice (st l) (some ((a : Int) + 1)) none).length ≤ sizeLine ∧ _
  rw [d1, st_app]
  refine ⟨cc (l1 a) (ld (a + 1)), by show 3 ≤ sizeLine; decide, sz, sz, ?_⟩
  show (Txt.slice (st l) none (some (a : Int))).length + (Txt.slice (st l) (some (a : Int)) (some ((a : Int) + 1))).length ≤ sizeLine ∧ _
  rw [sl_take ha, sl_one ha]
  refine ⟨cc (lt a) (by rw [List.length_take]; exact Nat.le_trans (Nat.min_le_left _ _) (by decide)), sz, ?_⟩
  show (st (l.take a) ++ st ((l.drop a).take 1)).length + (Txt.slice (st l) (some (a : Int)) none).length ≤ sizeLine ∧ _
  rw [sl_drop, st_app]
  refine ⟨cc (by rw [List.length_append, List.length_take, List.length_take]; omega) (ld a), sz, sz, ?_⟩
  show (Txt.slice (st l) (some (th : Int)) none).length + (Txt.slice (st l) none (some (th : Int))).length ≤ sizeLine ∧ _
  rw [sl_drop, sl_take hth]
  refine ⟨cc (ld th) (lt th), by show 2 ≤ sizeLine; decide, by show 3 + 2 ≤ sizeLine; decide, b - 1 - 1 - 1, by simp only [mset_mset]; exact mset_same, by omega, 5, rfl, by decide, smM, fun r r0 r1 => RIx.lst r0 (by show r < 5; omega) fun d hd => ⟨⟨b - 1 - 1 - 1 - 1, by omega, by simp only [mset_mset]; exact Sub.refl _⟩, ?_⟩⟩
  have e1 : st (l.take a) ++ (⟨#[c]⟩ : Str) = st (l.take a ++ [c]) := st_app _ [c]
  rw [e1, st_app, st_app, st_app, st_app, st_app] at hd
  simp only [List.cons_append, List.nil_append, List.mem_cons, List.not_mem_nil, or_false] at hd
  rcases hd with rfl | rfl | rfl | rfl | rfl
  · exact q _ (tx.mix (c := c) (.inr ⟨rfl, hc⟩) _ ⟨a, rfl, Nat.le_refl _⟩)
  · have := tx.mix (a := a) (c := c) (b := []) (.inl rfl) (l.drop (a + 1)) ⟨a + 1, rfl, by omega⟩
    rw [List.append_nil] at this
    exact q _ this
  · exact q _ (tx.mix (c := c) (.inr ⟨rfl, hc⟩) _ ⟨a + 1, rfl, by omega⟩)
  · exact q _ (tx.dbl a)
  · exact q _ (tx.rot th)

/-! ### a def that reads what changes, and tells a tree or is refused -/
noncomputable def spEM (K : PySem.W.Frag) (C : Addr) (g : List D → Mm → (Option D → Prop) → Prop) : Sp := fun vs H Q E => ∃ Z F M ds P, AgM K Z F M H ∧ Rps K F ds vs ∧ g ds M P ∧ (∀ v H' F' d, Same F F' → AgM K Z F' M H' → Rp K F' d v → P (some d) → Q v H') ∧ (∀ x H' F', Same F F' → AgM K Z F' M H' → H' x = none → P none → E (.ref C) (some x) H')
/-! ### try: f(..) except S as e: suite -/
section
variable {X : Cx} {e : Expr} {es : List Expr} {fl : WA} {fs : WS} {n f S : Str} {j : Nat} {g : List D → Mm → (Option D → Prop) → Prop} {k : Nat} {ps : List Str} {b0 : Stmt} {suite : List Stmt} {pos p cpos np hpos tpos : Pos} {C Sa : Addr}
end
/-! ### name is not None, of what is caught -/
/-! ### a try whose suite has more than one statement; calls in it may be refused by any class -/
noncomputable def wFnG (XR : Rho → Mm → Prop) (g : List D → Mm → (Option D → Prop) → Prop) (fl : WA) : WE := fun ρ M P => fl ρ M fun ds ρ1 M1 => g ds M1 fun o => match o with
  | some d => P d ρ1 M1
  | none => XR ρ1 M1
noncomputable def wTryG (K : PySem.W.Frag) (Sa : Addr) (j : Nat) (fb : (Addr → Rho → Mm → Prop) → WS) (fs : Addr → WS) : WS := fun E ρ M => fb (fun C ρ1 M1 => PySem.W.exmOne K (.ref C) (.ref Sa) = some true ∧ ∀ p, M1 p = none → fs p ⟨fun ρ2 M2 => E.nx (ρ2.set j .un) M2, E.rt, fun ρ2 M2 => E.bk (ρ2.set j .un) M2, fun ρ2 M2 => E.ct (ρ2.set j .un) M2⟩ (ρ1.set j (.rf p)) (mset M1 p (.xc C))) E ρ M
noncomputable def HxG (K : PySem.W.Frag) (Z0 F0 : Hp) (R : L2.St → XK) (C : Addr) (XR : Rho → Mm → Prop) : Prop := ∀ σ' ρ' H' F' M', Same F0 F' → Ag K Z0 F' M' H' ρ' σ' → XR ρ' M' → ∀ a, H' a = none → R σ' (.ref C) (some a) H'
section
variable {X : Cx} {Z0 F0 : Hp} {e : Expr} {es : List Expr} {fl : WA} {fs : WS} {n f S : Str} {j : Nat} {g : List D → Mm → (Option D → Prop) → Prop} {k : Nat} {ps : List Str} {b0 : Stmt} {suite body : List Stmt} {pos p np hpos tpos : Pos} {C Sa : Addr} {R : L2.St → XK} {XR : Rho → Mm → Prop} {fb : (Addr → Rho → Mm → Prop) → WS}
private theorem xe_hG (F : Has X.prog X.w X.K X.mg X.base (CX1 X.prog X.w) k f ps (spEM X.K C g)) (hx : HxG X.K Z0 F0 R C XR) (ar : Arr X R) (hr : Room k X.A) (hg : Gl X f) (ha : XAj X Z0 F0 (e :: es) fl)
    (hdb : (f == ("__debug__" : Str)) = false := by decide) (he : starEach (e :: es) X.env = (false, eval e X.env) :: starEach es X.env := by rfl) (hpl : (backTo pos (starEach es X.env)).any (·.1) = false := by rfl) : XEj X Z0 F0 (.Call (.Name f p) (e :: es) [] pos) (wFnG XR g fl) :=
  ⟨imE (pe_hX F hr hg ar ha.h hdb he hpl) fun σ H Q ⟨F, ρ, M, P, s0, ag, hf, k⟩ => ⟨F, ρ, M, _, s0, ag, hf, fun vs H1 F1 ds ρ1 M1 s1 ag1 r1 h1 =>
    ⟨_, F1, M1, ds, _, ag1.m.inner, r1, h1, fun v H' F' d s' m' r p => k v H' F' d ρ1 M1 (s1.trans s') (ag1.back s' m') r p, fun a H' F' s' m' ha p => hx σ ρ1 H' F' M1 (s0.trans (s1.trans s')) (ag1.back s' m') p a ha⟩⟩⟩
private theorem js_tryG {fs : Addr → WS} (hN : X.N.Nodup) (hj : X.N[j]? = some n) (hk : X.env.scope.names.lookup n = some .local) (hgS : Gl X S) (hmS : X.mg S = some (.ref Sa))
    (hb : ∀ pn xe (R : L2.St → XK), Arr (Cx.tr X pn xe) R → ∀ (Z0 F0 : Hp) (XR : Addr → Rho → Mm → Prop), (∀ C, HxG X.K Z0 F0 R C (XR C)) → XSs (Cx.tr X pn xe) Z0 F0 body (fb XR)) (hs : ∀ a, JSs (Cx.mk' X a) (b0 :: suite) (fs a))
    (hst : X.stack = X.env :: X.outer := by rfl) (hfr : X.env.frame = some X.env.locals := by rfl) (hdS : (S == ("__debug__" : Str)) = false := by decide) :
    JS X (.Try body [.ExceptHandler (some (.Name S np)) (some n) (b0 :: suite) hpos] [] [] tpos) (wTryG X.K Sa j fb fs) :=
  ⟨imS (ps_try (tb := fun R D σ H => ∃ (Z0 F0 : Hp) (XR : Addr → Rho → Mm → Prop), (∀ C, HxG X.K Z0 F0 R C (XR C)) ∧ lfSX X.K Z0 F0 (fb XR) D σ H) (ts := fun a => lfS X.K (fs a)) hN hj hk hgS hmS (fun pn xe R ar pins s σ H D I ⟨Z0, F0, XR, hx, h⟩ => (hb pn xe R ar Z0 F0 XR hx).h pins s σ H D I h) (fun a => (hs a).h) hst hfr hdS) fun D' σ H hh => ex5 hh fun Z F ρ M E ag hf k => by
    refine ⟨Z, F, _, fun C σ' ρ1 H' F' M1 s' a1 ⟨hex, p⟩ x hx => ?_, F, ρ, M, E, Same.refl _, ag, hf, k⟩
    obtain ⟨y1, y2, y3⟩ := none_of a1.m hx
    have a2 := (a1.newO (o := .ext (IsX x C)) hx).adoptM (mo := .xc C) upd_same y1 y2 y3 (fun q es h z => by
      obtain ⟨q', ws, h1, h2, _⟩ := a1.en q _ h
      rw [z] at h1
      cases h1
      rw [hx] at h2; cases h2) upd_same
    have a3 := a2.put (i := j) (e := .rf x) (o := some (.ref x)) rfl fun _ _ z => nomatch z
    exact ⟨x, C, rfl, rfl, hex, Z, F', _, _, _, a3, p x y2, ⟨fun σ' H2 F2 ρ2 M2 t a q => k.nx _ H2 F2 _ M2 (s'.trans t) a.unset q, fun σ' H2 F2 ρ2 M2 t a q => k.bk _ H2 F2 _ M2 (s'.trans t) a.unset q, fun σ' H2 F2 ρ2 M2 t a q => k.ct _ H2 F2 _ M2 (s'.trans t) a.unset q, fun v H2 F2 u M2 t a r q => k.rt v H2 F2 u M2 (s'.trans t) a r q⟩⟩⟩
end
private theorem toEM {P : Program} {w : World} {K : PySem.W.Frag} {mg : Str → Option Value} {base : Heap} {k : Nat} {x : Str} {ps : List Str} {CX : CXT} {C : Addr} {g : List D → (Option D → Prop) → Prop} (F : Has P w K mg base CX k x ps (spE K C g)) : Has P w K mg base CX k x ps (spEM K C fun ds _ Q => g ds Q) := by
  obtain ⟨f, fd, F, b, kp, m⟩ := F.ex
  exact ⟨f, fd, F.imp fun vs H Q E h => h, b, kp, m⟩

/-! ### k77: the law reads -/
/-! ### name is not None, what is caught or none -/
section
variable {X : Cx} {pos np p : Pos} {x : Str}
noncomputable def wXnU (i : Nat) : WT := fun ρ M P => match ρ[i]? with
  | some (.ut (.adr _)) => P true ρ M
  | some (.ut (.d .non)) => P false ρ M
  | _ => False
private theorem jt_xnU {k : Nat} {cp : Pos} (i : Nat) (hN : X.N[i]? = some x := by rfl) (hv : Vis X.env.scope x := by first | exact Or.inl rfl | exact Or.inr (Or.inl rfl) | exact Or.inr (Or.inr rfl)) (hd : (x == ("__debug__" : Str)) = false := by decide) (hcd : (x == ("__classdict__" : Str)) = false := by decide) :
    JT X (.Compare (.Name x np) [.IsNot] [.Constant .none k cp] pos) (wXnU i) := ⟨imT (pt_cmpR op_notN (L2.pv (pos := np) i hN hv hd hcd) pe_non (nomark _)) fun σ H Q hh => ex5 hh fun Z F ρ M P ag hf k => by
  unfold wXnU at hf
  split at hf
  · rename_i q hq
    obtain ⟨v, h1, h2⟩ := ag.en i _ hq
    rw [RU] at h2
    subst h2
    exact ⟨.ref q, sl_of h1, rfl, _, rfl, k true H F ρ M (Same.refl _) ag hf⟩
  · rename_i hq
    obtain ⟨v, h1, h2⟩ := ag.en i _ hq
    rw [RU, Rp] at h2
    subst h2
    exact ⟨.non, sl_of h1, rfl, _, rfl, k false H F ρ M (Same.refl _) ag hf⟩
  · exact hf.elim⟩
end
noncomputable def RdIs (way : Nat) (l : List Nat) (d : D) : Prop := match way with
  | 0 => ∃ q, FrIs l q ∧ d = frD q
  | 1 => ∃ qs, LsIs l qs ∧ d = .lst (qs.map frD)
  | _ => ∃ p : Pl3, PlIs l p ∧ d = planQ p.1 p.2.1 p.2.2
noncomputable def gRdL : List D → (D → Prop) → Prop := fun ds P => ∃ (way : Nat) (l : List Nat), ds = [.int (way : Int), stD l] ∧ TxB l ∧ (∀ d, RdIs way l d → P (.lst [d])) ∧ ((∀ d, ¬ RdIs way l d) → P (.lst []))
noncomputable abbrev s_law_read : Stmt := top 50
private theorem sc_law_read : FnScope ["way", "text", "caught", "told", "e"] ["way", "text"] (defScope s_law_read) := ⟨rfl, rfl, rfl, by decide +kernel, rfl, by decide +kernel, by decide +kernel⟩
private theorem h__law_read (B : Bl mg) (Z : Exs K mg) (F : Def K mg "_law_read" s_law_read ["way", "text"]) (F_read_fraction : hTX P w K mg base 3 "read_fraction" ["text"] gReadE) (F_read_list : hTX P w K mg base 5 "read_list" ["text"] gRLE) (F_read_plan : hTX P w K mg base 6 "read_plan" ["text"] gRPE) : Has P w K mg base CX0 7 "_law_read" ["way", "text"] (spW K (pur gRdL)) := by
  have XC_NoText := Z.NoText
  have X_read_fraction := toEM F_read_fraction
  have X_read_list := toEM F_read_list
  have X_read_plan := toEM F_read_plan
  refine F.hasP sc_law_read (fun ds P h => by obtain ⟨_, _, rfl, _⟩ := h; rfl) fun f cdv A outer s H E hr => ?_
  have nd := sc_law_read.nd
  refine ⟨_, (jss_cons (js_setU (i := 2) nd rfl (Or.inl rfl) (ju_d j_non))
    (jss_cons (js_set (i := 3) nd rfl (Or.inl rfl) j_non)
    (jss_cons (js_tryG (j := 4) nd rfl rfl rfl XC_NoText.m (fun _ _ _ ar _ _ _ hx => (xss_one (xs_if (jt_nox (jt_eq hr (jv 0) j_int)) (xss_one (xs_set (i := 3) nd rfl (Or.inl rfl) (xe_hG X_read_fraction (hx _) ar (hr.mono (by decide)) rfl (xa_of (ja_nox (ja_cons (jv 1) ja_nil)))))) (xss_one (xs_if (jt_nox (jt_eq hr (jv 0) j_int)) (xss_one (xs_set (i := 3) nd rfl (Or.inl rfl) (xe_hG X_read_list (hx _) ar (hr.mono (by decide)) rfl (xa_of (ja_nox (ja_cons (jv 1) ja_nil)))))) (xss_one (xs_set (i := 3) nd rfl (Or.inl rfl) (xe_hG X_read_plan (hx _) ar (hr.mono (by decide)) rfl (xa_of (ja_nox (ja_cons (jv 1) ja_nil))))))))))) (fun a0 => (jss_one (js_setU (i := 2) nd rfl (Or.inl rfl) (ju_v 4)))))
    (jss_cons (js_if (jt_xnU 2) (jss_one (js_ret (j_fz (jn_lst ja_nil)))) jss_nil)
    (jss_one (js_ret (j_fz (jn_lst (ja_cons (jv 3) ja_nil))))))))), ?_⟩
  rintro ds M Q ⟨way, l, rfl, tb, k1, k2⟩
  have hx : PySem.W.exmOne K (.ref (cOf mg "NoText")) (.ref (cOf mg "NoText")) = some true := exm_sub Z.NoText.c Z.s_NoText_NoText
  have z1 : 1 ≤ sizeLine := by decide
  have z0 : 0 ≤ sizeLine := by decide
  refine ⟨by show 0 ≤ 60; decide, ?_⟩
  show if ((way : Int) == 0) = true then _ else _
  refine iteB (fun c => ?_) (fun c => ⟨by show 0 ≤ 60; decide, ?_⟩)
  · obtain rfl : way = 0 := by
      have : (way : Int) = 0 := by simpa using c
      omega
    exact ⟨l, rfl, tb, fun q hq => ⟨z1, _, Sub.refl _, k1 _ ⟨q, hq, rfl⟩⟩, fun h => ⟨hx, fun p hp => ⟨z0, _, (Sub.refl M).mset hp, k2 fun d ⟨q, hq, _⟩ => h q hq⟩⟩⟩
  show if ((way : Int) == 1) = true then _ else _
  have c : way ≠ 0 := fun z => by subst z; cases c
  refine iteB (fun c1 => ?_) (fun c1 => ?_)
  · obtain rfl : way = 1 := by
      have : (way : Int) = 1 := by simpa using c1
      omega
    exact ⟨l, rfl, tb, fun q hq => ⟨z1, _, Sub.refl _, k1 _ ⟨q, hq, rfl⟩⟩, fun h => ⟨hx, fun p hp => ⟨z0, _, (Sub.refl M).mset hp, k2 fun d ⟨q, hq, _⟩ => h q hq⟩⟩⟩
  · have c1 : way ≠ 1 := fun z => by subst z; cases c1
    obtain ⟨n, rfl⟩ : ∃ n, way = n + 2 := ⟨way - 2, by omega⟩
    exact ⟨l, rfl, tb, fun q hq => ⟨z1, _, Sub.refl _, k1 _ ⟨q, hq, rfl⟩⟩, fun h => ⟨hx, fun p hp => ⟨z0, _, (Sub.refl M).mset hp, k2 fun d ⟨q, hq, _⟩ => h q hq⟩⟩⟩

/-! ### k77: what is read is right -/
private theorem gcd_nn (q : Rat) : Rat.divInt q.num (q.den : Int) = q := Rat.num_divInt_den q
private theorem dep_frD1 (q : Rat) : dep (frD q) ≤ 1 := by simp [frD, dep, deps]
noncomputable def gGoodQ : List D → (D → Prop) → Prop := fun ds P => ∃ q : Rat, ds = [frD q] ∧ SmR 1000 q ∧ P (.bl true)
private theorem sm_den {q : Rat} (h : SmR 1000 q) : Sm 9000 (q.den : Int) := h.2.mono (by decide)
noncomputable abbrev s_law_good : Stmt := top 52
private theorem sc_law_good : FnScope ["q"] ["q"] (defScope s_law_good) := ⟨rfl, rfl, rfl, by decide +kernel, rfl, by decide +kernel, by decide +kernel⟩
private theorem h__law_good (B : Bl mg) (F : Def K mg "_law_good" s_law_good ["q"]) (F__law_least : hLeast P w K mg base) : Has P w K mg base CX0 2 "_law_good" ["q"] (spW K (pur gGoodQ)) := by
  refine F.hasP sc_law_good (fun ds P h => by obtain ⟨_, rfl, _⟩ := h; rfl) fun f cdv A outer s H E hr => ?_
  have nd := sc_law_good.nd
  refine ⟨_, (jss_one (js_ret (j_and (j_eq hr (jv 0) (j_h F__law_least (hr.mono (by decide)) rfl (ja_cons (j_atV 0 j_int) (ja_cons (j_atV 0 j_int) ja_nil)))) (j_one (j_isW (T := "tuple") isTup kitTup rfl B.isinstance rfl B.tuple boot_tuple (jv 0)))))), ?_⟩
  rintro ds M Q ⟨q, rfl, sq, k⟩
  have hp : (0 : Int) < q.den := by have := q.den_pos; omega
  refine ⟨q.num, q.den, rfl, hp, sm_den sq, ?_⟩
  rw [gcd_nn]
  refine ⟨Nat.le_trans (dep_frD1 q) (by decide), ?_⟩
  show if peq (frD q) (frD q) = true then _ else _
  rw [peq_refl]
  exact ⟨_, Sub.refl _, k⟩
private theorem count_interS : ∀ {ls : List (List Nat)}, ls.length ≤ (interS [59, 32] ls).count 59 + 1
  | [] => Nat.zero_le _
  | [l] => Nat.le_add_left _ _
  | l :: m :: ls => by
    have h := count_interS (ls := m :: ls)
    rw [interS_cons, List.count_append, List.count_append, List.length_cons]
    have : List.count 59 [59, 32] = 1 := by decide
    omega
private theorem pl_ok {l : List Nat} {p : Pl3} (h : PlIs l p) (c : l.count 59 ≤ 90) : OkP p.1 p.2.1 p.2.2 := by
  obtain ⟨e, _, hS, hT, hZ⟩ := h
  have k := count_interS (ls := (rowsP p.1 p.2.1 p.2.2).map (inter 32))
  have e2 : interS [59, 32] ((rowsP p.1 p.2.1 p.2.2).map (inter 32)) = l := e.symm
  rw [e2, List.length_map] at k
  unfold rowsP at k
  simp only [List.length_append, List.length_map] at k
  refine ⟨by omega, by omega, by omega, fun x hx => ⟨(hS x hx).1.ok, (hS x hx).2.1.ok⟩, fun x hx => ⟨(hT x hx).1.ok, (hT x hx).2.1.ok⟩, fun z hz => ?_⟩
  obtain ⟨z1, z2, z3, z4, z5⟩ := hZ z hz
  exact ⟨by omega, by omega, fun q hq => (z3 q hq).ok, fun q hq => (z4 q hq).ok, z5.ok⟩
private theorem dep_frs (qs : List Rat) : dep (.lst (qs.map frD)) ≤ 60 := by rw [dep]; exact Nat.le_trans (Nat.succ_le_succ (deps_map' dep_frD1 qs)) (by decide)
private theorem peq_nil (qs : List Rat) : peq (.lst (qs.map frD)) (.lst []) = decide (qs = []) := by
  cases qs with
  | nil => rfl
  | cons q qs =>
    rw [decide_eq_false (by simp), List.map_cons]
    rfl
private theorem text_is (qs : List Rat) : st (inter 32 ([] ++ qs.map txL)) ++ (if (if decide (qs = []) = true then (1 : Int) else 0) = 1 then st [110, 111, 110, 101] else Str.empty) = st (spcL qs) := by
  by_cases c : qs = []
  · subst c
    rfl
  · rw [decide_eq_false c]
    show st (inter 32 (qs.map txL)) ++ Str.empty = _
    have e0 : Str.empty = st [] := rfl
    rw [e0, st_app, List.append_nil]
    unfold spcL
    rw [if_neg c]
private theorem ls_len {l : List Nat} {qs : List Rat} (h : LsIs l qs) : qs.length ≤ l.length + 1 := by
  by_cases c : qs = []
  · rw [c]; exact Nat.zero_le _
  · have e : l = inter 32 (qs.map txL) := by rw [h.1]; unfold spcL; rw [if_neg c]
    have := (inter_parts (c := 32) (ls := qs.map txL)).1
    rw [← e, List.length_map] at this
    exact this
noncomputable def gRt : List D → (D → Prop) → Prop := fun ds P => ∃ (way : Nat) (d : D) (l : List Nat), ds = [.int (way : Int), d, stD l] ∧ RdIs way l d ∧ (way = 1 → l.length ≤ 410) ∧ l.count 59 ≤ 90 ∧ P (.bl true)
noncomputable abbrev s_law_right : Stmt := top 53
private theorem sc_law_right : FnScope ["way", "told", "text", "own"] ["way", "told", "text"] (defScope s_law_right) := ⟨rfl, rfl, rfl, by decide +kernel, rfl, by decide +kernel, by decide +kernel⟩
private theorem h__law_right (B : Bl mg) (F : Def K mg "_law_right" s_law_right ["way", "told", "text"]) (F__law_good : Has P w K mg base CX0 2 "_law_good" ["q"] (spW K (pur gGoodQ))) (F__law_shown : Has P w K mg base CX0 1 "_law_shown" ["q"] (spW K (pur gShow))) (F_show : Has P w K mg base CX0 2 "show" ["q"] (spW K (pur gShow))) (F__law_row : Has P w K mg base CX0 2 "_law_row" ["words", "fractions"] (spW K (pur gRow))) (F_show_list : Has P w K mg base CX0 4 "show_list" ["fractions"] (spW K (pur gShowL))) (F_is_plan : Has P w K mg base CX0 5 "is_plan" ["thing"] (spW K (pur gIsPlan))) (F__law_written : Has P w K mg base CX0 3 "_law_written" ["plan"] (spW K (pur gWrit))) (F_show_plan : Has P w K mg base CX0 5 "show_plan" ["plan"] (spW K (pur gPlanT))) : Has P w K mg base CX0 6 "_law_right" ["way", "told", "text"] (spW K (pur gRt)) := by
  refine F.hasP sc_law_right (fun ds P h => by obtain ⟨_, _, _, rfl, _⟩ := h; rfl) fun f cdv A outer s H E hr => ?_
  have nd := sc_law_right.nd
  refine ⟨_, (jss_cons (js_if (jt_eq hr (jv 0) j_int) (jss_one (js_ret (j_and (j_h F__law_good (hr.mono (by decide)) rfl (ja_cons (jv 1) ja_nil)) (j_and (j_eq hr (j_h F__law_shown (hr.mono (by decide)) rfl (ja_cons (jv 1) ja_nil)) (jv 2)) (j_one (j_eq hr (j_h F_show (hr.mono (by decide)) rfl (ja_cons (jv 1) ja_nil)) (jv 2))))))) jss_nil)
    (jss_cons (js_if (jt_eq hr (jv 0) j_int) (jss_cons (js_set (i := 3) nd rfl (Or.inl rfl) (j_catS (j_h F__law_row (hr.mono (by decide)) rfl (ja_cons (j_fz (jn_lst ja_nil)) (ja_cons (jv 1) ja_nil))) (j_repS j_str (j_intc rfl B.int (ja_cons (j_eq hr (jv 1) (j_fz (jn_lst ja_nil))) ja_nil)))))
    (jss_one (js_ret (j_and (j_eq hr (j_fz (jn_lc ["q"] [none] ⟨rfl, by decide +kernel, by decide +kernel, rfl, rfl, by intro i x j _ h; exact absurd h (by rcases i with _ | _ | _ | i <;> simp)⟩ rfl (ji_list (jv 1)) (fun _ _ _ _ _ => (jg_name (i := 0) (show List.Nodup [("q" : Str)] by decide +kernel) rfl (Or.inl rfl))) (fun _ _ _ _ _ => (jc_one (jt_not (jt (j_h F__law_good (hr.mono (by decide)) rfl (ja_cons (jv 0) ja_nil)))))) (fun _ _ _ _ _ => (jv 0)))) (j_fz (jn_lst ja_nil))) (j_and (j_eq hr (jv 3) (jv 2)) (j_one (j_eq hr (j_h F_show_list (hr.mono (by decide)) rfl (ja_cons (jv 1) ja_nil)) (jv 2)))))))) jss_nil)
    (jss_one (js_ret (j_and (j_h F_is_plan (hr.mono (by decide)) rfl (ja_cons (jv 1) ja_nil)) (j_and (j_eq hr (j_h F__law_written (hr.mono (by decide)) rfl (ja_cons (jv 1) ja_nil)) (jv 2)) (j_one (j_eq hr (j_h F_show_plan (hr.mono (by decide)) rfl (ja_cons (jv 1) ja_nil)) (jv 2))))))))), ?_⟩
  rintro ds M Q ⟨way, d, l, rfl, rd, l1, ct, k⟩
  have eqT : ∀ x : List Nat, peq (stD x) (stD x) = true := fun x => peq_refl _
  refine ⟨by show 0 ≤ 60; decide, ?_⟩
  show if ((way : Int) == 0) = true then _ else _
  refine iteB (fun c => ?_) (fun c => ⟨by show 0 ≤ 60; decide, ?_⟩)
  · obtain rfl : way = 0 := by
      have : (way : Int) = 0 := by simpa using c
      omega
    obtain ⟨q, ⟨e, fq⟩, rfl⟩ := rd
    subst e
    have sq := fq.sm
    refine ⟨q, rfl, sq, q, rfl, sq, by show 0 ≤ 60; decide, ?_⟩
    show if peq (stD (txL q)) (stD (txL q)) = true then _ else _
    rw [eqT]
    refine ⟨q, rfl, sq, by show 0 ≤ 60; decide, _, Sub.refl _, ?_⟩
    rw [show peq (.str (st (txL q))) (stD (txL q)) = true from eqT _]
    exact k
  have c : way ≠ 0 := fun z => by subst z; cases c
  show if ((way : Int) == 1) = true then _ else _
  refine iteB (fun c1 => ?_) (fun c1 => ?_)
  · obtain rfl : way = 1 := by
      have : (way : Int) = 1 := by simpa using c1
      omega
    obtain ⟨qs, hq, rfl⟩ := rd
    have lq := ls_len hq
    have ll := l1 rfl
    have sq : ∀ q ∈ qs, SmR 1000 q := fun q h => (hq.2 q h).sm
    have sh : Sh1 ([] ++ qs.map txL) := ⟨by rw [List.nil_append, List.length_map]; omega, fun x hx => by
      rw [List.nil_append] at hx
      obtain ⟨q, h, rfl⟩ := List.mem_map.mp hx
      have := fig_len (hq.2 q h)
      omega⟩
    have tx := text_is qs
    have pn := peq_nil qs
    have tl : (st (inter 32 ([] ++ qs.map txL))).length + (if (if decide (qs = []) = true then (1 : Int) else 0) = 1 then st [110, 111, 110, 101] else Str.empty).length ≤ sizeLine := by
      by_cases c : qs = []
      · subst c
        show 0 + 4 ≤ sizeLine
        decide
      · rw [decide_eq_false c]
        show (st (inter 32 (qs.map txL))).length + 0 ≤ sizeLine
        rw [show inter 32 (qs.map txL) = l by rw [hq.1]; unfold spcL; rw [if_neg c], st_len]
        exact sz5 (by omega)
    refine ⟨by show 0 ≤ sizeLine; decide, [], qs, .inl rfl, by show 0 ≤ 500; decide, by omega, sq, sh, by show 0 ≤ sizeLine; decide, dep_frs qs, ?_⟩
    rw [enone]
    show ((if peq (.lst (qs.map frD)) (.lst []) = true then (1 : Int) else 0) = 0 ∨ (if peq (.lst (qs.map frD)) (.lst []) = true then (1 : Int) else 0) = 1) ∧ _ ∧ _
    rw [pn]
    refine ⟨by split <;> simp, tl, ?_⟩
    rw [tx, ← hq.1]
    refine ⟨fun j out ρ M2 => M2 = M ∧ ∃ o : Ent, ρ = [o] ∧ out = [], ⟨rfl, _, rfl, rfl⟩, ?_, ?_⟩
    · rintro j d out ρ M2 hd ⟨rfl, o, rfl, rfl⟩
      obtain ⟨q, hq', rfl⟩ := map_get hd
      exact ⟨q, rfl, sq q (List.mem_of_getElem? hq'), rfl, _, rfl, rfl⟩
    rintro out ρ M2 ⟨rfl, o, rfl, rfl⟩
    refine ⟨by show 0 ≤ sizeLine; decide, by show 1 ≤ 60; decide, by show 0 ≤ 60; decide, ?_⟩
    show if peq (stD l) (stD l) = true then _ else _
    rw [eqT]
    refine ⟨qs, rfl, by omega, sq, by show 0 ≤ 60; decide, _, Sub.refl _, ?_⟩
    rw [← hq.1]
    show Q (.bl (peq (stD l) (stD l))) _
    rw [eqT]
    exact k
  · have c1 : way ≠ 1 := fun z => by subst z; cases c1
    obtain ⟨n, rfl⟩ : ∃ n, way = n + 2 := ⟨way - 2, by omega⟩
    obtain ⟨p, hp, rfl⟩ := rd
    have ok := pl_ok hp ct
    obtain ⟨e, g1, g2, g3, g4⟩ := id hp
    obtain ⟨o1, o2, o3, _⟩ := id ok
    refine ⟨_, _, _, rfl, ⟨g1, by omega, by omega, by omega, g2, g3, fun z hz => (g4 z hz).1, fun z hz => (g4 z hz).2.1⟩, _, _, _, rfl, ok, by show 0 ≤ 60; decide, ?_⟩
    rw [← e]
    show if peq (stD l) (stD l) = true then _ else _
    rw [eqT]
    refine ⟨_, _, _, rfl, ok, by show 0 ≤ 60; decide, _, Sub.refl _, ?_⟩
    rw [← e, eqT]
    exact k

/-! ### k77: texts that write something -/
private theorem tx_plain (q : Rat) : ∀ c ∈ txL q, c < 128 := fun c h => by
  have sg : ∀ n : Int, c ∈ sgL n → c < 128 := fun n m => by
    unfold sgL at m
    rcases List.mem_append.mp m with m | m
    · split at m
      · rw [List.mem_singleton] at m; omega
      · cases m
    · have := (dg_mem m).2; omega
  by_cases d : q.den = 1
  · rw [tx_num d] at h; exact sg _ h
  · rw [tx_frac d] at h
    rcases List.mem_append.mp h with h | h
    · exact sg _ h
    · rcases List.mem_cons.mp h with h | h
      · omega
      · have := (dg_mem h).2; omega
private theorem inter_mem {c x : Nat} : ∀ {ls : List (List Nat)}, x ∈ inter c ls → x = c ∨ ∃ l ∈ ls, x ∈ l
  | [], h => nomatch h
  | l :: ls, h => by
    rcases List.mem_append.mp h with h | h
    · exact .inr ⟨l, .head _, h⟩
    · obtain ⟨y, hy, hx⟩ := List.mem_flatten.mp h
      obtain ⟨m, hm, rfl⟩ := List.mem_map.mp hy
      rcases List.mem_cons.mp hx with e | hx
      · exact .inl e
      · exact .inr ⟨m, .tail _ hm, hx⟩
private theorem interS_mem {s : List Nat} {x : Nat} : ∀ {ls : List (List Nat)}, x ∈ interS s ls → x ∈ s ∨ ∃ l ∈ ls, x ∈ l
  | [], h => nomatch h
  | l :: ls, h => by
    rcases List.mem_append.mp h with h | h
    · exact .inr ⟨l, .head _, h⟩
    · obtain ⟨y, hy, hx⟩ := List.mem_flatten.mp h
      obtain ⟨m, hm, rfl⟩ := List.mem_map.mp hy
      rcases List.mem_append.mp hx with e | hx
      · exact .inl e
      · exact .inr ⟨m, .tail _ hm, hx⟩
private theorem count_free {l : List Nat} (h : 59 ∉ l) : l.count 59 = 0 := List.count_eq_zero.mpr h
private theorem good0 {q : Rat} (h : Fig q) : RdIs 0 (txL q) (frD q) ∧ TxC 400 0 (txL q) :=
  ⟨⟨q, ⟨rfl, h⟩, rfl⟩, tx_plain q, by have := fig_len h; omega, by rw [count_free (no59 q)]; decide, by decide⟩
private theorem good1 {qs : List Rat} (h : ∀ q ∈ qs, Fig q) (l : qs.length ≤ 4) : RdIs 1 (spcL qs) (.lst (qs.map frD)) ∧ TxC 400 0 (spcL qs) := by
  refine ⟨⟨qs, ⟨rfl, h⟩, rfl⟩, ?_⟩
  unfold spcL
  split
  · exact ⟨by decide, by decide, by decide, by decide⟩
  · refine ⟨fun c hc => ?_, ?_, ?_, by decide⟩
    · rcases inter_mem hc with rfl | ⟨x, hx, hc⟩
      · decide
      · obtain ⟨q, _, rfl⟩ := List.mem_map.mp hx
        exact tx_plain q c hc
    · have go : ∀ ws : List (List Nat), (∀ w ∈ ws, w.length ≤ 82) → (inter 32 ws).length ≤ 83 * ws.length := by
        intro ws
        induction ws with
        | nil => intro _; exact Nat.zero_le _
        | cons w ws ih =>
          intro f
          have h1 := ih fun x hx => f x (.tail _ hx)
          have h2 := f w (.head _)
          cases ws with
          | nil => rw [inter1]; show _ ≤ 83 * 1; omega
          | cons v vs =>
            rw [inter_cons, List.length_append, List.length_cons, List.length_cons]
            rw [List.length_cons] at h1 ⊢
            omega
      have := go (qs.map txL) fun w hw => by obtain ⟨q, hq, rfl⟩ := List.mem_map.mp hw; exact fig_len (h q hq)
      rw [List.length_map] at this
      omega
    · rw [count_free (inter_free (by decide) fun x hx => by obtain ⟨q, _, rfl⟩ := List.mem_map.mp hx; exact no59 q)]
      decide
private theorem count_interS_le : ∀ {ls : List (List Nat)}, (∀ l ∈ ls, 59 ∉ l) → (interS [59, 32] ls).count 59 ≤ ls.length
  | [], _ => Nat.zero_le _
  | [l], h => by
    have e : interS [59, 32] [l] = l := List.append_nil l
    rw [e, count_free (h l (.head _))]; exact Nat.zero_le _
  | l :: m :: ls, h => by
    have h1 := count_interS_le (ls := m :: ls) fun x hx => h x (.tail _ hx)
    rw [interS_cons, List.count_append, List.count_append, count_free (h l (.head _)), List.length_cons]
    have : List.count 59 [59, 32] = 1 := by decide
    omega
private theorem good2 {S T : List (Rat × Rat)} {Z : List ZR} (h : PlanOk S T Z) : RdIs 2 (planT S T Z) (planQ S T Z) ∧ TxC 2000000 0 (planT S T Z) := by
  obtain ⟨ok, hS, leS, leT, lz, a, b, c⟩ := h
  obtain ⟨lr, rk⟩ := rows_ok ok
  obtain ⟨_, _, _, s1, s2, s3⟩ := id ok
  have ll : (rowsP S T Z).length ≤ 60 := by unfold rowsP; simp only [List.length_append, List.length_map]; omega
  refine ⟨⟨(S, T, Z), ⟨rfl, hS, fun x hx => ⟨(s1 x hx).1.2, (s1 x hx).2.2, leS x hx⟩, fun x hx => ⟨(s2 x hx).1.2, (s2 x hx).2.2, leT x hx⟩, fun z hz => ⟨(lz z hz).1, (lz z hz).2, fun q hq => ((s3 z hz).2.2.1 q hq).2, fun q hq => ((s3 z hz).2.2.2.1 q hq).2, (s3 z hz).2.2.2.2.2⟩⟩, rfl⟩, fun x hx => ?_, ?_, ?_, Nat.le_refl _⟩
  · unfold planT at hx
    rcases interS_mem hx with hx | ⟨r, hr, hx⟩
    · simp only [List.mem_cons, List.not_mem_nil, or_false] at hx; omega
    · obtain ⟨ws, hw, rfl⟩ := List.mem_map.mp hr
      rcases inter_mem hx with hx | ⟨y, hy, hx⟩
      · omega
      · have sz : ∀ c ∈ wSize, c < 128 := by decide
        have sh : ∀ c ∈ wShim, c < 128 := by decide
        have sd : ∀ c ∈ wDem, c < 128 := by decide
        have rb : ∀ (w : List Nat) (p : Rat × Rat), (∀ c ∈ w, c < 128) → y ∈ rowB w p → x < 128 := fun w p hw h => by
          unfold rowB at h
          simp only [List.mem_cons, List.not_mem_nil, or_false] at h
          rcases h with rfl | rfl | rfl
          · exact hw x hx
          · exact tx_plain _ x hx
          · exact tx_plain _ x hx
        have ts : ∀ qs : List Rat, y ∈ qs.map txL → x < 128 := fun qs h => by obtain ⟨q, _, rfl⟩ := List.mem_map.mp h; exact tx_plain q x hx
        have co : y = [58] → x < 128 := fun e => by rw [e, List.mem_singleton] at hx; omega
        unfold rowsP at hw
        rcases List.mem_append.mp hw with hw | hw
        · obtain ⟨p, _, rfl⟩ := List.mem_map.mp hw; exact rb _ p sz hy
        rcases List.mem_append.mp hw with hw | hw
        · obtain ⟨p, _, rfl⟩ := List.mem_map.mp hw; exact rb _ p sh hy
        · obtain ⟨z, _, rfl⟩ := List.mem_map.mp hw
          unfold rowD at hy
          rcases List.mem_cons.mp hy with rfl | hy
          · exact sd x hx
          rcases List.mem_append.mp hy with hy | hy
          · exact ts _ hy
          rcases List.mem_cons.mp hy with e | hy
          · exact co e
          rcases List.mem_append.mp hy with hy | hy
          · exact ts _ hy
          simp only [List.mem_cons, List.not_mem_nil, or_false] at hy
          rcases hy with e | rfl
          · exact co e
          · exact tx_plain _ x hx
  · unfold planT
    have go : ∀ R : List (List (List Nat)), (∀ r ∈ R, RowOk r) → (interS [59, 32] (R.map (inter 32))).length ≤ 24902 * R.length := by
      intro R
      induction R with
      | nil => intro _; exact Nat.zero_le _
      | cons r R ih =>
        intro f
        have h1 := ih fun x hx => f x (.tail _ hx)
        have h2 := (f r (.head _)).len
        cases R with
        | nil =>
          have e : interS [59, 32] ([r].map (inter 32)) = inter 32 r := List.append_nil _
          rw [e]; show _ ≤ 24902 * 1; omega
        | cons v vs =>
          rw [List.map_cons, List.map_cons, interS_cons, List.length_append, List.length_append]
          rw [List.map_cons] at h1
          simp only [List.length_cons, List.length_nil] at h1 ⊢
          omega
    have := go _ rk
    omega
  · unfold planT
    have := count_interS_le (ls := (rowsP S T Z).map (inter 32)) fun l hl => by
      obtain ⟨r, hr, rfl⟩ := List.mem_map.mp hl
      exact inter_free (by decide) fun l hl => words_free (.inr rfl) r hr l hl
    rw [List.length_map] at this
    omega

/-! ### k77, the law -/
private theorem sub_none' {M M' : Mm} {p : Addr} (s : Sub M M') (h : M' p = none) : M p = none := by
  cases q : M p with
  | none => rfl
  | some o => rw [s _ _ q] at h; cases h
private theorem dep_bQ (x : Rat × Rat) : dep (bQ x) ≤ 2 := by simp [bQ, frD, dep, deps]
private theorem dep_zQ (z : ZR) : dep (zQ z) ≤ 3 := by
  have h1 := deps_map' dep_frD1 z.1
  have h2 := deps_map' dep_frD1 z.2.1
  have h3 := dep_frD1 z.2.2
  simp only [zQ, dep, deps]
  omega
private theorem dep_planQ (S T : List (Rat × Rat)) (Z : List ZR) : dep (planQ S T Z) ≤ 20 := by
  have h1 := deps_map' dep_bQ S
  have h2 := deps_map' dep_bQ T
  have h3 := deps_map' dep_zQ Z
  simp only [planQ, dep, deps]
  omega
private theorem rd_dep {w : Nat} {l : List Nat} {d : D} (h : RdIs w l d) : dep (.lst [d]) ≤ 60 := by
  have : dep d ≤ 20 := by
    match w, h with
    | 0, ⟨q, _, e⟩ => rw [e]; exact Nat.le_trans (dep_frD1 q) (by decide)
    | 1, ⟨qs, _, e⟩ => rw [e, dep]; exact Nat.le_trans (Nat.succ_le_succ (deps_map' dep_frD1 qs)) (by decide)
    | n + 2, ⟨p, _, e⟩ => rw [e]; exact dep_planQ _ _ _
  simp only [dep, deps]
  omega
private theorem rix2 {x y : D} {c : Bool} {P : D → Prop} (h : P (if c = true then y else x)) : RIx (.lst [x, y]) (.int (if c = true then 1 else 0)) P := by cases c <;> exact h
noncomputable def spLaw (K : PySem.W.Frag) : Sp := fun vs H Q _ => ∃ (a : Addr) (ns : List Int), vs = [.ref a] ∧ SqL K H a (ns.map V.int) ∧ ns.length ≤ 63 ∧ ∀ H', Q (.bl true) H'
noncomputable abbrev s_law : Stmt := top 54
private theorem sc_law : FnScope ["script", "k", "pool", "way", "fractions", "good", "text", "j", "told"] ["script"] (defScope s_law) := ⟨rfl, rfl, rfl, by decide +kernel, rfl, by decide +kernel, by decide +kernel⟩
private theorem fn_law {e : Addr} {ed : FuncData} (B : Bl2 mg) (F : Fun K "law" "law" s_law e ed) (F__law_pool : Has P w K mg base CX0 2 "_law_pool" ["script", "k"] (spMk K (Scr K) gkPool (isPool 100000000))) (F__law_take : hTake P w K mg base) (F__law_fraction : hFracS P w K mg base) (F__law_shown : Has P w K mg base CX0 1 "_law_shown" ["q"] (spW K (pur gShow))) (F__law_row : Has P w K mg base CX0 2 "_law_row" ["words", "fractions"] (spW K (pur gRow))) (F__law_plan : Has P w K mg base CX0 4 "_law_plan" ["pool", "most"] (spP K isPool 500 gPlan75)) (F__law_great_plan : Has P w K mg base CX0 4 "_law_great_plan" ["pool"] (spP K isPool 2000 gGreat75)) (F__law_written : Has P w K mg base CX0 3 "_law_written" ["plan"] (spW K (pur gWrit))) (F__law_changed : Has P w K mg base CX0 2 "_law_changed" ["pool", "text"] (spP K isPool 4 gChg)) (F__law_read : Has P w K mg base CX0 7 "_law_read" ["way", "text"] (spW K (pur gRdL))) (F__law_right : Has P w K mg base CX0 6 "_law_right" ["way", "told", "text"] (spW K (pur gRt))) : FnOk P w K mg base CX0 8 e ed ["script"] (spLaw K) := by
  refine F.ok sc_law (fun vs H Q E h => by obtain ⟨a, ns, rfl, _⟩ := h; rfl) (fun cdv A outer s H vs Q E hr h => ?_)
  obtain ⟨a, ns, rfl, hS, h63, q⟩ := h
  have nd := sc_law.nd
  refine ⟨_, JSs.h (jss_cons (js_for PassesOwn.never rfl (ji_rng1 rfl B.range (ja_cons (j_min2 rfl B.min rfl (ja_cons j_int (ja_cons (j_lenS 0 rfl B.len) ja_nil))) ja_nil)) (jg_name (i := 1) nd rfl (Or.inl rfl))
    (jss_cons (js_mk (i := 2) 0 F__law_pool (hr.mono (by decide)) rfl nd rfl (Or.inr rfl) (ja_cons (jv 1) ja_nil))
    (jss_cons (js_set (i := 3) nd rfl (Or.inl rfl) (j_hP 2 F__law_take (hr.mono (by decide)) rfl (ja_cons j_int ja_nil)))
    (jss_cons (js_setCZ (k := 4) nd rfl (Or.inl rfl) ["j", "pool"] [none, some 2] ⟨rfl, by decide +kernel, by decide +kernel, rfl, rfl, free_of rfl⟩ rfl (ji_rng1 rfl B.range (ja_cons (j_hP 2 F__law_take (hr.mono (by decide)) rfl (ja_cons j_int ja_nil)) ja_nil)) (fun _ _ _ _ _ => (jg_name (i := 0) (show List.Nodup [("j" : Str), ("pool" : Str)] by decide +kernel) rfl (Or.inl rfl))) (fun _ _ _ _ _ => jc_nil) (fun _ _ _ _ _ => (j_hP 1 F__law_fraction (hr.mono (by decide)) rfl ja_nil)))
    (jss_cons (js_set (i := 5) nd rfl (Or.inl rfl) (j_at (j_fz (jn_lst (ja_cons (j_h F__law_shown (hr.mono (by decide)) rfl (ja_cons (j_hP 2 F__law_fraction (hr.mono (by decide)) rfl ja_nil) ja_nil)) (ja_cons (j_catS (j_h F__law_row (hr.mono (by decide)) rfl (ja_cons (j_fz (jn_lst ja_nil)) (ja_cons (jv 4) ja_nil))) (j_repS j_str (j_intc rfl B.int (ja_cons (j_eq hr (jv 4) (j_fz (jn_lst ja_nil))) ja_nil)))) ja_nil)))) (j_intc rfl B.int (ja_cons (j_eq hr (jv 3) j_int) ja_nil))))
    (jss_cons (js_cut (js_if (jt_eq hr (jv 3) j_int) (jss_one (js_set (i := 5) nd rfl (Or.inl rfl) (j_h F__law_written (hr.mono (by decide)) rfl (ja_cons (j_at (j_fz (jn_lst (ja_cons (j_hP 2 F__law_plan (hr.mono (by decide)) rfl (ja_cons j_int ja_nil)) (ja_cons (j_hP 2 F__law_great_plan (hr.mono (by decide)) rfl ja_nil) ja_nil)))) (j_intc rfl B.int (ja_cons (j_eq hr (j_hP 2 F__law_take (hr.mono (by decide)) rfl (ja_cons j_int ja_nil)) j_int) ja_nil))) ja_nil)))) jss_nil))
    (jss_cons (js_set (i := 6) nd rfl (Or.inl rfl) (jv 5))
    (jss_cons (js_for PassesOwn.never rfl (ji_rng1 rfl B.range (ja_cons (j_hP 2 F__law_take (hr.mono (by decide)) rfl (ja_cons j_int ja_nil)) ja_nil)) (jg_name (i := 7) nd rfl (Or.inl rfl))
    (jss_one (js_set (i := 6) nd rfl (Or.inl rfl) (j_hP 2 F__law_changed (hr.mono (by decide)) rfl (ja_cons (jv 6) ja_nil)))))
    (jss_cons (js_set (i := 8) nd rfl (Or.inl rfl) (j_h F__law_read (hr.mono (by decide)) rfl (ja_cons (jv 3) (ja_cons (jv 6) ja_nil))))
    (jss_cons (js_if (JW.jt (jw_and (jt_ne hr (jv 8) (j_fz (jn_lst ja_nil))) (jw_and1 (jt_not (jt (j_h F__law_right (hr.mono (by decide)) rfl (ja_cons (jv 3) (ja_cons (j_atV 8 j_int) (ja_cons (jv 6) ja_nil))))))))) (jss_one (js_ret j_bl)) jss_nil)
    (jss_one (js_if (JW.jt (jw_and (jt_eq hr (jv 8) (j_fz (jn_lst ja_nil))) (jw_and1 (JW.jt (jw_or (jt_ne hr (j_h F__law_read (hr.mono (by decide)) rfl (ja_cons (jv 3) (ja_cons (jv 6) ja_nil))) (j_fz (jn_lst ja_nil))) (jw_or1 (jt_eq hr (jv 6) (jv 5)))))))) (jss_one (js_ret j_bl)) jss_nil))))))))))))
    (jss_one (js_ret j_bl))), ?_⟩
  obtain ⟨M0, ag, hM⟩ := Scr.start (K := K) (N := ["script", "k", "pool", "way", "fractions", "good", "text", "j", "told"]) h63 hS
  refine ⟨fun _ => none, fun _ => none, startD ["script", "k", "pool", "way", "fractions", "good", "text", "j", "told"] a [], M0, ⟨fun _ _ => False, rtD fun x _ => x = .bl true, fun _ _ => False, fun _ _ => False⟩, ag, ?_, ⟨fun _ _ _ _ _ _ _ z => z.elim, fun _ _ _ _ _ _ _ z => z.elim, fun _ _ _ _ _ _ _ z => z.elim, fun v H' F' u M' _ _ r e => by
    obtain ⟨d, r, e⟩ := rtD_of (M := M') (q := fun x _ => x = .bl true) e r
    subst e; rw [Rp] at r; subst r; exact q H'⟩⟩
  clear ag
  have l63 := hM.1
  refine ⟨ns, hM, ⟨?_, ?_⟩, fun i ρ M' => Sub M0 M' ∧ ∃ o1 o2 o3 o4 o5 o6 o7 o8, ρ = [.rf a, o1, o2, o3, o4, o5, o6, o7, o8], ⟨Sub.refl _, _, _, _, _, _, _, _, _, rfl⟩, ?_, ?_⟩
  · try dsimp only
    try split <;> omega
    try omega
  · try dsimp only
    try split <;> omega
    try omega
  · rintro i d ρ M' hd ⟨sM, o1, o2, o3, o4, o5, o6, o7, o8, rfl⟩
    obtain ⟨rfl, hi⟩ := rng_get hd
    have hi20 : i < 64 := by
      refine Nat.lt_of_lt_of_le hi ?_
      dsimp only
      split <;> omega
    refine ⟨⟨ns, hM.mono sM⟩, ⟨_, rfl, by omega, by omega⟩, fun p hp => ?_⟩
    have hp0 := sub_none' sM hp
    have z0 : 0 ≤ sizeLine := by decide
    refine ⟨100000000, mset_same, by decide, 3, rfl, by decide, smM, fun w w0 w1 => ?_⟩
    obtain ⟨way, rfl⟩ : ∃ n : Nat, w = (n : Int) := ⟨w.toNat, by omega⟩
    have hw : way < 3 := by omega
    refine ⟨100000000 - 1, mset_same, by decide, 5, rfl, by decide, smM, fun m m0 m1 => ⟨⟨by omega, by omega⟩, fun j out ρ M2 => ∃ (b' : Int) (qs : List Rat) (o : Ent), 100000000 - 2 - 2 * (j : Int) ≤ b' ∧ M2 = mset M' p (.op (isPool b')) ∧ ρ = [o, .rf p] ∧ out = qs.map frD ∧ qs.length = j ∧ ∀ q ∈ qs, SmR 5 q, ⟨100000000 - 1 - 1, [], _, by decide, by rw [mset_mset, mset_mset], rfl, rfl, rfl, by simp⟩, ?_, ?_⟩⟩
    · rintro j d out ρ M2 hd ⟨b', qs, o, hb', rfl, rfl, rfl, lq, oq⟩
      obtain ⟨rfl, hj⟩ := rng_get0 hd
      have hj : j < 5 := by omega
      exact ⟨b', mset_same, by omega, rfl, fun x hx => ⟨by rw [List.length_map, lq]; exact small1000 (by omega), b' - 2, qs ++ [x], _, by omega, by rw [mset_mset], rfl, by rw [List.map_append]; rfl, by rw [List.length_append, lq]; rfl, all_snoc oq hx⟩⟩
    rintro out ρ M2 ⟨b1, qs, o, hb1, rfl, rfl, rfl, lq, oq⟩
    rw [rng_len] at lq hb1
    have fq : ∀ q ∈ qs, Fig q := fun q h => (sm_lt40 (oq q h) (by decide)).fig
    refine ⟨b1, mset_same, by omega, rfl, fun q0 hq0 => ?_⟩
    have f0 : Fig q0 := (sm_lt40 hq0 (by decide)).fig
    have sq : ∀ q ∈ qs, SmR 1000 q := fun q h => (fq q h).sm
    have lq4 : qs.length ≤ 4 := by omega
    have sh : Sh1 ([] ++ qs.map txL) := ⟨by rw [List.nil_append, List.length_map]; omega, fun x hx => by
      rw [List.nil_append] at hx
      obtain ⟨q, h, rfl⟩ := List.mem_map.mp hx
      have := fig_len (fq q h)
      omega⟩
    have tx := text_is qs
    have pn := peq_nil qs
    have g1 := good1 fq lq4
    have tl : (st (inter 32 ([] ++ qs.map txL))).length + (if (if decide (qs = []) = true then (1 : Int) else 0) = 1 then st [110, 111, 110, 101] else Str.empty).length ≤ sizeLine := by
      by_cases c : qs = []
      · subst c
        show 0 + 4 ≤ sizeLine
        decide
      · rw [decide_eq_false c]
        show (st (inter 32 (qs.map txL))).length + 0 ≤ sizeLine
        rw [show inter 32 (qs.map txL) = spcL qs by unfold spcL; rw [if_neg c], st_len]
        exact sz5 (by have := g1.2.2.1; omega)
    refine ⟨q0, rfl, f0.sm, by show 0 ≤ sizeLine; decide, [], qs, .inl rfl, by show 0 ≤ 500; decide, by omega, sq, sh, by show 0 ≤ sizeLine; decide, dep_frs qs, ?_⟩
    rw [enone]
    show ((if peq (.lst (qs.map frD)) (.lst []) = true then (1 : Int) else 0) = 0 ∨ (if peq (.lst (qs.map frD)) (.lst []) = true then (1 : Int) else 0) = 1) ∧ _ ∧ _
    rw [pn]
    refine ⟨by split <;> simp, tl, by show 2 ≤ sizeLine; decide, by show 0 ≤ 60; decide, ?_⟩
    rw [tx]
    refine rix2 (c := ((way : Int) == 1)) ?_
    obtain ⟨g, eg, hg, tg⟩ : ∃ g, (if ((way : Int) == 1) = true then stD (spcL qs) else stD (txL q0)) = stD g ∧ (way ≠ 2 → ∃ d, RdIs way g d) ∧ TxC 400 0 g := by
      cases c : ((way : Int) == 1) with
      | true =>
        obtain rfl : way = 1 := by have : (way : Int) = 1 := by simpa using c
                                   omega
        exact ⟨_, rfl, fun _ => ⟨_, g1.1⟩, g1.2⟩
      | false =>
        have c : ¬ (way : Int) = 1 := by simpa using c
        refine ⟨_, rfl, fun h => ?_, (good0 f0).2⟩
        obtain rfl : way = 0 := by omega
        exact ⟨_, (good0 f0).1⟩
    have eg : (if ((way : Int) == 1) = true then D.str (st (spcL qs)) else D.str (st (txL q0))) = stD g := eg
    have egm : (if ((way : Int) == 1) = true then D.str (st (spcL qs)) else D.str (st (txL q0))) = stD g := eg
    refine ⟨fun ρ M2 => ∃ (b' : Int) (g' : List Nat) (Bd : Nat) (o6 o7 o8 : Ent), 50000 ≤ b' ∧ M2 = mset M' p (.op (isPool b')) ∧ ρ = [.rf a, .sh (.int (0 + (i : Int))), .rf p, .sh (.int (way : Int)), .sh (.lst (qs.map frD)), .sh (stD g'), o6, o7, o8] ∧ (∃ d, RdIs way g' d) ∧ TxC Bd 0 g' ∧ (way = 1 → Bd ≤ 400), ?_, ?_⟩
    · refine ⟨by show 0 ≤ 60; decide, ?_⟩
      show if ((way : Int) == 2) = true then _ else _
      refine iteB (fun c => ?_) (fun c => ?_)
      · obtain rfl : way = 2 := by
          have : (way : Int) = 2 := by simpa using c
          omega
        refine ⟨b1 - 2, mset_same, by omega, rfl, fun S T Z po => ⟨b1 - 2 - 500, mset_same, by omega, rfl, fun S2 T2 Z2 po2 => ⟨by show 2 ≤ sizeLine; decide, b1 - 2 - 500 - 2000, mset_same, by omega, 4, rfl, by decide, smM, fun r r0 r1 => ⟨by show 0 ≤ 60; decide, ?_⟩⟩⟩⟩
        refine rix2 (c := (r == 0)) ?_
        obtain ⟨S3, T3, Z3, e3, po3⟩ : ∃ S3 T3 Z3, (if (r == 0) = true then planQ S2 T2 Z2 else planQ S T Z) = planQ S3 T3 Z3 ∧ PlanOk S3 T3 Z3 := by
          cases (r == 0) with
          | true => exact ⟨S2, T2, Z2, rfl, po2⟩
          | false => exact ⟨S, T, Z, rfl, po⟩
        rw [e3]
        exact ⟨S3, T3, Z3, rfl, po3.1, b1 - 2 - 500 - 2000 - 1, planT S3 T3 Z3, 2000000, _, _, _, by omega, by simp only [mset_mset], rfl, ⟨_, (good2 po3).1⟩, (good2 po3).2, fun z => by omega⟩
      · have c : way ≠ 2 := fun z => by subst z; cases c
        exact ⟨b1 - 2, g, 400, _, _, _, by omega, by simp only [mset_mset], by rw [← eg]; rfl, hg c, tg, fun _ => Nat.le_refl _⟩
    rintro ρ M2 ⟨b', g', Bd, o6, o7, o8, hb', rfl, rfl, ⟨dg, rg⟩, tg', hB⟩
    refine ⟨b', mset_same, by omega, 3, rfl, by decide, smM, fun m m0 m1 => ⟨⟨by omega, by omega⟩, fun j ρ M2 => ∃ (b2 : Int) (l : List Nat) (o7 o8 : Ent), 40000 - 4 * (j : Int) ≤ b2 ∧ M2 = mset M' p (.op (isPool b2)) ∧ ρ = [.rf a, .sh (.int (0 + (i : Int))), .rf p, .sh (.int (way : Int)), .sh (.lst (qs.map frD)), .sh (stD g'), .sh (stD l), o7, o8] ∧ TxC Bd j l, ⟨b' - 1, g', _, _, by omega, by rw [mset_mset], rfl, tg'⟩, ?_, ?_⟩⟩
    · rintro j d ρ M2 hd ⟨b2, l, o7, o8, hb2, rfl, rfl, tl'⟩
      obtain ⟨rfl, hj⟩ := rng_get0 hd
      have hj : j < 3 := by omega
      exact ⟨b2, mset_same, by omega, l, Bd, j, rfl, tl', by omega, fun l2 tl2 => ⟨b2 - 4, l2, _, _, by omega, by rw [mset_mset], rfl, tl2⟩⟩
    rintro ρ M2 ⟨b2, l, o7, o8, hb2, rfl, rfl, tl'⟩
    have hj : (rngD 0 m.toNat).length ≤ 3 := by rw [rng_len]; omega
    have tb := tl'.b (by omega)
    refine ⟨way, l, rfl, tb, fun d rd => ?_, fun no => ?_⟩
    · have n1 : peq (.lst [d]) (.lst []) = false := rfl
      refine ⟨z0, rd_dep rd, ?_⟩
      show if (!peq (.lst [d]) (.lst [])) = true then _ else _
      rw [n1]
      refine ⟨way, d, l, rfl, rd, fun e => ?_, ?_, ?_⟩
      · have := hB e
        have := tl'.2.1
        omega
      · have := tl'.2.2.1
        omega
      refine ⟨z0, rd_dep rd, ?_⟩
      exact ⟨sM.mset hp0, _, _, _, _, _, _, _, _, rfl⟩
    · have no1 : g' ≠ l := fun e => no dg (by rw [← e]; exact rg)
      refine ⟨z0, by show 1 ≤ 60; decide, ?_⟩
      refine ⟨z0, by show 1 ≤ 60; decide, ?_⟩
      refine ⟨way, l, rfl, tb, fun d rd => absurd rd (no d), fun _ => ?_⟩
      refine ⟨z0, by show 1 ≤ 60; decide, by show 0 ≤ 60; decide, ?_⟩
      show if peq (.str (st l)) (.str (st g')) = true then _ else _
      rw [peq_st, decide_eq_false (Ne.symm no1)]
      exact ⟨sM.mset hp0, _, _, _, _, _, _, _, _, rfl⟩
  · rintro ρ M' ⟨sM, o1, o2, o3, o4, o5, o6, o7, o8, rfl⟩
    exact rfl




end
structure At (K : PySem.W.Frag) (x : Str) (st : Stmt) : Prop where
  ex : ∃ (f : Addr) (od an : Option Addr) (sl : Array (Option Value)) (oc kV dc pm cd ct : Value), PySem.W.nsIn K mainGlobals x = some (some (.ref f)) ∧ K.lookup f = some ⟨oc, od, .func (PySem.W.fnOf x x (defArgs st) (defBody st) (defScope st) .none kV dc pm an cd ct), sl⟩ ∧ PySem.W.codeIn K cd x = true ∧ PySem.W.keepIn K (.ref f) = true
private theorem At.of {K : PySem.W.Frag} {x : Str} {st : Stmt} {f : Addr} {od an : Option Addr} {sl : Array (Option Value)} {oc kV dc pm cd ct : Value} (a : PySem.W.nsIn K mainGlobals x = some (some (.ref f))) (l : K.lookup f = some ⟨oc, od, .func (PySem.W.fnOf x x (defArgs st) (defBody st) (defScope st) .none kV dc pm an cd ct), sl⟩) (c : PySem.W.codeIn K cd x = true) (k : PySem.W.keepIn K (.ref f) = true) : At K x st := ⟨f, od, an, sl, oc, kV, dc, pm, cd, ct, a, l, c, k⟩
private theorem At.dfn {K : PySem.W.Frag} {h : Heap} {mg : Str → Option Value} {x : Str} {st : Stmt} {ps : List Str} (X : K.In h) (G : h.Ns mainGlobals mg) (A : At K x st) (hb : ∀ (kV doc pm : Value) (an : Option Addr) (cdv ct : Value) (us : List Value), us.length = ps.length → PySem.bindArgs (PySem.W.fnOf x x (defArgs st) (defBody st) (defScope st) .none kV doc pm an cdv ct) { pos := us } = pure (ps.zip us)) : Def K mg x st ps := by
  obtain ⟨f, od, an, sl, oc, kV, dc, pm, cd, ct, a, l, c, k⟩ := A.ex
  exact ⟨_, _, fun_mk l c k, (fun_mk l c k).binds hb, PySem.W.mg_of X G a⟩
private theorem all_mk {l : PySem.W.OpenLaw} {w : World} {K : PySem.W.Frag} {h : Heap} {mg : Str → Option Value} {fa : Addr} (X : K.In h) (G : h.Ns mainGlobals mg) (hfa : mg "law" = some (.ref fa))
    (A0 : At K "is_whole" s_is_whole) (A1 : At K "is_tuple_of" s_is_tuple_of) (A2 : At K "is_fraction" s_is_fraction) (A3 : At K "common_divisor" s_common_divisor) (A4 : At K "below" s_below) (A5 : At K "figures" s_figures) (A6 : At K "show" s_show) (A7 : At K "is_bounds" s_is_bounds) (A8 : At K "is_bounds_list" s_is_bounds_list) (A9 : At K "is_fraction_list" s_is_fraction_list) (A10 : At K "is_demand" s_is_demand) (A11 : At K "is_plan" s_is_plan) (A12 : At K "show_words" s_show_words) (A13 : At K "show_list" s_show_list) (A14 : At K "show_bounds" s_show_bounds) (A15 : At K "show_demand" s_show_demand) (A16 : At K "show_plan" s_show_plan) (A17 : At K "is_number" s_is_number) (A18 : At K "require_text" s_require_text) (A19 : At K "read_top" s_read_top) (A20 : At K "read_bottom" s_read_bottom) (A21 : At K "read_fraction" s_read_fraction) (A22 : At K "read_words" s_read_words) (A23 : At K "read_list" s_read_list) (A24 : At K "read_bounds" s_read_bounds) (A25 : At K "read_demand" s_read_demand) (A26 : At K "rows_called" s_rows_called) (A27 : At K "read_plan" s_read_plan) (A28 : At K "_law_nth" s_law_nth) (A29 : At K "_law_pool" s_law_pool) (A30 : At K "_law_take" s_law_take) (A31 : At K "_law_least" s_law_least) (A32 : At K "_law_sum" s_law_sum) (A33 : At K "_law_fraction" s_law_fraction) (A34 : At K "_law_bounds" s_law_bounds) (A35 : At K "_law_plan" s_law_plan) (A36 : At K "_law_far_number" s_law_far_number) (A37 : At K "_law_far_bounds" s_law_far_bounds) (A38 : At K "_law_great_plan" s_law_great_plan) (A39 : At K "_law_shown" s_law_shown) (A40 : At K "_law_row" s_law_row) (A41 : At K "_law_written" s_law_written) (A42 : At K "_law_read" s_law_read) (A43 : At K "_law_changed" s_law_changed) (A44 : At K "_law_good" s_law_good) (A45 : At K "_law_right" s_law_right)
    {f46 : Addr} {od46 an46 : Option Addr} {sl46 : Array (Option Value)} {oc46 kV46 dc46 pm46 cd46 ct46 : Value} (a46 : PySem.W.nsIn K mainGlobals "law" = some (some (.ref f46))) (l46 : K.lookup f46 = some ⟨oc46, od46, .func (PySem.W.fnOf "law" "law" (defArgs s_law) (defBody s_law) (defScope s_law) .none kV46 dc46 pm46 an46 cd46 ct46), sl46⟩) (c46 : PySem.W.codeIn K cd46 "law" = true) (k46 : PySem.W.keepIn K (.ref f46) = true)
    (z_len : PySem.W.nsIn K mainGlobals "len" = some none)
    (z_abs : PySem.W.nsIn K mainGlobals "abs" = some none)
    (z_isinstance : PySem.W.nsIn K mainGlobals "isinstance" = some none)
    (z_tuple : PySem.W.nsIn K mainGlobals "tuple" = some none)
    (z_list : PySem.W.nsIn K mainGlobals "list" = some none)
    (z_int : PySem.W.nsIn K mainGlobals "int" = some none)
    (z_bool : PySem.W.nsIn K mainGlobals "bool" = some none)
    (z_str : PySem.W.nsIn K mainGlobals "str" = some none)
    (z_range : PySem.W.nsIn K mainGlobals "range" = some none)
    (z_zip : PySem.W.nsIn K mainGlobals "zip" = some none)
    (z_all : PySem.W.nsIn K mainGlobals "all" = some none)
    (z_any : PySem.W.nsIn K mainGlobals "any" = some none)
    (z_ValueError : PySem.W.nsIn K mainGlobals "ValueError" = some none)
    (z_enumerate : PySem.W.nsIn K mainGlobals "enumerate" = some none)
    (z_sum : PySem.W.nsIn K mainGlobals "sum" = some none)
    (z_min : PySem.W.nsIn K mainGlobals "min" = some none)
    (z_max : PySem.W.nsIn K mainGlobals "max" = some none)
    (z_sorted : PySem.W.nsIn K mainGlobals "sorted" = some none)
    (z_reversed : PySem.W.nsIn K mainGlobals "reversed" = some none)
    (z_dict : PySem.W.nsIn K mainGlobals "dict" = some none)
    {t_MOST_FIGURES : Tok} (b_MOST_FIGURES : PySem.W.nsIn K mainGlobals "MOST_FIGURES" = some (some (.int 40 t_MOST_FIGURES)))
    {C_NoText : Addr} (e_NoText : PySem.W.nsIn K mainGlobals "NoText" = some (some (.ref C_NoText))) (q_NoText : PySem.W.excIn K C_NoText mroVE "ValueError.__new__" = true) (x_NoText : XCls K C_NoText)
    (s_NoText_NoText : PySem.W.subIn K (.ref C_NoText) (.ref C_NoText) = some true)
    (s_NoText_ValueError : PySem.W.subIn K (.ref C_NoText) (.type "ValueError") = some true)
    : ∃ fd : FuncData, (∀ (s : Shared) (v : Value), BindsTo s fd ⟨[v], []⟩ [("script", v)]) ∧ ∀ base : Heap, K.In base → base.Ns mainGlobals mg → FnOk l.prog w K mg base CX0 8 fa fd ["script"] (spLaw K) := by
  have e := hfa.symm.trans (PySem.W.mg_of X G a46)
  cases e
  have B : Bl mg := ⟨PySem.W.mg_none_of X G z_len, PySem.W.mg_none_of X G z_abs, PySem.W.mg_none_of X G z_isinstance, PySem.W.mg_none_of X G z_tuple, PySem.W.mg_none_of X G z_list, PySem.W.mg_none_of X G z_int, PySem.W.mg_none_of X G z_bool, PySem.W.mg_none_of X G z_str, PySem.W.mg_none_of X G z_range, PySem.W.mg_none_of X G z_zip, PySem.W.mg_none_of X G z_all, PySem.W.mg_none_of X G z_any, PySem.W.mg_none_of X G z_ValueError⟩
  have B2 : Bl2 mg := ⟨B, PySem.W.mg_none_of X G z_enumerate, PySem.W.mg_none_of X G z_sum, PySem.W.mg_none_of X G z_min, PySem.W.mg_none_of X G z_max, PySem.W.mg_none_of X G z_sorted, PySem.W.mg_none_of X G z_reversed, PySem.W.mg_none_of X G z_dict⟩
  have C_MOST_FIGURES : Most4 K mg := Most4.of (PySem.W.mg_of X G b_MOST_FIGURES)
  have XC_NoText : ExC K mg "NoText" := ExC.of (PySem.W.mg_of X G e_NoText) q_NoText x_NoText
  have y0 := cOf_of (PySem.W.mg_of X G e_NoText)
  have Z : Exs K mg := ⟨XC_NoText, by simp only [y0]; exact s_NoText_NoText, by simp only [y0]; exact s_NoText_ValueError⟩
  have d_is_whole : Def K mg "is_whole" s_is_whole ["thing"] := A0.dfn X G fun _ _ _ _ _ _ us hl => by obtain ⟨_, rfl⟩ := len1 hl; rfl
  have d_is_tuple_of : Def K mg "is_tuple_of" s_is_tuple_of ["thing", "length"] := A1.dfn X G fun _ _ _ _ _ _ us hl => by obtain ⟨_, _, rfl⟩ := len2 hl; rfl
  have d_is_fraction : Def K mg "is_fraction" s_is_fraction ["thing"] := A2.dfn X G fun _ _ _ _ _ _ us hl => by obtain ⟨_, rfl⟩ := len1 hl; rfl
  have d_common_divisor : Def K mg "common_divisor" s_common_divisor ["one", "other"] := A3.dfn X G fun _ _ _ _ _ _ us hl => by obtain ⟨_, _, rfl⟩ := len2 hl; rfl
  have d_below : Def K mg "below" s_below ["q", "r"] := A4.dfn X G fun _ _ _ _ _ _ us hl => by obtain ⟨_, _, rfl⟩ := len2 hl; rfl
  have d_figures : Def K mg "figures" s_figures ["number"] := A5.dfn X G fun _ _ _ _ _ _ us hl => by obtain ⟨_, rfl⟩ := len1 hl; rfl
  have d_show : Def K mg "show" s_show ["q"] := A6.dfn X G fun _ _ _ _ _ _ us hl => by obtain ⟨_, rfl⟩ := len1 hl; rfl
  have d_is_bounds : Def K mg "is_bounds" s_is_bounds ["thing"] := A7.dfn X G fun _ _ _ _ _ _ us hl => by obtain ⟨_, rfl⟩ := len1 hl; rfl
  have d_is_bounds_list : Def K mg "is_bounds_list" s_is_bounds_list ["thing"] := A8.dfn X G fun _ _ _ _ _ _ us hl => by obtain ⟨_, rfl⟩ := len1 hl; rfl
  have d_is_fraction_list : Def K mg "is_fraction_list" s_is_fraction_list ["thing", "length"] := A9.dfn X G fun _ _ _ _ _ _ us hl => by obtain ⟨_, _, rfl⟩ := len2 hl; rfl
  have d_is_demand : Def K mg "is_demand" s_is_demand ["thing", "size_count", "shim_count"] := A10.dfn X G fun _ _ _ _ _ _ us hl => by obtain ⟨_, _, _, rfl⟩ := len3 hl; rfl
  have d_is_plan : Def K mg "is_plan" s_is_plan ["thing"] := A11.dfn X G fun _ _ _ _ _ _ us hl => by obtain ⟨_, rfl⟩ := len1 hl; rfl
  have d_show_words : Def K mg "show_words" s_show_words ["fractions"] := A12.dfn X G fun _ _ _ _ _ _ us hl => by obtain ⟨_, rfl⟩ := len1 hl; rfl
  have d_show_list : Def K mg "show_list" s_show_list ["fractions"] := A13.dfn X G fun _ _ _ _ _ _ us hl => by obtain ⟨_, rfl⟩ := len1 hl; rfl
  have d_show_bounds : Def K mg "show_bounds" s_show_bounds ["word", "pair"] := A14.dfn X G fun _ _ _ _ _ _ us hl => by obtain ⟨_, _, rfl⟩ := len2 hl; rfl
  have d_show_demand : Def K mg "show_demand" s_show_demand ["demand"] := A15.dfn X G fun _ _ _ _ _ _ us hl => by obtain ⟨_, rfl⟩ := len1 hl; rfl
  have d_show_plan : Def K mg "show_plan" s_show_plan ["plan"] := A16.dfn X G fun _ _ _ _ _ _ us hl => by obtain ⟨_, rfl⟩ := len1 hl; rfl
  have d_is_number : Def K mg "is_number" s_is_number ["text", "most"] := A17.dfn X G fun _ _ _ _ _ _ us hl => by obtain ⟨_, _, rfl⟩ := len2 hl; rfl
  have d_require_text : Def K mg "require_text" s_require_text ["thing"] := A18.dfn X G fun _ _ _ _ _ _ us hl => by obtain ⟨_, rfl⟩ := len1 hl; rfl
  have d_read_top : Def K mg "read_top" s_read_top ["text"] := A19.dfn X G fun _ _ _ _ _ _ us hl => by obtain ⟨_, rfl⟩ := len1 hl; rfl
  have d_read_bottom : Def K mg "read_bottom" s_read_bottom ["text"] := A20.dfn X G fun _ _ _ _ _ _ us hl => by obtain ⟨_, rfl⟩ := len1 hl; rfl
  have d_read_fraction : Def K mg "read_fraction" s_read_fraction ["text"] := A21.dfn X G fun _ _ _ _ _ _ us hl => by obtain ⟨_, rfl⟩ := len1 hl; rfl
  have d_read_words : Def K mg "read_words" s_read_words ["words"] := A22.dfn X G fun _ _ _ _ _ _ us hl => by obtain ⟨_, rfl⟩ := len1 hl; rfl
  have d_read_list : Def K mg "read_list" s_read_list ["text"] := A23.dfn X G fun _ _ _ _ _ _ us hl => by obtain ⟨_, rfl⟩ := len1 hl; rfl
  have d_read_bounds : Def K mg "read_bounds" s_read_bounds ["words"] := A24.dfn X G fun _ _ _ _ _ _ us hl => by obtain ⟨_, rfl⟩ := len1 hl; rfl
  have d_read_demand : Def K mg "read_demand" s_read_demand ["words", "size_count", "shim_count"] := A25.dfn X G fun _ _ _ _ _ _ us hl => by obtain ⟨_, _, _, rfl⟩ := len3 hl; rfl
  have d_rows_called : Def K mg "rows_called" s_rows_called ["rows", "word"] := A26.dfn X G fun _ _ _ _ _ _ us hl => by obtain ⟨_, _, rfl⟩ := len2 hl; rfl
  have d_read_plan : Def K mg "read_plan" s_read_plan ["text"] := A27.dfn X G fun _ _ _ _ _ _ us hl => by obtain ⟨_, rfl⟩ := len1 hl; rfl
  have d__law_nth : Def K mg "_law_nth" s_law_nth ["script", "k"] := A28.dfn X G fun _ _ _ _ _ _ us hl => by obtain ⟨_, _, rfl⟩ := len2 hl; rfl
  have d__law_pool : Def K mg "_law_pool" s_law_pool ["script", "k"] := A29.dfn X G fun _ _ _ _ _ _ us hl => by obtain ⟨_, _, rfl⟩ := len2 hl; rfl
  have d__law_take : Def K mg "_law_take" s_law_take ["pool", "many"] := A30.dfn X G fun _ _ _ _ _ _ us hl => by obtain ⟨_, _, rfl⟩ := len2 hl; rfl
  have d__law_least : Def K mg "_law_least" s_law_least ["top", "bottom"] := A31.dfn X G fun _ _ _ _ _ _ us hl => by obtain ⟨_, _, rfl⟩ := len2 hl; rfl
  have d__law_sum : Def K mg "_law_sum" s_law_sum ["q", "r"] := A32.dfn X G fun _ _ _ _ _ _ us hl => by obtain ⟨_, _, rfl⟩ := len2 hl; rfl
  have d__law_fraction : Def K mg "_law_fraction" s_law_fraction ["pool"] := A33.dfn X G fun _ _ _ _ _ _ us hl => by obtain ⟨_, rfl⟩ := len1 hl; rfl
  have d__law_bounds : Def K mg "_law_bounds" s_law_bounds ["pool"] := A34.dfn X G fun _ _ _ _ _ _ us hl => by obtain ⟨_, rfl⟩ := len1 hl; rfl
  have d__law_plan : Def K mg "_law_plan" s_law_plan ["pool", "most"] := A35.dfn X G fun _ _ _ _ _ _ us hl => by obtain ⟨_, _, rfl⟩ := len2 hl; rfl
  have d__law_far_number : Def K mg "_law_far_number" s_law_far_number ["pool", "most"] := A36.dfn X G fun _ _ _ _ _ _ us hl => by obtain ⟨_, _, rfl⟩ := len2 hl; rfl
  have d__law_far_bounds : Def K mg "_law_far_bounds" s_law_far_bounds ["pool"] := A37.dfn X G fun _ _ _ _ _ _ us hl => by obtain ⟨_, rfl⟩ := len1 hl; rfl
  have d__law_great_plan : Def K mg "_law_great_plan" s_law_great_plan ["pool"] := A38.dfn X G fun _ _ _ _ _ _ us hl => by obtain ⟨_, rfl⟩ := len1 hl; rfl
  have d__law_shown : Def K mg "_law_shown" s_law_shown ["q"] := A39.dfn X G fun _ _ _ _ _ _ us hl => by obtain ⟨_, rfl⟩ := len1 hl; rfl
  have d__law_row : Def K mg "_law_row" s_law_row ["words", "fractions"] := A40.dfn X G fun _ _ _ _ _ _ us hl => by obtain ⟨_, _, rfl⟩ := len2 hl; rfl
  have d__law_written : Def K mg "_law_written" s_law_written ["plan"] := A41.dfn X G fun _ _ _ _ _ _ us hl => by obtain ⟨_, rfl⟩ := len1 hl; rfl
  have d__law_read : Def K mg "_law_read" s_law_read ["way", "text"] := A42.dfn X G fun _ _ _ _ _ _ us hl => by obtain ⟨_, _, rfl⟩ := len2 hl; rfl
  have d__law_changed : Def K mg "_law_changed" s_law_changed ["pool", "text"] := A43.dfn X G fun _ _ _ _ _ _ us hl => by obtain ⟨_, _, rfl⟩ := len2 hl; rfl
  have d__law_good : Def K mg "_law_good" s_law_good ["q"] := A44.dfn X G fun _ _ _ _ _ _ us hl => by obtain ⟨_, rfl⟩ := len1 hl; rfl
  have d__law_right : Def K mg "_law_right" s_law_right ["way", "told", "text"] := A45.dfn X G fun _ _ _ _ _ _ us hl => by obtain ⟨_, _, _, rfl⟩ := len3 hl; rfl
  have d_law : Def K mg "law" s_law ["script"] := ⟨_, _, fun_mk (st := s_law) l46 c46 k46, (fun_mk (st := s_law) l46 c46 k46).binds (ps := ["script"]) fun _ _ _ _ _ _ us hl => by obtain ⟨_, rfl⟩ := len1 hl; rfl, PySem.W.mg_of X G a46⟩
  refine ⟨PySem.W.fnOf "law" "law" (defArgs s_law) (defBody s_law) (defScope s_law) .none kV46 dc46 pm46 an46 cd46 ct46, fun s v => .of_eq rfl, fun base _ _ => ?_⟩
  have h_is_whole := M.h_is_whole (P := l.prog) (w := w) (base := base) B d_is_whole 
  have h_is_tuple_of := M.h_is_tuple_of (P := l.prog) (w := w) (base := base) B d_is_tuple_of 
  have h_common_divisor := M.h_common_divisor (P := l.prog) (w := w) (base := base) B d_common_divisor 
  have h_below := M.h_below (P := l.prog) (w := w) (base := base) B d_below 
  have h_figures := M.h_figures (P := l.prog) (w := w) (base := base) B2 d_figures 
  have h_is_number := M.h_is_number (P := l.prog) (w := w) (base := base) B d_is_number 
  have h_require_text := M.h_require_text (P := l.prog) (w := w) (base := base) B d_require_text  (XC := Z.NoText)
  have h_rows_called := M.h_rows_called (P := l.prog) (w := w) (base := base) B d_rows_called 
  have h__law_nth := M.h__law_nth (P := l.prog) (w := w) (base := base) B d__law_nth 
  have h__law_take := M.h__law_take (P := l.prog) (w := w) (base := base) B d__law_take 
  have h__law_least := M.h__law_least (P := l.prog) (w := w) (base := base) B d__law_least 
  have h__law_shown := M.h__law_shown (P := l.prog) (w := w) (base := base) B d__law_shown 
  have h_is_fraction := M.h_is_fraction B d_is_fraction (F_is_tuple_of := h_is_tuple_of) (F_is_whole := h_is_whole) (F_common_divisor := h_common_divisor)
  have h_figures := M.fig4 h_figures
  have h_show := M.h_show B d_show (F_figures := h_figures)
  have h_read_top := M.h_read_top B d_read_top (F_is_number := h_is_number) (C_MOST_FIGURES := C_MOST_FIGURES) (XC := Z.NoText)
  have h_read_bottom := M.h_read_bottom B d_read_bottom (F_is_number := h_is_number) (C_MOST_FIGURES := C_MOST_FIGURES) (XC := Z.NoText)
  have h__law_pool := M.h__law_pool B d__law_pool (F__law_nth := h__law_nth)
  have h__law_sum := M.h__law_sum B d__law_sum (F__law_least := h__law_least)
  have h__law_fraction := M.h__law_fraction B d__law_fraction (F__law_least := h__law_least) (F__law_take := h__law_take)
  have h__law_far_number := M.h__law_far_number B d__law_far_number (F__law_least := h__law_least) (F__law_take := h__law_take)
  have h__law_row := M.h__law_row B d__law_row (F__law_shown := h__law_shown)
  have h__law_changed := M.h__law_changed B d__law_changed (F__law_take := h__law_take)
  have h__law_good := M.h__law_good B d__law_good (F__law_least := h__law_least)
  have h_is_bounds := M.h_is_bounds B d_is_bounds (F_is_tuple_of := h_is_tuple_of) (F_below := h_below) (F_is_fraction := h_is_fraction)
  have h_is_fraction_list := M.h_is_fraction_list B d_is_fraction_list (F_is_fraction := h_is_fraction)
  have h_show_words := M.h_show_words B d_show_words (F_show := h_show)
  have h_read_fraction := M.h_read_fraction B d_read_fraction (F_require_text := h_require_text) (F_read_top := h_read_top) (F_read_bottom := h_read_bottom) (F_common_divisor := h_common_divisor) (XC := Z.NoText)
  have h__law_bounds := M.h__law_bounds B d__law_bounds (F__law_fraction := h__law_fraction) (F__law_least := h__law_least) (F__law_take := h__law_take) (F__law_sum := h__law_sum)
  have h__law_far_bounds := M.h__law_far_bounds B d__law_far_bounds (F__law_far_number := h__law_far_number) (F__law_sum := h__law_sum) (F__law_take := h__law_take)
  have h__law_written := M.h__law_written B d__law_written (F__law_row := h__law_row) (F__law_shown := h__law_shown)
  have h_is_bounds_list := M.h_is_bounds_list B d_is_bounds_list (F_is_bounds := h_is_bounds)
  have h_is_demand := M.h_is_demand B d_is_demand (F_is_fraction := h_is_fraction) (F_is_tuple_of := h_is_tuple_of) (F_is_fraction_list := h_is_fraction_list)
  have h_show_list := M.h_show_list B d_show_list (F_show_words := h_show_words)
  have h_show_bounds := M.h_show_bounds B d_show_bounds (F_show_words := h_show_words)
  have h_show_demand := M.h_show_demand B d_show_demand (F_show_words := h_show_words) (F_show := h_show)
  have h_read_words := M.h_read_words B d_read_words (F_read_fraction := h_read_fraction) (XC := Z.NoText)
  have h__law_plan := M.h__law_plan B d__law_plan (F__law_bounds := h__law_bounds) (F__law_take := h__law_take) (F__law_fraction := h__law_fraction) (F__law_sum := h__law_sum)
  have h__law_great_plan := M.h__law_great_plan B d__law_great_plan (F__law_far_bounds := h__law_far_bounds) (F__law_take := h__law_take) (F__law_far_number := h__law_far_number)
  have h_is_plan := M.h_is_plan B d_is_plan (F_is_tuple_of := h_is_tuple_of) (F_is_bounds_list := h_is_bounds_list) (F_is_demand := h_is_demand)
  have h_show_plan := M.h_show_plan B d_show_plan (F_show_bounds := h_show_bounds) (F_show_demand := h_show_demand)
  have h_read_list := M.h_read_list B d_read_list (F_require_text := h_require_text) (F_read_words := h_read_words) (XC := Z.NoText)
  have h_read_bounds := M.h_read_bounds B d_read_bounds (F_read_words := h_read_words) (F_is_bounds := h_is_bounds) (XC := Z.NoText)
  have h_read_demand := M.h_read_demand B d_read_demand (F_read_words := h_read_words) (F_read_fraction := h_read_fraction) (XC := Z.NoText)
  have h_read_plan := M.h_read_plan B d_read_plan (F_require_text := h_require_text) (F_rows_called := h_rows_called) (F_read_bounds := h_read_bounds) (F_read_demand := h_read_demand) (XC := Z.NoText)
  have h__law_right := M.h__law_right B d__law_right (F_is_plan := h_is_plan) (F__law_good := h__law_good) (F__law_row := h__law_row) (F__law_written := h__law_written) (F_show_plan := h_show_plan) (F__law_shown := h__law_shown) (F_show := h_show) (F_show_list := h_show_list)
  have h__law_read := M.h__law_read B d__law_read (F_read_fraction := h_read_fraction) (F_read_list := h_read_list) (F_read_plan := h_read_plan) (Z := Z)
  exact M.fn_law (P := l.prog) (w := w) (base := base) B2 (fun_mk (st := s_law) l46 c46 k46) (F__law_pool := h__law_pool) (F__law_take := h__law_take) (F__law_read := h__law_read) (F__law_fraction := h__law_fraction) (F__law_written := h__law_written) (F__law_changed := h__law_changed) (F__law_shown := h__law_shown) (F__law_right := h__law_right) (F__law_row := h__law_row) (F__law_plan := h__law_plan) (F__law_great_plan := h__law_great_plan)
private theorem walk {l : PySem.W.OpenLaw} {q : Program} {loose : List Str} {XP : (Str → Option Value) → Heap → Prop} {YP : World → Heap → Prop} {d : DefRec} {K : Params → PySem.W.Frag} (hn : l.most = some 63) (hdf : d.params.defaults = [])
    (hY : ∀ (w : World) (h : Heap), YP w h → (K w.params).In h)
    (F : ∀ (w : World) (mg : Str → Option Value) (fa : Addr) (h : Heap), (K w.params).In h → h.Ns mainGlobals mg → mg d.name = some (.ref fa) →
      ∃ fd : FuncData, (∀ (s : Shared) (u : Value), BindsTo s fd ⟨[u], []⟩ [("script", u)]) ∧ ∀ base : Heap, (K w.params).In base → base.Ns mainGlobals mg → FnOk l.prog w (K w.params) mg base CX0 8 fa fd ["script"] (spLaw (K w.params))) :
    PySem.W.WalkO q loose XP YP l.row.toRowW d [] (fun f vs => PySem.call f vs) :=
  L2.walk_of (n := 63) (k := 8) (x := "script") (CX := fun _ => CX0) (sp := fun w => spLaw (K w.params)) hn (by decide) hdf ⟨rfl, by decide, by decide⟩ hY F (fun _ _ a ns hl _ hS => ⟨a, ns, rfl, hS, hl, fun _ => rfl⟩) fun _ _ _ _ _ z => z
end M
-- the head would lay twins of the heap, of trees and of texts here; with their names taken it lays none and goes on without them, and the compiled file stays small
theorem PySem.W.Fast.tw5648642751905845800 : True := trivial
theorem PySem.W.Fast.tw14945986323620140501 : True := trivial
theorem PySem.W.Fast.tw8551455264705380224 : True := trivial
theorem PySem.W.Fast.tw8103930048115613526 : True := trivial
theorem PySem.W.Fast.tw6673711223979376022 : True := trivial
theorem PySem.W.Fast.tw17868779723110380443 : True := trivial
theorem PySem.W.Fast.tw16078053270704983534 : True := trivial
theorem PySem.W.Fast.tw15210556270195873965 : True := trivial
theorem PySem.W.Fast.tw8565764694096097711 : True := trivial
theorem PySem.W.Fast.te8070066574008944275 : True := trivial
theorem PySem.W.Fast.tw9815645796520390186 : True := trivial
theorem PySem.W.Fast.tw15307945256234659263 : True := trivial
theorem PySem.W.Fast.tw13192138284249060388 : True := trivial
theorem PySem.W.Fast.tw13924831678110134175 : True := trivial
theorem PySem.W.Fast.tw3040344287182061104 : True := trivial
theorem PySem.W.Fast.tw11735751738400694627 : True := trivial
theorem PySem.W.Fast.tw2061618322220870654 : True := trivial
theorem PySem.W.Fast.tw7932845870399659518 : True := trivial
theorem PySem.W.Fast.tw566826405679902624 : True := trivial
theorem PySem.W.Fast.tw16658106242964139093 : True := trivial
theorem PySem.W.Fast.tw3752942070810808968 : True := trivial
theorem PySem.W.Fast.tw5706170580643240592 : True := trivial
theorem PySem.W.Fast.tw14261967885569166403 : True := trivial
theorem PySem.W.Fast.tw9748176261115179485 : True := trivial
theorem PySem.W.Fast.tw677131449479093606 : True := trivial
theorem PySem.W.Fast.tw6962620338464003818 : True := trivial
theorem PySem.W.Fast.tw3629645676799730939 : True := trivial
theorem PySem.W.Fast.tw9257318854633793288 : True := trivial
theorem PySem.W.Fast.tw885098141025093081 : True := trivial
theorem PySem.W.Fast.tw5600973403366955567 : True := trivial
theorem PySem.W.Fast.tw11587629265170057644 : True := trivial
noncomputable def PySem.W.Fast.tw17576670828881877981 : PySem.Program := PySem.Challenge.pw_shimright_k77_whole_texts_changed
theorem PySem.W.Fast.te17576670828881877981 : PySem.Challenge.pw_shimright_k77_whole_texts_changed = PySem.W.Fast.tw17576670828881877981 := rfl
theorem PySem.W.Fast.tw13118190998474975939 : True := trivial
theorem PySem.W.Fast.tw12600827456974164003 : True := trivial
theorem PySem.W.Fast.tw3324239713856029580 : True := trivial
theorem PySem.W.Fast.tw17994676553223839179 : True := trivial
theorem PySem.W.Fast.tw18290955439610245349 : True := trivial
theorem PySem.W.Fast.tw3746946204298315486 : True := trivial
theorem PySem.W.Fast.tw2210790045726490032 : True := trivial
theorem PySem.W.Fast.tw13685037587421061415 : True := trivial
theorem PySem.W.Fast.tw12698983937934333508 : True := trivial
theorem PySem.W.Fast.tw11320834753141419774 : True := trivial
theorem PySem.W.Fast.tw3409362321226422506 : True := trivial
theorem PySem.W.Fast.tw11342615660003146346 : True := trivial
theorem PySem.W.Fast.tw7449092199093901099 : True := trivial
theorem PySem.W.Fast.tw13767290398316490690 : True := trivial
theorem PySem.W.Fast.tw3011585822546884334 : True := trivial
theorem PySem.W.Fast.tw3043601621623397709 : True := trivial
theorem PySem.W.Fast.tw2411385858002815470 : True := trivial
theorem PySem.W.Fast.tw10258794823952463238 : True := trivial
theorem PySem.W.Fast.tw15814298522494408581 : True := trivial
theorem PySem.W.Fast.tw7572139306829046116 : True := trivial
theorem PySem.W.Fast.tw16444782329085351489 : True := trivial
theorem PySem.W.Fast.tw3317323921952315377 : True := trivial
theorem PySem.W.Fast.tw2213511834703984234 : True := trivial
theorem PySem.W.Fast.tw17429129591626036787 : True := trivial
theorem PySem.W.Fast.tw3101910608323197403 : True := trivial
theorem PySem.W.Fast.tw13558893123713250111 : True := trivial
theorem PySem.W.Fast.tw8351575753904067745 : True := trivial
theorem PySem.W.Fast.tw8105569274675185596 : True := trivial
theorem PySem.W.Fast.tw1152177940174073425 : True := trivial
theorem PySem.W.Fast.tw7032800614471730452 : True := trivial
theorem PySem.W.Fast.tw34962791242040593 : True := trivial
theorem PySem.W.Fast.tw14902727992233939780 : True := trivial
theorem PySem.W.Fast.tw7372368369544973318 : True := trivial
theorem PySem.W.Fast.tw13816562656257594279 : True := trivial
theorem PySem.W.Fast.tw524735933931318943 : True := trivial
theorem PySem.W.Fast.tw3328040087411379299 : True := trivial
theorem PySem.W.Fast.tw7659417678237117198 : True := trivial
theorem PySem.W.Fast.tw4729327465742046479 : True := trivial
theorem PySem.W.Fast.tw11288749170217981692 : True := trivial
namespace M
end M
open PySem PySem.W PyProof.Rows
set_option maxRecDepth 100000 in
set_option maxHeartbeats 0 in
theorem PySem.Challenge.cw_shimright_k77_whole_texts_changed_holds : PySem.Challenge.rw_shimright_k77_whole_texts_changed.Holds := by
  w_on; o_law; k_head; (case hw => w_witness2)
  k_fill
  refine M.walk (l := PySem.Challenge.rw_shimright_k77_whole_texts_changed) rfl rfl (fun w h Y => PySem.W.kIn_of Y) ?F
  case F =>
    intro w mg fa h KX G hmg
    refine' M.all_mk KX G hmg ?A0 ?A1 ?A2 ?A3 ?A4 ?A5 ?A6 ?A7 ?A8 ?A9 ?A10 ?A11 ?A12 ?A13 ?A14 ?A15 ?A16 ?A17 ?A18 ?A19 ?A20 ?A21 ?A22 ?A23 ?A24 ?A25 ?A26 ?A27 ?A28 ?A29 ?A30 ?A31 ?A32 ?A33 ?A34 ?A35 ?A36 ?A37 ?A38 ?A39 ?A40 ?A41 ?A42 ?A43 ?A44 ?A45 ?a46 ?l46 ?c46 ?k46 ?z_len ?z_abs ?z_isinstance ?z_tuple ?z_list ?z_int ?z_bool ?z_str ?z_range ?z_zip ?z_all ?z_any ?z_ValueError ?z_enumerate ?z_sum ?z_min ?z_max ?z_sorted ?z_reversed ?z_dict ?b_MOST_FIGURES ?e_NoText ?q_NoText ?x_NoText ?s_NoText_NoText ?s_NoText_ValueError
    (case A0 => (refine' M.At.of ?a ?l ?c ?k; (case a => k_is); (case l => k_is); (case c => k_is); case k => k_is))
    (case A1 => (refine' M.At.of ?a ?l ?c ?k; (case a => k_is); (case l => k_is); (case c => k_is); case k => k_is))
    (case A2 => (refine' M.At.of ?a ?l ?c ?k; (case a => k_is); (case l => k_is); (case c => k_is); case k => k_is))
    (case A3 => (refine' M.At.of ?a ?l ?c ?k; (case a => k_is); (case l => k_is); (case c => k_is); case k => k_is))
    (case A4 => (refine' M.At.of ?a ?l ?c ?k; (case a => k_is); (case l => k_is); (case c => k_is); case k => k_is))
    (case A5 => (refine' M.At.of ?a ?l ?c ?k; (case a => k_is); (case l => k_is); (case c => k_is); case k => k_is))
    (case A6 => (refine' M.At.of ?a ?l ?c ?k; (case a => k_is); (case l => k_is); (case c => k_is); case k => k_is))
    (case A7 => (refine' M.At.of ?a ?l ?c ?k; (case a => k_is); (case l => k_is); (case c => k_is); case k => k_is))
    (case A8 => (refine' M.At.of ?a ?l ?c ?k; (case a => k_is); (case l => k_is); (case c => k_is); case k => k_is))
    (case A9 => (refine' M.At.of ?a ?l ?c ?k; (case a => k_is); (case l => k_is); (case c => k_is); case k => k_is))
    (case A10 => (refine' M.At.of ?a ?l ?c ?k; (case a => k_is); (case l => k_is); (case c => k_is); case k => k_is))
    (case A11 => (refine' M.At.of ?a ?l ?c ?k; (case a => k_is); (case l => k_is); (case c => k_is); case k => k_is))
    (case A12 => (refine' M.At.of ?a ?l ?c ?k; (case a => k_is); (case l => k_is); (case c => k_is); case k => k_is))
    (case A13 => (refine' M.At.of ?a ?l ?c ?k; (case a => k_is); (case l => k_is); (case c => k_is); case k => k_is))
    (case A14 => (refine' M.At.of ?a ?l ?c ?k; (case a => k_is); (case l => k_is); (case c => k_is); case k => k_is))
    (case A15 => (refine' M.At.of ?a ?l ?c ?k; (case a => k_is); (case l => k_is); (case c => k_is); case k => k_is))
    (case A16 => (refine' M.At.of ?a ?l ?c ?k; (case a => k_is); (case l => k_is); (case c => k_is); case k => k_is))
    (case A17 => (refine' M.At.of ?a ?l ?c ?k; (case a => k_is); (case l => k_is); (case c => k_is); case k => k_is))
    (case A18 => (refine' M.At.of ?a ?l ?c ?k; (case a => k_is); (case l => k_is); (case c => k_is); case k => k_is))
    (case A19 => (refine' M.At.of ?a ?l ?c ?k; (case a => k_is); (case l => k_is); (case c => k_is); case k => k_is))
    (case A20 => (refine' M.At.of ?a ?l ?c ?k; (case a => k_is); (case l => k_is); (case c => k_is); case k => k_is))
    (case A21 => (refine' M.At.of ?a ?l ?c ?k; (case a => k_is); (case l => k_is); (case c => k_is); case k => k_is))
    (case A22 => (refine' M.At.of ?a ?l ?c ?k; (case a => k_is); (case l => k_is); (case c => k_is); case k => k_is))
    (case A23 => (refine' M.At.of ?a ?l ?c ?k; (case a => k_is); (case l => k_is); (case c => k_is); case k => k_is))
    (case A24 => (refine' M.At.of ?a ?l ?c ?k; (case a => k_is); (case l => k_is); (case c => k_is); case k => k_is))
    (case A25 => (refine' M.At.of ?a ?l ?c ?k; (case a => k_is); (case l => k_is); (case c => k_is); case k => k_is))
    (case A26 => (refine' M.At.of ?a ?l ?c ?k; (case a => k_is); (case l => k_is); (case c => k_is); case k => k_is))
    (case A27 => (refine' M.At.of ?a ?l ?c ?k; (case a => k_is); (case l => k_is); (case c => k_is); case k => k_is))
    (case A28 => (refine' M.At.of ?a ?l ?c ?k; (case a => k_is); (case l => k_is); (case c => k_is); case k => k_is))
    (case A29 => (refine' M.At.of ?a ?l ?c ?k; (case a => k_is); (case l => k_is); (case c => k_is); case k => k_is))
    (case A30 => (refine' M.At.of ?a ?l ?c ?k; (case a => k_is); (case l => k_is); (case c => k_is); case k => k_is))
    (case A31 => (refine' M.At.of ?a ?l ?c ?k; (case a => k_is); (case l => k_is); (case c => k_is); case k => k_is))
    (case A32 => (refine' M.At.of ?a ?l ?c ?k; (case a => k_is); (case l => k_is); (case c => k_is); case k => k_is))
    (case A33 => (refine' M.At.of ?a ?l ?c ?k; (case a => k_is); (case l => k_is); (case c => k_is); case k => k_is))
    (case A34 => (refine' M.At.of ?a ?l ?c ?k; (case a => k_is); (case l => k_is); (case c => k_is); case k => k_is))
    (case A35 => (refine' M.At.of ?a ?l ?c ?k; (case a => k_is); (case l => k_is); (case c => k_is); case k => k_is))
    (case A36 => (refine' M.At.of ?a ?l ?c ?k; (case a => k_is); (case l => k_is); (case c => k_is); case k => k_is))
    (case A37 => (refine' M.At.of ?a ?l ?c ?k; (case a => k_is); (case l => k_is); (case c => k_is); case k => k_is))
    (case A38 => (refine' M.At.of ?a ?l ?c ?k; (case a => k_is); (case l => k_is); (case c => k_is); case k => k_is))
    (case A39 => (refine' M.At.of ?a ?l ?c ?k; (case a => k_is); (case l => k_is); (case c => k_is); case k => k_is))
    (case A40 => (refine' M.At.of ?a ?l ?c ?k; (case a => k_is); (case l => k_is); (case c => k_is); case k => k_is))
    (case A41 => (refine' M.At.of ?a ?l ?c ?k; (case a => k_is); (case l => k_is); (case c => k_is); case k => k_is))
    (case A42 => (refine' M.At.of ?a ?l ?c ?k; (case a => k_is); (case l => k_is); (case c => k_is); case k => k_is))
    (case A43 => (refine' M.At.of ?a ?l ?c ?k; (case a => k_is); (case l => k_is); (case c => k_is); case k => k_is))
    (case A44 => (refine' M.At.of ?a ?l ?c ?k; (case a => k_is); (case l => k_is); (case c => k_is); case k => k_is))
    (case A45 => (refine' M.At.of ?a ?l ?c ?k; (case a => k_is); (case l => k_is); (case c => k_is); case k => k_is))
    (case a46 => k_is)
    (case l46 => k_is)
    (case c46 => k_is)
    (case k46 => k_is)
    (case z_len => k_is)
    (case z_abs => k_is)
    (case z_isinstance => k_is)
    (case z_tuple => k_is)
    (case z_list => k_is)
    (case z_int => k_is)
    (case z_bool => k_is)
    (case z_str => k_is)
    (case z_range => k_is)
    (case z_zip => k_is)
    (case z_all => k_is)
    (case z_any => k_is)
    (case z_ValueError => k_is)
    (case z_enumerate => k_is)
    (case z_sum => k_is)
    (case z_min => k_is)
    (case z_max => k_is)
    (case z_sorted => k_is)
    (case z_reversed => k_is)
    (case z_dict => k_is)
    (case b_MOST_FIGURES => k_is)
    (case e_NoText => k_is)
    (case q_NoText => k_exc)
    (case x_NoText => (refine ⟨?_, ?_, ?_, ?_, ?_, ?_, ?_, ?_, ?_⟩ <;> k_is))
    (case s_NoText_NoText => k_is)
    (case s_NoText_ValueError => k_is)
#print axioms PySem.Challenge.cw_shimright_k77_whole_texts_changed_holds
