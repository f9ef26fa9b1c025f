import PyProof.Rows.All
import Wide.All
import OpenK.AllK
import Wide.FinOn
import Lean
import PyProof.EqAt
import PyProof.EqKinds
import PyProof.TupleCall
import PyProof.NeKinds
import KE.KLam
import KE.KMinKey
import PySem.Challenge.RW_shimright_k14_weights_judged
set_option genInjectivity false
set_option genSizeOf false
set_option genSizeOfSpec false
set_option bootstrap.genMatcherCode false
set_option compiler.extract_closed false
set_option Elab.async false
set_option linter.all false
set_option maxRecDepth 100000
namespace L2
private theorem e12 {α : Type} {A B : α → Prop} {R : Prop} (h : ∃ x, A x ∧ B x) (k : ∀ x, A x → B x → R) : R := h.elim fun x h => k x h.1 h.2
private theorem e22 {α β : Type} {A B : α → β → Prop} {R : Prop} (h : ∃ x y, A x y ∧ B x y) (k : ∀ x y, A x y → B x y → R) : R := h.elim fun x h => h.elim fun y h => k x y h.1 h.2
private theorem e23 {α β : Type} {A B C : α → β → Prop} {R : Prop} (h : ∃ x y, A x y ∧ B x y ∧ C x y) (k : ∀ x y, A x y → B x y → C x y → R) : R := h.elim fun x h => h.elim fun y h => k x y h.1 h.2.1 h.2.2
private theorem e24 {α β : Type} {A B C D : α → β → Prop} {R : Prop} (h : ∃ x y, A x y ∧ B x y ∧ C x y ∧ D x y) (k : ∀ x y, A x y → B x y → C x y → D x y → R) : R := h.elim fun x h => h.elim fun y h => k x y h.1 h.2.1 h.2.2.1 h.2.2.2
open PySem PySem.Spec PyProof.Rows
noncomputable abbrev Key := Sum Int Str
noncomputable def keyIs : Key → Value → Bool
  | .inl k, v => Value.isInt k v
  | .inr x, v => Value.isStrOf x v
noncomputable def keyH (w : World) : Key → Int
  | .inl k => hashInt k
  | .inr x => hashStr w x
private theorem keyIs_shape : ∀ {k : Key} {v : Value}, keyIs k v = true → (∃ i t, k = Sum.inl i ∧ v = Value.int i t) ∨ (∃ x t, k = Sum.inr x ∧ v = Value.str x t)
  | .inl i, v, h => by
    obtain ⟨t, e⟩ := Value.isInt_shape (k := i) (v := v) h
    exact .inl ⟨i, t, rfl, e⟩
  | .inr x, v, h => by
    obtain ⟨t, e⟩ := Value.isStrOf_shape (x := x) (v := v) h
    exact .inr ⟨x, t, rfl, e⟩
private theorem key_ll (a b : Int) : decide ((Sum.inl a : Key) = Sum.inl b) = (a == b) := by
  by_cases e : a = b
  · subst e; simp
  · have h : ¬ (Sum.inl a : Key) = Sum.inl b := fun q => e (Sum.inl.inj q)
    rw [decide_eq_false h]
    exact (beq_eq_false_iff_ne.mpr e).symm
private theorem key_rr (a b : Str) : decide ((Sum.inr a : Key) = Sum.inr b) = decide (a = b) := by
  by_cases e : a = b
  · subst e; simp
  · have h : ¬ (Sum.inr a : Key) = Sum.inr b := fun q => e (Sum.inr.inj q)
    rw [decide_eq_false h, decide_eq_false e]
private theorem key_lr (a : Int) (b : Str) : decide ((Sum.inl a : Key) = Sum.inr b) = false := decide_eq_false (fun q => nomatch q)
private theorem key_rl (a : Str) (b : Int) : decide ((Sum.inr a : Key) = Sum.inl b) = false := decide_eq_false (fun q => nomatch q)
noncomputable def mixKind (prog : Program) (w : World) : PySem.KeyKind prog w Key where
  is := keyIs
  hash := keyH w
  inj := fun v a b ha hb => by
    rcases keyIs_shape ha with ⟨i, t, rfl, rfl⟩ | ⟨x, t, rfl, rfl⟩
    · rcases keyIs_shape hb with ⟨j, u, rfl, e⟩ | ⟨y, u, rfl, e⟩
      · injection e with e1 _; rw [e1]
      · exact nomatch e
    · rcases keyIs_shape hb with ⟨j, u, rfl, e⟩ | ⟨y, u, rfl, e⟩
      · exact nomatch e
      · injection e with e1 _; rw [e1]
  byValue := fun k v h => by
    rcases keyIs_shape h with ⟨i, t, rfl, rfl⟩ | ⟨x, t, rfl, rfl⟩ <;> rfl
  pyHash := fun hv h => by
    rcases keyIs_shape hv with ⟨i, t, rfl, rfl⟩ | ⟨x, t, rfl, rfl⟩
    · exact wpAny_pyHash_int h
    · exact wpAny_pyHash_str h
  eqBool := fun hu hv h => by
    rcases keyIs_shape hu with ⟨i, t, rfl, rfl⟩ | ⟨x, t, rfl, rfl⟩
    · rcases keyIs_shape hv with ⟨j, u, rfl, rfl⟩ | ⟨y, u, rfl, rfl⟩
      · rw [key_ll] at h; exact wpAny_eqBool_int h
      · rw [key_lr] at h; exact SeqAt.EqAt.int_str i t y u _ _ _ _ h
    · rcases keyIs_shape hv with ⟨j, u, rfl, rfl⟩ | ⟨y, u, rfl, rfl⟩
      · rw [key_rl] at h; exact SeqAt.EqAt.str_int x t j u _ _ _ _ h
      · rw [key_rr] at h; exact wpAny_eqBool_str h
  «strs» := fun k x t v h => by
    rcases keyIs_shape h with ⟨i, u, rfl, e⟩ | ⟨y, u, rfl, e⟩
    · exact nomatch e
    · injection e with e1 _
      subst e1
      cases v <;> rfl
end L2
namespace L2
open PySem PySem.Spec PyProof.Rows
inductive V where
  | non | bl (b : Bool) | int (i : Int) | str (x : Str) | byt (b : Array UInt8) | flt (b : UInt64) | ref (a : Addr) | ty (n : String)
  deriving DecidableEq
noncomputable def RelV : V → Value → Prop
  | .non, u => u = Value.none
  | .bl b, u => u = Value.bool b
  | .int i, u => ∃ t, u = Value.int i t
  | .str x, u => ∃ t, u = Value.str x t
  | .byt b, u => ∃ t, u = Value.bytes b t
  | .flt b, u => ∃ t, u = Value.float b t
  | .ref a, u => u = Value.ref a
  | .ty n, u => u = Value.type n
noncomputable abbrev Vals : List V → List Value → Prop := Paired RelV
private theorem Vals.length {xs : List V} {us : List Value} (r : Vals xs us) : xs.length = us.length := Paired.length r
private theorem Vals.get : ∀ {xs : List V} {us : List Value} {i : Nat} {x : V}, Vals xs us → xs[i]? = some x → ∃ u, us[i]? = some u ∧ RelV x u
  | _, _, _, _, .nil, e => by simp at e
  | _, _, 0, _, .cons r _, e => by simp at e; subst e; exact ⟨_, rfl, r⟩
  | _, _, i + 1, x, .cons _ t, e => by
    obtain ⟨u, h1, h2⟩ := Vals.get (i := i) (x := x) t (by simpa using e)
    exact ⟨u, by simpa using h1, h2⟩
private theorem Vals.set {x : V} {u : Value} (r : RelV x u) : ∀ {xs : List V} {us : List Value} (i : Nat), Vals xs us → Vals (xs.set i x) (us.set i u)
  | _, _, _, .nil => .nil
  | _, _, 0, .cons _ t => .cons r t
  | _, _, i + 1, .cons q t => .cons q (Vals.set r i t)
private theorem Vals.append : ∀ {xs ys : List V} {us ws : List Value}, Vals xs us → Vals ys ws → Vals (xs ++ ys) (us ++ ws)
  | _, _, _, _, .nil, s => s
  | _, _, _, _, .cons r t, s => .cons r (Vals.append t s)
private theorem Vals.take : ∀ {xs : List V} {us : List Value} (n : Nat), Vals xs us → Vals (xs.take n) (us.take n)
  | _, _, 0, _ => .nil
  | _, _, _ + 1, .nil => .nil
  | _, _, n + 1, .cons r t => .cons r (Vals.take n t)
private theorem Vals.drop : ∀ {xs : List V} {us : List Value} (n : Nat), Vals xs us → Vals (xs.drop n) (us.drop n)
  | _, _, 0, r => r
  | _, _, _ + 1, .nil => .nil
  | _, _, n + 1, .cons _ t => Vals.drop n t
noncomputable def RelO : Option V → Option Value → Prop
  | some v, some u => RelV v u
  | none, none => True
  | _, _ => False
noncomputable def KV {κ : Type} : List (κ × V) → List (κ × Value) → Prop := Paired fun (p : κ × V) (q : κ × Value) => p.1 = q.1 ∧ RelV p.2 q.2
noncomputable def kV : Key → V
  | .inl i => .int i
  | .inr x => .str x
inductive HO where
  | lst (xs : List V)
  | tup (xs : List V)
  | dK (kvs : List (Key × V)) | dT (kvs : List (List Key × V))
  | set (S : Int → Bool) (n : Nat)
  | ins (C dx : Addr) (fs : List (Str × V))
  | own (x : Addr)
  | xd (fs : List (Str × V))
  | met (f x : Addr)
  | rng (lo hi : Int)
  | frz (o : Obj) (u : HO)
  | tbl (ps : Array Value)
  | ext (φ : Heap → Prop)
noncomputable abbrev Hp := Addr → Option HO
noncomputable def upd (H : Hp) (a : Addr) (o : HO) : Hp := fun b => if b = a then some o else H b
private theorem upd_same {H : Hp} {a : Addr} {o : HO} : upd H a o a = some o := by unfold upd; rw [if_pos rfl]
private theorem upd_ne {H : Hp} {a b : Addr} {o : HO} (h : b ≠ a) : upd H a o b = H b := by unfold upd; rw [if_neg h]
private theorem upd_upd {H : Hp} {a : Addr} {o u : HO} : upd (upd H a o) a u = upd H a u := by
  funext b; unfold upd; split <;> rfl
private theorem ne_of_none {H : Hp} {a b : Addr} {o : HO} (h : H a = some o) (h' : H b = none) : a ≠ b := by
  intro e; subst e; rw [h] at h'; cases h'
section
variable (P : Program) (w : World)
noncomputable def ObjOk (H : Hp) (h : Heap) (a : Addr) : HO → Prop
  | .lst xs => xs.length ≤ sizeLine ∧ ∃ (its : List Value) (n : Nat), Vals xs its ∧ h.get? a = some { cls := .type "list", data := .seq its.toArray n }
  | .tup xs => xs.length ≤ sizeLine ∧ ∃ its : List Value, Vals xs its ∧ IsTup h a its.toArray
  | .dK kvs => kvs.length ≤ sizeLine ∧ (a == sysModules) = false ∧ ∃ vs, KV kvs vs ∧ h.DictOf (mixKind P w) a vs
  | .dT kvs => kvs.length ≤ sizeLine ∧ (a == sysModules) = false ∧ ∃ xs : List (List Key × Addr × Value),
      Paired (fun (p : List Key × V) (q : List Key × Addr × Value) => p.1 = q.1 ∧ H q.2.1 = some (.tup (p.1.map kV)) ∧ RelV p.2 q.2.2) kvs xs ∧
      ∃ o es ep, h.get? a = some o ∧ o.ExactDict ∧ o.data = .dict es ep ∧ es.toList = xs.map (entryOfKey (tupleKind (mixKind P w))) ∧ (xs.map (·.1)).Nodup
  | .set S n => h.SetOf (intKind P w) a S n
  | .ins C dx fs => H dx = some (.own a) ∧ fs.length ≤ 1000 ∧ dx ≠ a ∧ h.get? a = some (PySem.W.instObj C dx) ∧
      ∃ mA, h.Ns1 dx mA ∧ (∀ f, RelO (fs.lookup f) (mA f)) ∧ PySem.Within mA (fs.map (·.1))
  | .own _ => ∃ o, h.get? a = some o
  | .xd fs => ∃ mA, h.Ns1 a mA ∧ ∀ f, RelO (fs.lookup f) (mA f)
  | .rng lo hi => ∃ t u v, h.get? a = some { cls := .type "range", data := .fields #[.int lo t, .int hi u, .int 1 v] }
  | .frz o u => h.get? a = some o ∧ ObjOk H h a u
  | .tbl ps => h.get? a = some { cls := .none, data := .fields ps }
  | .met f x => h.get? a = some (PySem.W.methodObj (.ref f) (.ref x))
  | .ext φ => φ h ∧ (∃ o, h.get? a = some o) ∧ ∀ h1 h2 : Heap, φ h1 → (∀ o, h1.get? a = some o → h2.get? a = some o) → φ h2
noncomputable def HOk (H : Hp) (h : Heap) : Prop := ∀ a o, H a = some o → ObjOk P w H h a o
end
section
variable {P : Program} {w : World} {H H' : Hp} {h h' : Heap} {a : Addr} {o : HO}
private theorem ObjOk.lt (x : ObjOk P w H h a o) : a < h.objs.size := by
  cases o with
  | lst xs => obtain ⟨_, _, _, _, e⟩ := x; exact Heap.lt_size e
  | tup xs => obtain ⟨_, _, _, p⟩ := x; exact p.lt
  | dK kvs => obtain ⟨_, _, _, _, o, _, _, e, _⟩ := x; exact Heap.lt_size e
  | dT kvs => obtain ⟨_, _, _, _, o, _, _, e, _⟩ := x; exact Heap.lt_size e
  | set S n => obtain ⟨o, _, _, _, e, _⟩ := x; exact Heap.lt_size e
  | ins C dx fs => obtain ⟨_, _, _, e, _⟩ := x; exact Heap.lt_size e
  | own y => obtain ⟨_, e⟩ := x; exact Heap.lt_size e
  | xd fs => obtain ⟨_, ⟨_, _, _, e, _⟩, _⟩ := x; exact Heap.lt_size e
  | rng lo hi => obtain ⟨_, _, _, e⟩ := x; exact Heap.lt_size e
  | frz ob u => obtain ⟨e, _⟩ := x; exact Heap.lt_size e
  | tbl ps => exact Heap.lt_size (show h.get? a = some _ from x)
  | met f y => exact Heap.lt_size (show h.get? a = some _ from x)
  | ext φ => obtain ⟨_, ⟨_, e⟩, _⟩ := x; exact Heap.lt_size e
private theorem Paired.mapP {α β : Type} {F G : α → β → Prop} : ∀ {l₁ : List α} {l₂ : List β}, Paired F l₁ l₂ → (∀ a b, F a b → G a b) → Paired G l₁ l₂
  | _, _, .nil, _ => .nil
  | _, _, .cons r t, f => .cons (f _ _ r) (Paired.mapP t f)
private theorem ObjOk.stay (x : ObjOk P w H h a o) (k : ∀ b u, (b = a ∨ H b = some (.own a)) → h.get? b = some u → h'.get? b = some u)
    (ho : ∀ b, H b = some (.own a) → H' b = some (.own a)) (ht : ∀ b xs, H b = some (.tup xs) → H' b = some (.tup xs)) : ObjOk P w H' h' a o := by
  induction o with
  | lst xs => obtain ⟨z, its, n, r, e⟩ := x; exact ⟨z, its, n, r, k _ _ (.inl rfl) e⟩
  | tup xs => obtain ⟨z, its, r, ob, e, c⟩ := x; exact ⟨z, its, r, ob, k _ _ (.inl rfl) e, c⟩
  | dK kvs => obtain ⟨z, y, vs, r, ob, es, ep, e, c⟩ := x; exact ⟨z, y, vs, r, ob, es, ep, k _ _ (.inl rfl) e, c⟩
  | dT kvs =>
    obtain ⟨z, y, xs, r, ob, es, ep, e, c⟩ := x
    exact ⟨z, y, xs, Paired.mapP r fun p q z => ⟨z.1, ht _ _ z.2.1, z.2.2⟩, ob, es, ep, k _ _ (.inl rfl) e, c⟩
  | set S n => obtain ⟨ob, es, ep, t, e, c⟩ := x; exact ⟨ob, es, ep, t, k _ _ (.inl rfl) e, c⟩
  | ins C dx fs =>
    obtain ⟨d, z, ne, e, mA, ⟨od, es, ep, e2, c⟩, r⟩ := x
    exact ⟨ho _ d, z, ne, k _ _ (.inl rfl) e, mA, ⟨od, es, ep, k _ _ (.inr d) e2, c⟩, r⟩
  | own y => obtain ⟨ob, e⟩ := x; exact ⟨ob, k _ _ (.inl rfl) e⟩
  | xd fs => obtain ⟨mA, ⟨od, es, ep, e, c⟩, r⟩ := x; exact ⟨mA, ⟨od, es, ep, k _ _ (.inl rfl) e, c⟩, r⟩
  | rng lo hi => obtain ⟨t, u, v, e⟩ := x; exact ⟨t, u, v, k _ _ (.inl rfl) e⟩
  | frz ob u ih => obtain ⟨e, q⟩ := x; exact ⟨k _ _ (.inl rfl) e, ih q⟩
  | tbl ps =>
    have e : h.get? a = some { cls := .none, data := .fields ps } := x
    show h'.get? a = some { cls := .none, data := .fields ps }
    exact k a _ (.inl rfl) e
  | met f y =>
    have e : h.get? a = some (PySem.W.methodObj (.ref f) (.ref y)) := x
    show h'.get? a = some (PySem.W.methodObj (.ref f) (.ref y))
    exact k a _ (.inl rfl) e
  | ext φ => obtain ⟨p, ⟨o, e⟩, st⟩ := x; exact ⟨st _ _ p fun o q => k _ _ (.inl rfl) q, ⟨o, k _ _ (.inl rfl) e⟩, st⟩
private theorem HOk.lt (x : HOk P w H h) (e : H a = some o) : a < h.objs.size := (x a o e).lt
private theorem HOk.fresh (x : HOk P w H h) (e : h.objs.size ≤ a) : H a = none := by
  cases q : H a with
  | none => rfl
  | some u => exact absurd (Nat.lt_of_lt_of_le (x.lt q) e) (Nat.lt_irrefl _)
private theorem HOk.kept (x : HOk P w H h) (k : ∀ b u, h.get? b = some u → h'.get? b = some u) : HOk P w H h' := fun a o e =>
  (x a o e).stay (fun b u _ q => k b u q) (fun _ q => q) fun _ _ q => q
private theorem HOk.laid (x : HOk P w H h) (k : ∀ b u, h.get? b = some u → h'.get? b = some u) (hp : h.objs.size ≤ a) (new : ObjOk P w (upd H a o) h' a o) : HOk P w (upd H a o) h' := fun b u e => by
  have hn := x.fresh hp
  by_cases hb : b = a
  · subst hb; rw [upd_same] at e; cases e; exact new
  · rw [upd_ne hb] at e
    exact (x b u e).stay (fun c v _ q => k c v q) (fun c q => by rw [upd_ne (ne_of_none q hn)]; exact q) fun c xs q => by rw [upd_ne (ne_of_none q hn)]; exact q
end
noncomputable def Rd (H : Hp) (a : Addr) (u : HO) : Prop := H a = some u ∨ ∃ o, H a = some (.frz o u)
private theorem Rd.ok {P : Program} {w : World} {H : Hp} {h : Heap} {a : Addr} {u : HO} (r : Rd H a u) (x : HOk P w H h) : ObjOk P w H h a u := by
  rcases r with r | ⟨o, r⟩
  · exact x a u r
  · obtain ⟨_, q⟩ := x a _ r
    exact q
noncomputable def Mut : Option HO → Prop
  | some (.lst _) => True
  | some (.dK _) => True
  | some (.dT _) => True
  | some (.set _ _) => True
  | some (.ins _ _ _) => True
  | some (.ext _) => True
  | _ => False
section
variable {P : Program} {w : World} {H : Hp} {h h' : Heap} {x e : Addr} {o' : HO}
private theorem HOk.write (ok : HOk P w H h) (mu : Mut (H x)) (he : e = x ∨ H e = some (.own x)) (k : ∀ b u, b ≠ e → h.get? b = some u → h'.get? b = some u) (heo : ∃ u, h'.get? e = some u)
    (new : ObjOk P w (upd H x o') h' x o') : HOk P w (upd H x o') h' := fun b u q => by
  have nown : ∀ c y, H c = some (.own y) → c ≠ x := fun c y r z => by subst z; rw [r] at mu; exact mu
  have ntup : ∀ c xs, H c = some (.tup xs) → c ≠ x := fun c xs r z => by subst z; rw [r] at mu; exact mu
  by_cases hb : b = x
  · subst hb; rw [upd_same] at q; cases q; exact new
  · rw [upd_ne hb] at q
    by_cases hbe : b = e
    · have q' : H b = some (.own x) := by
        rcases he with z | z
        · exact absurd (hbe.trans z) hb
        · rw [hbe]; exact z
      rw [q] at q'; cases q'
      obtain ⟨v, hv⟩ := heo
      exact ⟨v, by rw [hbe]; exact hv⟩
    · refine (ok b u q).stay (fun c v hc r => k c v ?_ r) (fun c r => by rw [upd_ne (nown c b r)]; exact r) fun c xs r => by rw [upd_ne (ntup c xs r)]; exact r
      rcases hc with rfl | hc
      · exact hbe
      · rintro rfl
        rcases he with z | z
        · exact nown c b hc z
        · rw [hc] at z; cases z; exact hb rfl
end
structure Un (fs ex : List Addr) (H H' : Hp) (h h' : Heap) : Prop where
  keep : ∀ b o, h.get? b = some o → H b = none → b ∉ fs → b ∉ ex → h'.get? b = some o
  slot : ∀ b o, h.get? b = some o → H b = none → b ∈ fs → b ∉ ex → ∃ sl, h'.get? b = some { o with slots := sl }
  free : ∀ b o, h.get? b = some o → H b = none → b ∉ ex → H' b = none
  there : ∀ b o, h.get? b = some o → b ∉ ex → ∃ o', h'.get? b = some o'
  tups : ∀ b xs, H b = some (.tup xs) → H' b = some (.tup xs)
  frzs : ∀ b o u, H b = some (.frz o u) → H' b = some (.frz o u)
  tbls : ∀ b ps, H b = some (.tbl ps) → ∃ more, H' b = some (.tbl (ps ++ more))
section
variable {fs fs' ex ex' : List Addr} {H H1 H2 : Hp} {h h1 h2 h' : Heap} {a x e : Addr} {o : HO}
private theorem Un.any (u : Un fs ex H H1 h h1) {b : Addr} {ob : Obj} (q : h.get? b = some ob) (n : H b = none) (hx : b ∉ ex) : ∃ sl, h1.get? b = some { ob with slots := sl } := by
  by_cases hb : b ∈ fs
  · exact u.slot b ob q n hb hx
  · exact ⟨ob.slots, u.keep b ob q n hb hx⟩
private theorem Un.kept (k : ∀ b u, h.get? b = some u → h'.get? b = some u) : Un fs ex H H h h' :=
  ⟨fun b ob q _ _ _ => k b ob q, fun b ob q _ _ _ => ⟨ob.slots, k b ob q⟩, fun _ _ _ n _ => n, fun b ob q _ => ⟨ob, k b ob q⟩, fun _ _ q => q, fun _ _ _ q => q, fun _ ps q => ⟨#[], by rw [q]; simp⟩⟩
private theorem Un.refl : Un fs ex H H h h := Un.kept fun _ _ q => q
private theorem Un.laid (k : ∀ b u, h.get? b = some u → h'.get? b = some u) (hp : h.objs.size ≤ a) (hn : H a = none) : Un fs ex H (upd H a o) h h' where
  keep := fun b u q _ _ _ => k b u q
  slot := fun b u q _ _ _ => ⟨u.slots, k b u q⟩
  free := fun b u q n _ => by rw [upd_ne (Nat.ne_of_lt (Nat.lt_of_lt_of_le (Heap.lt_size q) hp))]; exact n
  there := fun b u q _ => ⟨u, k b u q⟩
  tups := fun b xs q => by rw [upd_ne (ne_of_none q hn)]; exact q
  frzs := fun b u xs q => by rw [upd_ne (ne_of_none q hn)]; exact q
  tbls := fun b ps q => ⟨#[], by rw [upd_ne (ne_of_none q hn), q]; simp⟩
private theorem Un.write (mu : Mut (H x)) (he : e = x ∨ H e = some (.own x)) (k : ∀ b u, b ≠ e → h.get? b = some u → h'.get? b = some u) (heo : ∃ u, h'.get? e = some u) : Un fs ex H (upd H x o) h h' := by
  have hx : ∀ b, H b = none → b ≠ x := fun b n z => by subst z; rw [n] at mu; exact mu
  have hb : ∀ b, H b = none → b ≠ e := fun b n z => by
    subst z
    rcases he with r | r
    · exact hx b n r
    · rw [n] at r; cases r
  have hm : ∀ b u, H b = some u → ¬ Mut (some u) → b ≠ x := fun b u q nm z => by subst z; rw [q] at mu; exact nm mu
  refine ⟨fun b u q n _ _ => k b u (hb b n) q, fun b u q n _ _ => ⟨u.slots, k b u (hb b n) q⟩, fun b u q n _ => by rw [upd_ne (hx b n)]; exact n, fun b u q _ => ?_,
    fun b xs q => by rw [upd_ne (hm b _ q fun z => z)]; exact q, fun b u xs q => by rw [upd_ne (hm b _ q fun z => z)]; exact q, fun b ps q => ⟨#[], by rw [upd_ne (hm b _ q fun z => z), q]; simp⟩⟩
  by_cases hbe : b = e
  · subst hbe; exact heo
  · exact ⟨u, k b u hbe q⟩
end
noncomputable def trk (h : Heap) (H : Hp) : List Addr := (List.range h.objs.size).filter fun a => (H a).isSome
noncomputable def hidT (h : Heap) (H : Hp) : Heap := PySem.W.hideAll h (trk h H)
private theorem hidT_size (h : Heap) (H : Hp) : (hidT h H).objs.size = h.objs.size := PySem.W.hideAll_size _ _
private theorem hidT_get {h : Heap} {H : Hp} {b : Addr} {o : Obj} (e : h.get? b = some o) (n : H b = none) : (hidT h H).get? b = some o :=
  PySem.W.hideAll_get _ e fun hm => by
    have q : (H b).isSome = true := (List.mem_filter.mp hm).2
    rw [n] at q; simp at q
private theorem of_hidT {h : Heap} {H : Hp} {b : Addr} {o : Obj} (e : (hidT h H).get? b = some o) : h.get? b = some o ∧ H b = none := by
  have e' : h.get? b = some o := PySem.W.of_hideAll (trk h H) e
  refine ⟨e', ?_⟩
  cases q : H b with
  | none => rfl
  | some x =>
    have hm : b ∈ trk h H := List.mem_filter.mpr ⟨List.mem_range.mpr (Heap.lt_size e'), by simp [q]⟩
    have z : (hidT h H).get? b = none := PySem.W.hideAll_none (trk h H) hm
    rw [z] at e; cases e
end L2
namespace L2
open PySem PySem.Spec PyProof.Rows
structure Mod (K : PySem.W.Frag) (mg : Str → Option Value) (base : Heap) : Prop where
  kin : K.In base
  glob : base.Ns mainGlobals mg
  blt : ∃ mb, base.Ns builtinsNs mb ∧ ∀ x : Str, x ≠ "__name__" → mb x = bootBuiltins x
  nolimit : base.NoLimit
structure Cx where
  prog : Program
  w : World
  K : PySem.W.Frag
  mg : Str → Option Value
  base : Heap
  A : Around
  N : List Str
  s₀ : Shared
  H₀ : Hp
  env : Env
  outer : List Env
  stack : List Env
  ex : List Addr
  fn : Str → Bool
  calm : Bool
  pn : List (Addr × Obj)
  xe : Value → Shared → Prop
noncomputable def frs (l : List Env) : List Addr := l.filterMap (·.frame)
noncomputable abbrev Cx.fs (X : Cx) : List Addr := frs X.outer
noncomputable def Vis (sc : Scope) (x : Str) : Prop := sc.names.lookup x = some .local ∨ sc.names.lookup x = some .cell ∨ sc.names.lookup x = some .free
noncomputable def Loc (sc : Scope) (x : Str) : Prop := sc.names.lookup x = some .local ∨ sc.names.lookup x = some .cell
noncomputable def Look (env : Env) (h : Heap) (m : Str → Option Value) (x : Str) (u : Value) : Prop :=
  (env.kindOf x = some .local ∧ m x = some u) ∨ ((env.kindOf x = some .cell ∨ env.kindOf x = some .free) ∧ ∃ c, env.cells.lookup x = some c ∧ h.IsCell c (some u))
structure Cx.Ok (X : Cx) : Prop where
  mod : Mod X.K X.mg X.base
  kind : X.env.scope.kind = .function
  glob : X.env.globals = mainGlobals
  blt : X.env.builtins = builtinsNs
  above : X.s₀.heap.objs.size ≤ X.env.locals
  inj : ∀ x y c, X.env.cells.lookup x = some c → X.env.cells.lookup y = some c → x = y
  has : ∀ x, (X.env.kindOf x = some .cell ∨ X.env.kindOf x = some .free) → ∃ c, X.env.cells.lookup x = some c
  cab : ∀ x c, X.fn x = true → X.env.cells.lookup x = some c → X.s₀.heap.objs.size ≤ c
  hd : X.calm = true → X.A.handled = none
  frames : X.A.frames = some X.stack
  stk : X.stack = X.outer ∨ (X.stack = X.env :: X.outer ∧ X.env.frame = some X.env.locals)
  exf : ∀ b ∈ X.ex, b ≠ X.env.locals ∧ ∀ x c, X.env.cells.lookup x = some c → c ≠ b
  bs : ∀ b o, X.base.get? b = some o → X.s₀.heap.get? b = some o ∧ X.H₀ b = none
  bsz : X.base.objs.size ≤ X.s₀.heap.objs.size
  noex : ∀ b o, X.base.get? b = some o → b ∉ X.ex
  exfs : ∀ b ∈ X.ex, b ∉ X.fs
  funs : X.s₀.heap.FunFrames X.base X.outer
  frf : ∀ b ∈ X.fs, X.H₀ b = none
structure Inv (X : Cx) (pins : List (Addr × Obj)) (σ : List (Option V)) (H : Hp) (s : Shared) : Prop where
  ok : X.Ok
  os : s.os = X.s₀.os
  bare : AllBare s.gens
  base : Un X.fs X.ex X.H₀ H X.s₀.heap s.heap
  loc : ∃ m, s.heap.Ns X.env.locals m ∧ ∀ (i : Nat) (x : Str) (v : V), X.N[i]? = some x → σ[i]? = some (some v) → Vis X.env.scope x → ∃ u, RelV v u ∧ Look X.env s.heap m x u
  cell : ∀ x c, X.env.cells.lookup x = some c → ∃ v, s.heap.IsCell c v
  free : H X.env.locals = none
  freeC : ∀ x c, X.env.cells.lookup x = some c → H c = none
  pin : ∀ p ∈ X.pn ++ pins, s.heap.get? p.1 = some p.2 ∧ H p.1 = none ∧ p.1 ≠ X.env.locals ∧ p.1 ∉ X.fs ∧ ∀ v, p.2.data ≠ .cell v
  hok : HOk X.prog X.w H s.heap
  len : σ.length = X.N.length
section
variable {X : Cx} {pins : List (Addr × Obj)} {σ : List (Option V)} {H H' : Hp} {s : Shared} {h' : Heap}
private theorem Cx.Ok.nofr (ok : X.Ok) {b : Addr} {o : Obj} (e : X.base.get? b = some o) : b ∉ X.fs := fun hb => by
  have := (ok.funs.mem hb).1
  rw [e] at this; cases this
private theorem Inv.bs (I : Inv X pins σ H s) : ∀ b o, X.base.get? b = some o → s.heap.get? b = some o ∧ H b = none := fun b o e =>
  ⟨I.base.keep b o (I.ok.bs b o e).1 (I.ok.bs b o e).2 (I.ok.nofr e) (I.ok.noex b o e), I.base.free b o (I.ok.bs b o e).1 (I.ok.bs b o e).2 (I.ok.noex b o e)⟩
private theorem Inv.bk (I : Inv X pins σ H s) : ∀ b o, X.base.get? b = some o → s.heap.get? b = some o := fun b o e => (I.bs b o e).1
private theorem Inv.mod (I : Inv X pins σ H s) : Mod X.K X.mg X.base := I.ok.mod
private theorem Inv.kIn (I : Inv X pins σ H s) : X.K.In s.heap := I.ok.mod.kin.keeps I.bk
private theorem Inv.lt (I : Inv X pins σ H s) : X.env.locals < s.heap.objs.size := let ⟨_, hn, _⟩ := I.loc; hn.lt
private theorem Inv.sz (I : Inv X pins σ H s) : X.s₀.heap.objs.size ≤ s.heap.objs.size := Nat.le_trans I.ok.above (Nat.le_of_lt I.lt)
private theorem Inv.nofs (I : Inv X pins σ H s) {a : Addr} (h : s.heap.objs.size ≤ a) : a ∉ X.fs := fun hb => by
  obtain ⟨_, o, ho, _⟩ := I.ok.funs.mem hb
  exact absurd (Nat.lt_of_lt_of_le (Heap.lt_size ho) (Nat.le_trans I.sz h)) (Nat.lt_irrefl _)
private theorem Inv.cne (I : Inv X pins σ H s) : ∀ x c, X.env.cells.lookup x = some c → c ≠ X.env.locals := fun x c e z => by
  obtain ⟨v, o, ho, hd⟩ := I.cell x c e
  obtain ⟨m, ⟨o', es, ep, ho', hd', _⟩, _⟩ := I.loc
  rw [z, ho'] at ho; cases ho; rw [hd'] at hd; cases hd
private theorem Inv.funs (I : Inv X pins σ H s) : s.heap.FunFrames X.base X.outer := by
  have all : ∀ (l : List Env), (∀ b ∈ frs l, b ∈ X.fs) → X.s₀.heap.FunFrames X.base l → s.heap.FunFrames X.base l := by
    intro l
    induction l with
    | nil => intro _ _; trivial
    | cons env r ih =>
      intro hs hl
      obtain ⟨hk, ⟨L, o, hf, hn, ho, hd⟩, hr⟩ := hl
      have hL : L ∈ X.fs := hs L (by unfold frs; rw [List.filterMap_cons, hf]; exact List.mem_cons_self)
      obtain ⟨sl, e⟩ := I.base.slot L o ho (I.ok.frf L hL) hL fun z => I.ok.exfs L z hL
      exact ⟨hk, ⟨L, _, hf, hn, e, hd⟩, ih (fun b hb => hs b (by unfold frs; rw [List.filterMap_cons, hf]; exact List.mem_cons_of_mem _ hb)) hr⟩
  exact all X.outer (fun _ hb => hb) I.ok.funs
private theorem Inv.stack (I : Inv X pins σ H s) : s.heap.FunFrames X.base X.stack := by
  rcases I.ok.stk with e | ⟨e, hf⟩
  · rw [e]; exact I.funs
  · rw [e]
    obtain ⟨m, hn, _⟩ := I.loc
    refine .cons (by rw [I.ok.kind]; decide) hf hn ?_ I.funs
    exact Heap.get?_none_of_le (Nat.le_trans I.ok.bsz I.ok.above)
private theorem Inv.stkSub (I : Inv X pins σ H s) : ∀ b ∈ frs X.stack, b ∈ X.env.locals :: X.fs := fun b hb => by
  rcases I.ok.stk with e | ⟨e, hf⟩
  · rw [e] at hb; exact List.mem_cons_of_mem _ hb
  · rw [e] at hb
    unfold frs at hb
    rw [List.filterMap_cons, hf] at hb
    exact hb
private theorem Inv.stkFree (I : Inv X pins σ H s) : ∀ b ∈ frs X.stack, H b = none := fun b hb => by
  rcases List.mem_cons.mp (I.stkSub b hb) with e | hb
  · rw [e]; exact I.free
  · obtain ⟨_, o, ho, _⟩ := I.ok.funs.mem hb
    exact I.base.free b o ho (I.ok.frf b hb) fun z => I.ok.exfs b z hb
private theorem Inv.step {g' : Array GenState} {t' : Nat} {d' : Drawn} {ch : List Addr} (I : Inv X pins σ H s)
    (hch : ∀ b ∈ ch, (b ∈ X.ex ∨ X.s₀.heap.objs.size ≤ b) ∧ b ≠ X.env.locals ∧ (∀ x c, X.env.cells.lookup x = some c → c ≠ b) ∧ ∀ p ∈ X.pn ++ pins, p.1 ≠ b)
    (keep : ∀ b o, b ≠ X.env.locals → b ∉ X.fs → b ∉ ch → s.heap.get? b = some o → H b = none → h'.get? b = some o)
    (slot : ∀ b o, b ≠ X.env.locals → b ∈ X.fs → b ∉ ch → s.heap.get? b = some o → H b = none → ∃ sl, h'.get? b = some { o with slots := sl }) (free : ∀ b o, b ∉ ch → s.heap.get? b = some o → H b = none → H' b = none)
    (there : ∀ b o, b ∉ ch → s.heap.get? b = some o → ∃ o', h'.get? b = some o')
    (tups : ∀ b xs, H b = some (.tup xs) → H' b = some (.tup xs)) (frzs : ∀ b o u, H b = some (.frz o u) → H' b = some (.frz o u)) (tbls : ∀ b ps, H b = some (.tbl ps) → ∃ more, H' b = some (.tbl (ps ++ more)))
    (ns : ∀ m, s.heap.Ns X.env.locals m → h'.Ns X.env.locals m) (hok : HOk X.prog X.w H' h') (hg : AllBare g') :
    Inv X pins σ H' { s with heap := h', gens := g', drawn := d', toks := t' } := by
  have neL : ∀ b o, X.s₀.heap.get? b = some o → b ≠ X.env.locals := fun b o e => Nat.ne_of_lt (Nat.lt_of_lt_of_le (Heap.lt_size e) I.ok.above)
  have neC : ∀ b o, X.s₀.heap.get? b = some o → b ∉ X.ex → b ∉ ch := fun b o e hx hb => by
    rcases (hch b hb).1 with z | z
    · exact hx z
    · exact absurd (Nat.lt_of_lt_of_le (Heap.lt_size e) z) (Nat.lt_irrefl _)
  have cellK : ∀ x c, X.env.cells.lookup x = some c → ∀ v, s.heap.IsCell c v → h'.IsCell c v := fun x c e v ⟨o, ho, hd⟩ => by
    have nch : c ∉ ch := fun z => (hch c z).2.2.1 x c e rfl
    by_cases hc : c ∈ X.fs
    · obtain ⟨sl, q⟩ := slot c o (I.cne x c e) hc nch ho (I.freeC x c e)
      exact ⟨_, q, hd⟩
    · exact ⟨o, keep c o (I.cne x c e) hc nch ho (I.freeC x c e), hd⟩
  refine ⟨I.ok, I.os, hg, ⟨fun b o e n hb hx => ?_, fun b o e n hb hx => ?_, fun b o e n hx => ?_, fun b o e hx => ?_, fun b xs e => tups b xs (I.base.tups b xs e), fun b o xs e => frzs b o xs (I.base.frzs b o xs e), fun b ps e => ?_⟩, ?_, fun x c e => ?_, ?_, fun x c e => ?_, fun p hp => ?_, hok, I.len⟩
  · exact keep b o (neL b o e) hb (neC b o e hx) (I.base.keep b o e n hb hx) (I.base.free b o e n hx)
  · obtain ⟨sl, e1⟩ := I.base.slot b o e n hb hx
    obtain ⟨sl', e2⟩ := slot b _ (neL b o e) hb (neC b o e hx) e1 (I.base.free b o e n hx)
    exact ⟨sl', e2⟩
  · obtain ⟨o', e1⟩ := I.base.there b o e hx
    exact free b o' (neC b o e hx) e1 (I.base.free b o e n hx)
  · obtain ⟨o', e1⟩ := I.base.there b o e hx
    exact there b o' (neC b o e hx) e1
  · obtain ⟨m1, e1⟩ := I.base.tbls b ps e
    obtain ⟨m2, e2⟩ := tbls b _ e1
    exact ⟨m1 ++ m2, by rw [e2, Array.append_assoc]⟩
  · obtain ⟨m, hn, hl⟩ := I.loc
    refine ⟨m, ns m hn, fun i x v e1 e2 e3 => ?_⟩
    obtain ⟨u, r, l⟩ := hl i x v e1 e2 e3
    refine ⟨u, r, ?_⟩
    rcases l with l | ⟨k, c, e, z⟩
    · exact .inl l
    · exact .inr ⟨k, c, e, cellK x c e _ z⟩
  · obtain ⟨v, z⟩ := I.cell x c e
    exact ⟨v, cellK x c e v z⟩
  · obtain ⟨m, ⟨o, _, _, ho, _⟩, _⟩ := I.loc
    exact free _ o (fun z => (hch _ z).2.1 rfl) ho I.free
  · obtain ⟨v, o, ho, hd⟩ := I.cell x c e
    exact free c o (fun z => (hch c z).2.2.1 x c e rfl) ho (I.freeC x c e)
  · obtain ⟨e, n, ne, nf, d⟩ := I.pin p hp
    have nch : p.1 ∉ ch := fun z => (hch p.1 z).2.2.2 p hp rfl
    exact ⟨keep p.1 p.2 ne nf nch e n, free p.1 p.2 nch e n, ne, nf, d⟩
private theorem Inv.un {t' : Nat} (I : Inv X pins σ H s) (u : Un X.fs [] H H' s.heap h') (hok : HOk X.prog X.w H' h') : Inv X pins σ H' { s with heap := h', toks := t' } := by
  obtain ⟨m, ⟨o, es, ep, ho, r⟩, _⟩ := id I.loc
  obtain ⟨sl, hL⟩ := u.any ho I.free (by simp)
  exact I.step (g' := s.gens) (d' := s.drawn) (ch := []) (fun _ z => nomatch z) (fun b o _ hb _ e n => u.keep b o e n hb (by simp)) (fun b o _ hb _ e n => u.slot b o e n hb (by simp)) (fun b o _ e n => u.free b o e n (by simp)) (fun b o _ e => u.there b o e (by simp)) u.tups u.frzs u.tbls (fun m' hm => by
    obtain ⟨o', es', ep', ho', r'⟩ := hm
    rw [ho] at ho'; cases ho'
    exact ⟨_, es', ep', hL, r'⟩) hok I.bare
private theorem Inv.call {g' : Array GenState} {t' : Nat} {d' : Drawn} {ch : List Addr} (I : Inv X pins σ H s) (u : Un (frs X.stack) ch H H' s.heap h') (hok : HOk X.prog X.w H' h') (hg : AllBare g')
    (hch : ∀ b ∈ ch, (b ∈ X.ex ∨ X.s₀.heap.objs.size ≤ b) ∧ b ≠ X.env.locals ∧ (∀ x c, X.env.cells.lookup x = some c → c ≠ b) ∧ ∀ p ∈ X.pn ++ pins, p.1 ≠ b) :
    Inv X pins σ H' { s with heap := h', gens := g', drawn := d', toks := t' } := by
  obtain ⟨m, ⟨o, es, ep, ho, r⟩, _⟩ := id I.loc
  obtain ⟨sl, hL⟩ := u.any ho I.free fun z => (hch _ z).2.1 rfl
  exact I.step (ch := ch) hch (fun b o hL hb hc e n => u.keep b o e n (fun z => (List.mem_cons.mp (I.stkSub b z)).elim hL hb) hc) (fun b o _ _ hc e n => u.any e n hc) (fun b o hc e n => u.free b o e n hc) (fun b o hc e => u.there b o e hc) u.tups u.frzs u.tbls (fun m' hm => by
    obtain ⟨o', es', ep', ho', r'⟩ := hm
    rw [ho] at ho'; cases ho'
    exact ⟨_, es', ep', hL, r'⟩) hok hg
private theorem Inv.turned {t' : Nat} {it : Addr} (I : Inv X pins σ H s) (k : ∀ b o, b ≠ it → s.heap.get? b = some o → h'.get? b = some o) (hn : H it = none) (hL : it ≠ X.env.locals)
    (h1 : it ∈ X.ex ∨ X.s₀.heap.objs.size ≤ it) (h2 : ∀ x c, X.env.cells.lookup x = some c → c ≠ it) (h3 : ∀ p ∈ X.pn ++ pins, p.1 ≠ it) : Inv X pins σ H { s with heap := h', toks := t' } := by
  have nit : ∀ b u, H b = some u → b ≠ it := fun b u e z => by rw [z, hn] at e; cases e
  refine I.step (g' := s.gens) (d' := s.drawn) (ch := [it]) (fun b hb => ?_) (fun b o _ _ hc e _ => k b o (fun z => hc (by simp [z])) e) (fun b o _ _ hc e _ => ⟨o.slots, k b o (fun z => hc (by simp [z])) e⟩) (fun _ _ _ _ n => n)
    (fun b o hc e => ⟨o, k b o (fun z => hc (by simp [z])) e⟩) (fun _ _ e => e) (fun _ _ _ e => e) (fun b ps e => ⟨#[], by rw [e]; simp⟩) (fun m hm => ?_) (fun b u e => ?_) I.bare
  · have e : b = it := by simpa using hb
    subst e
    exact ⟨h1, hL, h2, h3⟩
  · obtain ⟨o, es, ep, ho, r⟩ := hm
    exact ⟨o, es, ep, k _ o (Ne.symm hL) ho, r⟩
  · refine (I.hok b u e).stay (fun c v hc q => k c v ?_ q) (fun _ q => q) fun _ _ q => q
    rcases hc with z | z
    · rw [z]; exact nit b u e
    · exact nit c _ z
private theorem Inv.tok (I : Inv X pins σ H s) (t : Nat) : Inv X pins σ H { s with toks := t } := I.un (h' := s.heap) (t' := t) Un.refl I.hok
private theorem Inv.kept {t' : Nat} (I : Inv X pins σ H s) (k : ∀ b u, s.heap.get? b = some u → h'.get? b = some u) : Inv X pins σ H { s with heap := h', toks := t' } := I.un (Un.kept k) (I.hok.kept k)
private theorem Inv.laid {a : Addr} {o : HO} {t' : Nat} (I : Inv X pins σ H s) (k : ∀ b u, s.heap.get? b = some u → h'.get? b = some u) (hp : s.heap.objs.size ≤ a) (new : ObjOk X.prog X.w (upd H a o) h' a o) :
    Inv X pins σ (upd H a o) { s with heap := h', toks := t' } := I.un (Un.laid k hp (I.hok.fresh hp)) (I.hok.laid k hp new)
private theorem Inv.write {x e : Addr} {o : HO} {t' : Nat} (I : Inv X pins σ H s) (mu : Mut (H x)) (he : e = x ∨ H e = some (.own x)) (k : ∀ b u, b ≠ e → s.heap.get? b = some u → h'.get? b = some u) (heo : ∃ u, h'.get? e = some u)
    (new : ObjOk X.prog X.w (upd H x o) h' x o) : Inv X pins σ (upd H x o) { s with heap := h', toks := t' } := I.un (Un.write mu he k heo) (I.hok.write mu he k heo new)
private theorem Inv.pins_of {pins' : List (Addr × Obj)} (I : Inv X pins σ H s) (h : ∀ p ∈ pins', s.heap.get? p.1 = some p.2 ∧ H p.1 = none ∧ p.1 ≠ X.env.locals ∧ p.1 ∉ X.fs ∧ ∀ v, p.2.data ≠ .cell v) : Inv X pins' σ H s :=
  ⟨I.ok, I.os, I.bare, I.base, I.loc, I.cell, I.free, I.freeC, fun p hp => (List.mem_append.mp hp).elim (fun z => I.pin p (List.mem_append_left _ z)) (h p), I.hok, I.len⟩
private theorem nodup_ix {N : List Str} (hN : N.Nodup) {i j : Nat} {x : Str} (a : N[i]? = some x) (b : N[j]? = some x) : i = j := by
  obtain ⟨h1, e1⟩ := List.getElem?_eq_some_iff.mp a
  obtain ⟨h2, e2⟩ := List.getElem?_eq_some_iff.mp b
  exact (List.getElem_inj hN).mp (e1.trans e2.symm)
private theorem store_ok2 {M : Model} {A : Around} {E : Value → Shared → Prop} {i : Nat} {x : Str} {v : V} {u : Value} {Q : Unit → Shared → Prop} (I : Inv X pins σ H s) (hN : X.N.Nodup) (hi : X.N[i]? = some x) (hx : Loc X.env.scope x) (r : RelV v u)
    (h : ∀ s', Inv X pins (σ.set i (some v)) H s' → (∃ a, Heap.SameBut a s.heap s'.heap ∧ (a = X.env.locals ∨ X.env.cells.lookup x = some a)) → Q () s') (hf : X.fn x = true ∨ X.env.scope.names.lookup x = some .local := by first | exact .inl rfl | exact .inr rfl | assumption) : wpAny M A (storeName X.env x u) Q E s := by
  obtain ⟨m, hn, hl⟩ := id I.loc
  have hcls : (X.env.scope.kind == .class || (X.env.scope.kind == .module && X.env.locals != X.env.globals)) = false := by rw [I.ok.kind]; rfl
  have hiσ : i < σ.length := by rw [I.len]; exact (List.getElem?_eq_some_iff.mp hi).1
  have cne := I.cne
  have tracked : ∀ {a : Addr} {h' : Heap}, (∃ o, s.heap.get? a = some o ∧ H a = none) → Heap.SameBut a s.heap h' → HOk X.prog X.w H h' := fun {a h'} ha hs b ob e => by
    obtain ⟨_, _, hfree⟩ := ha
    refine (I.hok b ob e).stay (fun c w' hc q => (hs.2 c ?_).trans q) (fun _ q => q) fun _ _ q => q
    rintro rfl
    rcases hc with rfl | hc
    · rw [hfree] at e; cases e
    · rw [hfree] at hc; cases hc
  rcases hx with hk | hk
  · refine wpAny_storeName_local hk hn (fun h' hn' hs => ?_) hcls
    obtain ⟨oL, _, _, hoL, _⟩ := id hn
    refine h _ ⟨I.ok, I.os, I.bare, ⟨fun b o e n hb hx => ?_, fun b o e n hb hx => ?_, I.base.free, fun b o e hx => ?_, I.base.tups, I.base.frzs, I.base.tbls⟩, ⟨_, hn', fun j y v' e1 e2 e3 => ?_⟩, fun y c e => ?_, I.free, I.freeC, fun p hp => ?_, tracked ⟨oL, hoL, I.free⟩ hs, by simpa using I.len⟩ ⟨_, hs, .inl rfl⟩
    · exact (hs.2 b (Nat.ne_of_lt (Nat.lt_of_lt_of_le (Heap.lt_size e) I.ok.above))).trans (I.base.keep b o e n hb hx)
    · obtain ⟨sl, e1⟩ := I.base.slot b o e n hb hx
      exact ⟨sl, (hs.2 b (Nat.ne_of_lt (Nat.lt_of_lt_of_le (Heap.lt_size e) I.ok.above))).trans e1⟩
    · obtain ⟨o', e1⟩ := I.base.there b o e hx
      exact ⟨o', (hs.2 b (Nat.ne_of_lt (Nat.lt_of_lt_of_le (Heap.lt_size e) I.ok.above))).trans e1⟩
    · by_cases hj : j = i
      · subst hj
        rw [hi] at e1; cases e1
        rw [List.getElem?_set_self hiσ] at e2
        cases e2
        exact ⟨u, r, .inl ⟨hk, by simp⟩⟩
      · rw [List.getElem?_set_ne (Ne.symm hj)] at e2
        obtain ⟨u', r', q⟩ := hl j y v' e1 e2 e3
        refine ⟨u', r', ?_⟩
        rcases q with ⟨k, e⟩ | ⟨k, c, e, z⟩
        · refine .inl ⟨k, ?_⟩
          have : y ≠ x := fun e => hj (nodup_ix hN e1 (e ▸ hi))
          simp [this, e]
        · exact .inr ⟨k, c, e, z.sameBut hs (cne y c e)⟩
    · obtain ⟨w', z⟩ := I.cell y c e
      exact ⟨w', z.sameBut hs (cne y c e)⟩
    · obtain ⟨e, n, ne, nf, d⟩ := I.pin p hp
      exact ⟨(hs.2 p.1 ne).trans e, n, ne, nf, d⟩
  · have hfn : X.fn x = true := by
      rcases hf with z | z
      · exact z
      · rw [z] at hk; cases hk
    obtain ⟨c, hc⟩ := I.ok.has x (.inl hk)
    obtain ⟨w', z⟩ := I.cell x c hc
    refine wpAny_storeName_cell I.ok.kind hk hc z (fun h' hc' hs => ?_)
    obtain ⟨oc, hoc, hocd⟩ := id z
    refine h { s with heap := h' } ⟨I.ok, I.os, I.bare, ⟨fun b o e n hb hx => ?_, fun b o e n hb hx => ?_, I.base.free, fun b o e hx => ?_, I.base.tups, I.base.frzs, I.base.tbls⟩, ⟨m, hn.sameBut hs (Ne.symm (cne x c hc)), fun j y v' e1 e2 e3 => ?_⟩, fun y c' e => ?_, I.free, I.freeC, fun p hp => ?_, tracked ⟨oc, hoc, I.freeC x c hc⟩ hs, by simpa using I.len⟩ ⟨c, hs, .inr hc⟩
    · exact (hs.2 b (Nat.ne_of_lt (Nat.lt_of_lt_of_le (Heap.lt_size e) (I.ok.cab x c hfn hc)))).trans (I.base.keep b o e n hb hx)
    · obtain ⟨sl, e1⟩ := I.base.slot b o e n hb hx
      exact ⟨sl, (hs.2 b (Nat.ne_of_lt (Nat.lt_of_lt_of_le (Heap.lt_size e) (I.ok.cab x c hfn hc)))).trans e1⟩
    · obtain ⟨o', e1⟩ := I.base.there b o e hx
      exact ⟨o', (hs.2 b (Nat.ne_of_lt (Nat.lt_of_lt_of_le (Heap.lt_size e) (I.ok.cab x c hfn hc)))).trans e1⟩
    · by_cases hj : j = i
      · subst hj
        rw [hi] at e1; cases e1
        rw [List.getElem?_set_self hiσ] at e2
        cases e2
        exact ⟨u, r, .inr ⟨.inl hk, c, hc, hc'⟩⟩
      · rw [List.getElem?_set_ne (Ne.symm hj)] at e2
        obtain ⟨u', r', q⟩ := hl j y v' e1 e2 e3
        refine ⟨u', r', ?_⟩
        rcases q with q | ⟨k, c', e, z'⟩
        · exact .inl q
        · refine .inr ⟨k, c', e, z'.sameBut hs ?_⟩
          rintro rfl
          exact hj (nodup_ix hN e1 (I.ok.inj _ _ _ e hc ▸ hi))
    · by_cases hcc : c' = c
      · subst hcc; exact ⟨_, hc'⟩
      · obtain ⟨w2, z2⟩ := I.cell y c' e
        exact ⟨w2, z2.sameBut hs hcc⟩
    · obtain ⟨e, n, ne, nf, d⟩ := I.pin p hp
      refine ⟨(hs.2 p.1 ?_).trans e, n, ne, nf, d⟩
      intro q
      rw [q, hoc] at e
      have q' : oc = p.2 := Option.some.inj e
      exact d w' (by rw [← q']; exact hocd)
private theorem store_ok {M : Model} {A : Around} {E : Value → Shared → Prop} {i : Nat} {x : Str} {v : V} {u : Value} {Q : Unit → Shared → Prop} (I : Inv X pins σ H s) (hN : X.N.Nodup) (hi : X.N[i]? = some x) (hx : Loc X.env.scope x) (r : RelV v u)
    (h : ∀ s', Inv X pins (σ.set i (some v)) H s' → Q () s') (hf : X.fn x = true ∨ X.env.scope.names.lookup x = some .local := by first | exact .inl rfl | exact .inr rfl | assumption) : wpAny M A (storeName X.env x u) Q E s :=
  store_ok2 I hN hi hx r (fun s' I' _ => h s' I') hf
private theorem Inv.call' {s' : Shared} {ch : List Addr} (I : Inv X pins σ H s) (ho : s'.os = s.os) (u : Un (frs X.stack) ch H H' s.heap s'.heap) (hok : HOk X.prog X.w H' s'.heap) (hg : AllBare s'.gens)
    (hch : ∀ b ∈ ch, (b ∈ X.ex ∨ X.s₀.heap.objs.size ≤ b) ∧ b ≠ X.env.locals ∧ (∀ x c, X.env.cells.lookup x = some c → c ≠ b) ∧ ∀ p ∈ X.pn ++ pins, p.1 ≠ b) : Inv X pins σ H' s' := by
  obtain ⟨h', g', d', t', o'⟩ := s'
  have e : o' = s.os := ho
  subst e
  exact I.call (g' := g') (t' := t') (d' := d') u hok hg hch
end
noncomputable abbrev XK := Value → Option Addr → Hp → Prop
noncomputable abbrev St := List (Option V)
noncomputable abbrev VK := V → Hp → Prop
noncomputable abbrev TE := St → Hp → VK → Prop
noncomputable abbrev TT := St → Hp → (Bool → Hp → Prop) → Prop
noncomputable abbrev TA := St → Hp → (List V → Hp → Prop) → Prop
structure Ends where
  nx : St → Hp → Prop
  rt : VK
  bk : St → Hp → Prop := fun _ _ => False
  ct : St → Hp → Prop := fun _ _ => False
noncomputable abbrev TS := Ends → St → Hp → Prop
noncomputable def EP (X : Cx) (pins : List (Addr × Obj)) (σ : St) (Q : VK) (u : Value) (s' : Shared) : Prop := ∃ v H', Inv X pins σ H' s' ∧ RelV v u ∧ Q v H'
noncomputable def TP (X : Cx) (pins : List (Addr × Obj)) (σ : St) (Q : Bool → Hp → Prop) (b : Bool) (s' : Shared) : Prop := ∃ H', Inv X pins σ H' s' ∧ Q b H'
noncomputable def AP (X : Cx) (pins : List (Addr × Obj)) (σ : St) (Q : List V → Hp → Prop) (us : List Value) (s' : Shared) : Prop := ∃ vs H', Inv X pins σ H' s' ∧ Vals vs us ∧ Q vs H'
noncomputable def SP (X : Cx) (pins : List (Addr × Obj)) (D : Ends) (f : Flow) (s' : Shared) : Prop :=
  match f with
  | .next => ∃ σ' H', Inv X pins σ' H' s' ∧ D.nx σ' H'
  | .brk => ∃ σ' H', Inv X pins σ' H' s' ∧ D.bk σ' H'
  | .cont => ∃ σ' H', Inv X pins σ' H' s' ∧ D.ct σ' H'
  | .ret u => ∃ v σ' H', Inv X pins σ' H' s' ∧ RelV v u ∧ D.rt v H'
noncomputable def PE (X : Cx) (e : Expr) (t : TE) : Prop :=
  ∀ (pins : List (Addr × Obj)) (s : Shared) (σ : St) (H : Hp) (Q : VK), Inv X pins σ H s → t σ H Q → wpAny (model X.prog X.w) X.A (eval e X.env) (EP X pins σ Q) X.xe s
noncomputable def PT (X : Cx) (e : Expr) (t : TT) : Prop :=
  ∀ (pins : List (Addr × Obj)) (s : Shared) (σ : St) (H : Hp) (Q : Bool → Hp → Prop), Inv X pins σ H s → t σ H Q → wpAny (model X.prog X.w) X.A (isTrue e X.env (eval e X.env)) (TP X pins σ Q) X.xe s
noncomputable def PW (X : Cx) (e : Expr) (t : TT) : Prop :=
  ∀ (whole : Sem Value) (pins : List (Addr × Obj)) (s : Shared) (σ : St) (H : Hp) (Q : Bool → Hp → Prop), Inv X pins σ H s → t σ H Q → wpAny (model X.prog X.w) X.A (isTrue e X.env whole) (TP X pins σ Q) X.xe s
private theorem PW.pt {X : Cx} {e : Expr} {t : TT} (h : PW X e t) : PT X e t := h _
noncomputable def PA (X : Cx) (es : List Expr) (t : TA) : Prop :=
  ∀ (pos : Pos) (pins : List (Addr × Obj)) (s : Shared) (σ : St) (H : Hp) (Q : List V → Hp → Prop), Inv X pins σ H s → t σ H Q → wpAny (model X.prog X.w) X.A (spliced (backTo pos (starEach es X.env))) (AP X pins σ Q) X.xe s
noncomputable def PS (X : Cx) (st : Stmt) (t : TS) : Prop :=
  ∀ (pins : List (Addr × Obj)) (s : Shared) (σ : St) (H : Hp) (D : Ends), Inv X pins σ H s → t D σ H → wpAny (model X.prog X.w) X.A (exec st X.env) (SP X pins D) X.xe s
noncomputable def PSs (X : Cx) (st : List Stmt) (t : TS) : Prop :=
  ∀ (pins : List (Addr × Obj)) (s : Shared) (σ : St) (H : Hp) (D : Ends), Inv X pins σ H s → t D σ H → wpAny (model X.prog X.w) X.A (execs st X.env) (SP X pins D) X.xe s
private theorem thn {α : Type} {t : Sem α} {Q Q' : α → Shared → Prop} {M : Model} {A : Around} {E : Value → Shared → Prop} {s : Shared} (h : wpAny M A t Q E s) (hQ : ∀ a s, Q a s → Q' a s) : wpAny M A t Q' E s := wpAny_mono h hQ fun _ _ x => x
end L2
namespace L2
open PySem PySem.Spec PyProof.Rows
section
variable {X : Cx}
noncomputable def tVar (i : Nat) : TE := fun σ H Q => ∃ v, σ[i]? = some (some v) ∧ Q v H
noncomputable def tC (v : V) : TE := fun _ H Q => Q v H
private theorem pe_var {i : Nat} {x : Str} {pos : Pos} (hN : X.N[i]? = some x) (hv : Vis X.env.scope x) (hd : (x == ("__debug__" : Str)) = false := by decide) (hcd : (x == ("__classdict__" : Str)) = false := by decide) : PE X (.Name x pos) (tVar i) := by
  intro pins s σ H Q I h
  obtain ⟨v, e, h⟩ := h
  obtain ⟨m, hn, hl⟩ := I.loc
  obtain ⟨u, r, l⟩ := hl i x v hN e hv
  have fin : EP X pins σ Q u s := ⟨v, H, I, r, h⟩
  rcases l with ⟨hk, hm⟩ | ⟨hk, c, hc, hcell⟩
  · exact wpAny_Name (wpAny_loadName_local I.ok.kind hk hn hm fin) hd
  · rcases hk with hk | hk
    · exact wpAny_Name (wpAny_loadName_cell I.ok.kind hk hc hcell fin) hd
    · exact wpAny_Name (wpAny_loadName_free I.ok.kind hk hc hcell fin hcd) hd
private theorem pe_int {i j pos} : PE X (.Constant (.int i) j pos) (tC (.int i)) := fun _ _ _ H _ I h => wpAny_Constant_int ⟨.int i, H, I.tok _, ⟨_, rfl⟩, h⟩
private theorem pe_bl {b j pos} : PE X (.Constant (.bool b) j pos) (tC (.bl b)) := fun _ _ _ H _ I h => Constant_bool ⟨.bl b, H, I, rfl, h⟩
private theorem pe_non {j pos} : PE X (.Constant .none j pos) (tC .non) := fun _ _ _ H _ I h => Constant_none ⟨.non, H, I, rfl, h⟩
private theorem pe_str {x j pos} : PE X (.Constant (.str x) j pos) (tC (.str x)) := fun _ _ _ H _ I h => Calls.Constant_str ⟨.str x, H, I.tok _, ⟨_, rfl⟩, h⟩
noncomputable def Gl (X : Cx) (x : Str) : Prop := X.env.kindOf x = some .globalImplicit
private theorem ld_glob {E : Value → Shared → Prop} {pins : List (Addr × Obj)} {s : Shared} {σ : St} {H : Hp} {x : Str} {u : Value} {pos : Pos} {Q : Value → Shared → Prop} (I : Inv X pins σ H s) (hg : Gl X x) (hm : X.mg x = some u) (h : Q u s)
    (hd : (x == ("__debug__" : Str)) = false := by decide) : wpAny (model X.prog X.w) X.A (eval (.Name x pos) X.env) Q E s :=
  Calls.Name_function_global I.ok.kind hg (Calls.loadGlobal_global (by rw [I.ok.glob]; exact I.mod.glob.keeps I.bk) hm h) hd
private theorem ld_blt {E : Value → Shared → Prop} {pins : List (Addr × Obj)} {s : Shared} {σ : St} {H : Hp} {x : Str} {u : Value} {pos : Pos} {Q : Value → Shared → Prop} (I : Inv X pins σ H s) (hg : Gl X x) (hm : X.mg x = none) (hv : bootBuiltins x = some u) (h : Q u s)
    (hn : x ≠ "__name__" := by decide) (hd : (x == ("__debug__" : Str)) = false := by decide) : wpAny (model X.prog X.w) X.A (eval (.Name x pos) X.env) Q E s := by
  obtain ⟨mb, h1, h2⟩ := I.mod.blt
  exact Calls.Name_function_global I.ok.kind hg (Calls.loadGlobal_builtin (by rw [I.ok.glob]; exact I.mod.glob.keeps I.bk) hm (by rw [I.ok.blt]; exact h1.keeps I.bk) ((h2 x hn).trans hv) h) hd
private theorem pe_glob {x : Str} {v : V} {u : Value} {pos : Pos} (hg : Gl X x) (hm : X.mg x = some u) (r : RelV v u) (hd : (x == ("__debug__" : Str)) = false := by decide) : PE X (.Name x pos) (tC v) :=
  fun _ _ _ H _ I h => ld_glob I hg hm ⟨v, H, I, r, h⟩ hd
variable {a b : Expr} {ta tb : TE} {pos : Pos}
noncomputable def tB (t : TE) : TT := fun σ H Q => t σ H fun x H1 => ∃ c, x = .bl c ∧ Q c H1
private theorem pt_val {e : Expr} {t : TE} (h : PE X e t) (he : ∀ whole, isTrue e X.env whole = (do let v ← whole; standAt e.pos; holding [v] (truthy v)) := by intro _; rfl) : PT X e (tB t) := by
  intro pins s σ H Q I hw
  refine isTrue_plain (thn (h pins s σ H _ I hw) fun v s1 zz7 => e23 zz7 fun x H1 I1 r1 q1 => ?_) (he _)
  obtain ⟨d, rfl, q⟩ := q1
  cases r1
  exact wpAny_truthy_bool ⟨H1, I1, q⟩
variable {tA tB' : TT} {rest : List Expr}
noncomputable def tOr (t u : TT) : TT := fun σ H Q => t σ H fun c H1 => if c = true then Q true H1 else u σ H1 Q
noncomputable def tNot (t : TT) : TT := fun σ H Q => t σ H fun c H1 => Q (!c) H1
private theorem pw_or1 (ha : PT X a tA) : PW X (.BoolOp .Or [a] pos) tA := by
  intro wh pins s σ H Q I h
  refine isTrue_or (thn (ha pins s σ H Q I h) fun c s1 e => ?_)
  cases c with
  | false => exact isTrue_or_nil e
  | true => exact e
private theorem pw_or (ha : PT X a tA) (hb : PW X (.BoolOp .Or (b :: rest) pos) tB') : PW X (.BoolOp .Or (a :: b :: rest) pos) (tOr tA tB') := by
  intro wh pins s σ H Q I h
  refine isTrue_or (thn (ha pins s σ H _ I h) fun c s1 zz9 => e12 zz9 fun H1 I1 q1 => ?_)
  cases c with
  | true => exact ⟨H1, I1, q1⟩
  | false => exact hb wh pins s1 σ H1 Q I1 q1
private theorem pt_not (ha : PT X a tA) : PT X (.UnaryOp .Not a pos) (tNot tA) := by
  intro pins s σ H Q I h
  exact isTrue_not (ha pins s σ H (fun c H1 => Q (!c) H1) I h)
end
end L2
namespace L2
open PySem PySem.Spec PyProof.Rows
noncomputable def SqL (K : PySem.W.Frag) (H : Hp) (a : Addr) (xs : List V) : Prop :=
  Rd H a (.lst xs) ∨
    ∃ (o : Obj) (its : Array Value) (n : Nat), K.lookup a = some o ∧ o.cls = .type "list" ∧ o.dict = none ∧ o.data = .seq its n ∧ its.size ≤ sizeLine ∧ Vals xs its.toList
noncomputable def SqT (K : PySem.W.Frag) (H : Hp) (a : Addr) (xs : List V) : Prop :=
  Rd H a (.tup xs) ∨
    ∃ (o : Obj) (its : Array Value) (n : Nat), K.lookup a = some o ∧ o.cls = .type "tuple" ∧ o.data = .seq its n ∧ its.size ≤ sizeLine ∧ Vals xs its.toList
noncomputable def absV : Value → Option V
  | .none => some .non
  | .bool b => some (.bl b)
  | .int i _ => some (.int i)
  | .str x _ => some (.str x)
  | .bytes b _ => some (.byt b)
  | .float b _ => some (.flt b)
  | .ref a => some (.ref a)
  | .type n => some (.ty n)
  | _ => none
private theorem RelV.abs {x : V} {u : Value} (r : RelV x u) : absV u = some x := by
  cases x with
  | non => cases r; rfl
  | bl _ => cases r; rfl
  | int _ => obtain ⟨t, rfl⟩ := r; rfl
  | str _ => obtain ⟨t, rfl⟩ := r; rfl
  | byt _ => obtain ⟨t, rfl⟩ := r; rfl
  | flt _ => obtain ⟨t, rfl⟩ := r; rfl
  | ref _ => cases r; rfl
  | ty _ => cases r; rfl
private theorem RelV.inj {x y : V} {u : Value} (r : RelV x u) (q : RelV y u) : x = y := Option.some.inj (r.abs.symm.trans q.abs)
private theorem Vals.inj : ∀ {xs ys : List V} {us : List Value}, Vals xs us → Vals ys us → xs = ys
  | _, _, _, .nil, .nil => rfl
  | _, _, _, .cons r t, .cons r' t' => by rw [r.inj r', Vals.inj t t']
section
variable {X : Cx} {pins : List (Addr × Obj)} {σ : St} {H : Hp} {s : Shared} {a : Addr} {xs ys : List V}
private theorem SqL.of {K : PySem.W.Frag} (h : H a = some (.lst xs)) : SqL K H a xs := .inl (.inl h)
private theorem SqT.of {K : PySem.W.Frag} (h : H a = some (.tup xs)) : SqT K H a xs := .inl (.inl h)
private theorem Inv.list (I : Inv X pins σ H s) (h : SqL X.K H a xs) : ∃ its : List Value, Vals xs its ∧ PlainL s.heap a its.toArray ∧ xs.length ≤ sizeLine := by
  rcases h with h | ⟨o, its, n, hk, hc, hd, hs, hz, r⟩
  · obtain ⟨z, its, n, r, e⟩ := h.ok I.hok
    exact ⟨its, r, ⟨_, n, e, rfl, rfl, rfl⟩, z⟩
  · refine ⟨its.toList, r, ⟨o, n, I.kIn a o hk, hc, hd, by simpa using hs⟩, ?_⟩
    have e := r.length
    simp only [Array.length_toList] at e
    omega
private theorem Inv.tuple (I : Inv X pins σ H s) (h : SqT X.K H a xs) : ∃ its : List Value, Vals xs its ∧ IsTup s.heap a its.toArray ∧ xs.length ≤ sizeLine := by
  rcases h with h | ⟨o, its, n, hk, hc, hs, hz, r⟩
  · obtain ⟨z, its, r, p⟩ := h.ok I.hok
    exact ⟨its, r, p, z⟩
  · refine ⟨its.toList, r, ⟨o, I.kIn a o hk, hc, n, by simpa using hs⟩, ?_⟩
    have e := r.length
    simp only [Array.length_toList] at e
    omega
private theorem Inv.list_inj (I : Inv X pins σ H s) (h : SqL X.K H a xs) (h' : SqL X.K H a ys) : xs = ys := by
  obtain ⟨its, r, ⟨o, n, e, _, _, d⟩, _⟩ := I.list h
  obtain ⟨its', r', ⟨o', n', e', _, _, d'⟩, _⟩ := I.list h'
  rw [e] at e'; cases e'
  rw [d] at d'
  injection d' with d1 _
  have : its = its' := by simpa using congrArg Array.toList d1
  subst this
  exact r.inj r'
private theorem Inv.tuple_inj (I : Inv X pins σ H s) (h : SqT X.K H a xs) (h' : SqT X.K H a ys) : xs = ys := by
  obtain ⟨its, r, ⟨o, e, _, n, d⟩, _⟩ := I.tuple h
  obtain ⟨its', r', ⟨o', e', _, n', d'⟩, _⟩ := I.tuple h'
  rw [e] at e'; cases e'
  rw [d] at d'
  injection d' with d1 _
  have : its = its' := by simpa using congrArg Array.toList d1
  subst this
  exact r.inj r'
end
noncomputable abbrev Cx.wish (X : Cx) (E : Value → Shared → Prop) : Cx := { X with xe := E }
noncomputable abbrev Cx.nox (X : Cx) : Cx := X.wish fun _ _ => False
private theorem Cx.Ok.wish {X : Cx} (ok : X.Ok) (E : Value → Shared → Prop) : (X.wish E).Ok :=
  ⟨ok.mod, ok.kind, ok.glob, ok.blt, ok.above, ok.inj, ok.has, ok.cab, ok.hd, ok.frames, ok.stk, ok.exf, ok.bs, ok.bsz, ok.noex, ok.exfs, ok.funs, ok.frf⟩
private theorem Cx.Ok.unwish {X : Cx} {E : Value → Shared → Prop} (ok : (X.wish E).Ok) : X.Ok :=
  ⟨ok.mod, ok.kind, ok.glob, ok.blt, ok.above, ok.inj, ok.has, ok.cab, ok.hd, ok.frames, ok.stk, ok.exf, ok.bs, ok.bsz, ok.noex, ok.exfs, ok.funs, ok.frf⟩
section
variable {X : Cx} {pins : List (Addr × Obj)} {σ : St} {H : Hp} {s : Shared} {E : Value → Shared → Prop}
private theorem Inv.wish (I : Inv X pins σ H s) (E : Value → Shared → Prop) : Inv (X.wish E) pins σ H s := ⟨I.ok.wish E, I.os, I.bare, I.base, I.loc, I.cell, I.free, I.freeC, I.pin, I.hok, I.len⟩
private theorem Inv.unwish (I : Inv (X.wish E) pins σ H s) : Inv X pins σ H s := ⟨I.ok.unwish, I.os, I.bare, I.base, I.loc, I.cell, I.free, I.freeC, I.pin, I.hok, I.len⟩
private theorem SP.unwish {D : Ends} {f : Flow} {s' : Shared} (h : SP (X.wish E) pins D f s') : SP X pins D f s' := by
  cases f with
  | next => obtain ⟨σ', H', I, q⟩ := h; exact ⟨σ', H', I.unwish, q⟩
  | brk => obtain ⟨σ', H', I, q⟩ := h; exact ⟨σ', H', I.unwish, q⟩
  | cont => obtain ⟨σ', H', I, q⟩ := h; exact ⟨σ', H', I.unwish, q⟩
  | ret u => obtain ⟨v, σ', H', I, r, q⟩ := h; exact ⟨v, σ', H', I.unwish, r, q⟩
private theorem PSs.nox {st : List Stmt} {t : TS} (h : PSs X.nox st t) : PSs X st t := fun pins s σ H D I hw =>
  wpAny_mono (h pins s σ H D (I.wish _) hw) (fun _ _ q => q.unwish) fun _ _ z => False.elim z
end
section
variable {X : Cx} {st : Stmt} {rest : List Stmt} {t u : TS} {e : Expr} {te : TE} {pos : Pos}
noncomputable def tNext : TS := fun D σ H => D.nx σ H
noncomputable def tSeq (t u : TS) : TS := fun D σ H => t { D with nx := u D } σ H
private theorem pss_nil : PSs X [] tNext := fun _ _ σ H _ I h => wpAny_execs_nil ⟨σ, H, I, h⟩
private theorem pss_cons (h1 : PS X st t) (h2 : PSs X rest u) : PSs X (st :: rest) (tSeq t u) := by
  intro pins s σ H D I h
  refine wpAny_execs_cons (thn (h1 pins s σ H { D with nx := u D } I h) fun f s1 q => ?_)
  cases f with
  | next =>
    obtain ⟨σ', H', I', q⟩ := q
    exact h2 pins s1 σ' H' D I' q
  | ret v => exact q
  | brk => exact q
  | cont => exact q
private theorem pss_one (h1 : PS X st t) : PSs X [st] t := by
  intro pins s σ H D I h
  refine wpAny_execs_cons (thn (h1 pins s σ H D I h) fun f s1 q => ?_)
  cases f with
  | next => exact wpAny_execs_nil q
  | ret v => exact q
  | brk => exact q
  | cont => exact q
private theorem Inv.quiet {pins : List (Addr × Obj)} {σ : St} {H : Hp} {s : Shared} (I : Inv X pins σ H s) : interactive X.env = false := by simp [interactive, I.ok.kind]
noncomputable def tDrop (te : TE) : TS := fun D σ H => te σ H fun _ H1 => D.nx σ H1
private theorem ps_expr (he : PE X e te) (hs : swapsWith e none pos.line X.env = pure false := by rfl) : PS X (.Expr e pos) (tDrop te) := by
  intro pins s σ H D I h
  exact wpAny_Expr_any (thn (he pins s σ H _ I h) fun v s1 zz16 => e23 zz16 fun x H1 I1 r1 q1 => ⟨σ, H1, I1, q1⟩) I.quiet hs
noncomputable def tRet (te : TE) : TS := fun D σ H => te σ H D.rt
private theorem ps_ret (he : PE X e te) : PS X (.Return (some e) pos) (tRet te) := by
  intro pins s σ H D I h
  exact wpAny_Return_some (thn (he pins s σ H _ I h) fun v s1 zz17 => e23 zz17 fun x H1 I1 r1 q1 => ⟨x, σ, H1, I1, r1, q1⟩)
noncomputable def tIfS (c : TT) (t u : TS) : TS := fun D σ H => c σ H fun b H1 => if b = true then t D σ H1 else u D σ H1
private theorem ps_if {c : Expr} {a b : List Stmt} {tc : TT} (hc : PT X c tc) (ha : PSs X a t) (hb : PSs X b u) : PS X (.If c a b pos) (tIfS tc t u) := by
  intro pins s σ H D I h
  refine wpAny_If (thn (hc pins s σ H _ I h) fun d s1 zz18 => e12 zz18 fun H1 I1 q1 => ?_)
  cases d with
  | true => exact ha pins s1 σ H1 D I1 q1
  | false => exact hb pins s1 σ H1 D I1 q1
noncomputable def tNever : TS := fun _ _ _ => False
private theorem ps_never : PS X st tNever := fun _ _ _ _ _ _ h => h.elim
end
noncomputable abbrev TG := V → St → Hp → (St → Hp → Prop) → Prop
noncomputable abbrev TGs := List V → St → Hp → (St → Hp → Prop) → Prop
noncomputable def PG (X : Cx) (target : Expr) (t : TG) : Prop :=
  ∀ (pins : List (Addr × Obj)) (s : Shared) (σ : St) (H : Hp) (v : V) (u : Value) (Q : St → Hp → Prop), Inv X pins σ H s → RelV v u → t v σ H Q →
    wpAny (model X.prog X.w) X.A (assign target X.env u) (fun _ s' => ∃ σ' H', Inv X pins σ' H' s' ∧ Q σ' H') X.xe s
noncomputable def PGs (X : Cx) (ts : List Expr) (t : TGs) : Prop :=
  ∀ (pins : List (Addr × Obj)) (s : Shared) (σ : St) (H : Hp) (vs : List V) (us : List Value) (Q : St → Hp → Prop), Inv X pins σ H s → Vals vs us → t vs σ H Q →
    wpAny (model X.prog X.w) X.A (assignInOrder ((assignEach ts X.env).map (·.2)) us) (fun _ s' => ∃ σ' H', Inv X pins σ' H' s' ∧ Q σ' H') X.xe s
noncomputable abbrev TSet := V → V → V → Hp → (Hp → Prop) → Prop
noncomputable def PSet (X : Cx) (t : TSet) : Prop :=
  ∀ (pins : List (Addr × Obj)) (s : Shared) (σ : St) (H : Hp) (o i v : V) (ov iv u : Value) (Q : Hp → Prop), Inv X pins σ H s → RelV o ov → RelV i iv → RelV v u → t o i v H Q →
    wpAny (model X.prog X.w) X.A (setItem ov iv u) (fun _ s' => ∃ H', Inv X pins σ H' s' ∧ Q H') X.xe s
section
variable {X : Cx} {pos : Pos}
noncomputable def gName (i : Nat) : TG := fun v σ H Q => Q (σ.set i (some v)) H
private theorem pg_name {i : Nat} {x : Str} (hN : X.N.Nodup) (hi : X.N[i]? = some x) (hx : Loc X.env.scope x) (hf : X.fn x = true ∨ X.env.scope.names.lookup x = some .local := by first | exact .inl rfl | exact .inr rfl | assumption) : PG X (.Name x pos) (gName i) := by
  intro pins s σ H v u Q I r h
  exact wpAny_assign_Name (store_ok I hN hi hx r (fun s' I' => ⟨_, H, I', h⟩) hf)
noncomputable def gNil : TGs := fun vs σ H Q => vs = [] ∧ Q σ H
noncomputable def gCons (t : TG) (u : TGs) : TGs := fun vs σ H Q => ∃ v r, vs = v :: r ∧ t v σ H fun σ' H' => u r σ' H' Q
private theorem pgs_nil : PGs X [] gNil := by
  intro pins s σ H vs us Q I r h
  obtain ⟨e, h⟩ := h
  subst e
  cases r
  exact assignInOrder_nil ⟨σ, H, I, h⟩
private theorem pgs_cons {e : Expr} {es : List Expr} {t : TG} {u : TGs} (h1 : PG X e t) (h2 : PGs X es u)
    (hs : (assignEach (e :: es) X.env).map (·.2) = assign e X.env :: (assignEach es X.env).map (·.2) := by rfl) : PGs X (e :: es) (gCons t u) := by
  intro pins s σ H vs us Q I r h
  obtain ⟨v, vr, e1, h⟩ := h
  subst e1
  cases r with
  | cons r rr =>
    rw [hs]
    refine assignInOrder_cons (thn (h1 pins s σ H _ _ _ I r h) fun _ s1 zz19 => e22 zz19 fun σ1 H1 I1 q1 => ?_)
    exact h2 pins s1 σ1 H1 _ _ Q I1 rr q1
noncomputable def gTup (K : PySem.W.Frag) (n : Nat) (t : TGs) : TG := fun v σ H Q => ∃ a xs, v = .ref a ∧ SqT K H a xs ∧ xs.length = n ∧ t xs σ H Q
private theorem pg_tup {es : List Expr} {k : Nat} {t : TGs} {n : Nat} (hc : X.calm = true) (h : PGs X es t)
    (hn : (assignEach es X.env).length = n := by rfl) (hst : (assignEach es X.env).findIdx? (·.1) = none := by rfl) : PG X (.Tuple es k pos) (gTup X.K n t) := by
  intro pins s σ H v u Q I r hw
  obtain ⟨a, xs, e1, hq, hl, hw⟩ := hw
  subst e1
  cases r
  obtain ⟨its, rv, ht, hz⟩ := I.tuple hq
  refine assign_Tuple_tuple (I.ok.hd hc) ht (by simp [hn, ← hl, rv.length]) hst fun h' hx => ?_
  have I1 : Inv X pins σ H { s with heap := h' } := I.kept (t' := s.toks) fun b o e => hx b o (Nat.ne_of_lt (Heap.lt_size e)) e
  exact h pins _ σ H xs _ Q I1 (by simpa using rv) hw
noncomputable def gSub (to ti : TE) (t : TSet) : TG := fun v σ H Q => to σ H fun o H1 => ti σ H1 fun i H2 => t o i v H2 fun H3 => Q σ H3
private theorem pg_sub {o i : Expr} {to ti : TE} {t : TSet} (ho : PE X o to) (hi : PE X i ti) (hs : PSet X t)
    (ha : ∀ v, assign (.Subscript o i pos) X.env v = (do
      let ov ← holding [v] (eval o X.env)
      let iv ← holding [v, ov] (eval i X.env)
      standAt pos
      holding [v, ov, iv] (setItem ov iv v)
      release [v, ov, iv] []) := by intro _; rfl) : PG X (.Subscript o i pos) (gSub to ti t) := by
  intro pins s σ H v u Q I r h
  rw [ha]
  refine wpAny_bind (wpAny_holding (thn (ho pins s σ H _ I h) fun ov s1 zz20 => e23 zz20 fun x H1 I1 r1 q1 => ?_))
  refine wpAny_bind (wpAny_holding (thn (hi pins s1 σ H1 _ I1 q1) fun iv s2 zz21 => e23 zz21 fun y H2 I2 r2 q2 => ?_))
  refine wpAny_bind (wpAny_standAt (wpAny_bind (wpAny_holding (thn (hs pins s2 σ H2 x y v ov iv u _ I2 r1 r2 r q2) fun _ s3 zz22 => e12 zz22 fun H3 I3 q3 => ?_))))
  exact wpAny_release ⟨σ, H3, I3, q3⟩
noncomputable def tAsg (te : TE) (g : TG) : TS := fun D σ H => te σ H fun x H1 => g x σ H1 D.nx
private theorem ps_asg {tg e : Expr} {te : TE} {g : TG} (he : PE X e te) (hg : PG X tg g) (hs : swapsWithSole [tg] e pos.line X.env = pure false := by rfl) (hw : swappedStores [tg] e X.env = pure none := by rfl)
    (h1 : (assignEach [tg] X.env).map (·.2) = [assign tg X.env] := by rfl) : PS X (.Assign [tg] e pos) (tAsg te g) := by
  intro pins s σ H D I h
  refine wpAny_Assign_stores (thn (he pins s σ H _ I h) fun v s1 zz23 => e23 zz23 fun x H1 I1 r1 q1 => ?_) hs hw
  rw [h1]
  exact thn (hg pins s1 σ H1 x v _ I1 r1 q1) fun _ s2 q => q
private theorem ps_set {i : Nat} {x : Str} {e : Expr} {te : TE} {pos' : Pos} (hN : X.N.Nodup) (hi : X.N[i]? = some x) (hx : Loc X.env.scope x) (he : PE X e te) (hs : swapsWith e (some (.Name x pos')) pos.line X.env = pure false := by rfl) (hf : X.fn x = true ∨ X.env.scope.names.lookup x = some .local := by first | exact .inl rfl | exact .inr rfl | assumption) :
    PS X (.Assign [.Name x pos'] e pos) (tAsg te (gName i)) := by
  intro pins s σ H D I h
  refine wpAny_Assign_Name (thn (he pins s σ H _ I h) fun v s1 zz24 => e23 zz24 fun y H1 I1 r1 q1 => ?_) hs
  exact store_ok I1 hN hi hx r1 (fun s2 I2 => ⟨_, H1, I2, q1⟩) hf
noncomputable def tPar (i j : Nat) (ta : TA) : TS := fun D σ H => ta σ H fun vs H1 => ∃ v w, vs = [v, w] ∧ D.nx ((σ.set i (some v)).set j (some w)) H1
private theorem ps_par {i j : Nat} {x y : Str} {a b : Expr} {ta : TA} {px py pt : Pos} {kt k2 pt2} (hc : X.calm = true) (hN : X.N.Nodup) (hi : X.N[i]? = some x) (hj : X.N[j]? = some y) (hij : i ≠ j)
    (hx : X.env.scope.names.lookup x = some .local) (hy : X.env.scope.names.lookup y = some .local) (ha : PA X [a, b] ta)
    (hw : swappedStores [.Tuple [.Name x px, .Name y py] kt pt] (.Tuple [a, b] k2 pt2) X.env = pure (some [x, y]))
    (hs : swapsWithSole [.Tuple [.Name x px, .Name y py] kt pt] (.Tuple [a, b] k2 pt2) pos.line X.env = pure false := by rfl) :
    PS X (.Assign [.Tuple [.Name x px, .Name y py] kt pt] (.Tuple [a, b] k2 pt2) pos) (tPar i j ta) := by
  intro pins s σ H D I h
  rw [exec_Assign_arm]
  refine wpAny_bind (wpAny_standAt ?_)
  rw [hs]
  refine wpAny_bind (wpAny_pure ?_)
  rw [if_neg (by decide)]
  refine wpAny_bind (Tuple_ (thn (ha _ pins s σ H _ I h) fun us s1 zz25 => e23 zz25 fun vs H1 I1 r1 q1 => ?_))
  obtain ⟨v, w, e1, q1⟩ := q1
  subst e1
  obtain ⟨u1, u2, rfl, rv, rw'⟩ : ∃ u1 u2, us = [u1, u2] ∧ RelV v u1 ∧ RelV w u2 := by
    cases r1 with
    | cons p q =>
      cases q with
      | cons p' q' =>
        cases q'
        exact ⟨_, _, rfl, p, p'⟩
  refine wpAny_newObj_type ?_ (by show 2 ≤ sizeLine; decide)
  have I2 : Inv X pins σ H1 { s1 with heap := s1.heap.push { cls := .type "tuple", data := .seq [u1, u2].toArray } } := I1.kept (t' := s1.toks) fun b o e => Heap.get?_push_of_some _ e
  rw [hw]
  refine wpAny_bind (wpAny_pure ?_)
  show wpAny (model X.prog X.w) X.A (do rule "assign.swapped-stores"; let items ← unpackItems (.ref s1.heap.objs.size) 2 none; assignInOrder [fun v => bindName X.env y v, fun v => bindName X.env x v] items.reverse; pure Flow.next) _ _ _
  refine wpAny_bind (wpAny_rule (wpAny_bind (unpackItems_tuple (items := #[u1, u2]) (I.ok.hd hc) (IsTup.new s1.heap _) fun h' hx' => ?_)))
  have I3 := I2.kept (h' := h') (t' := s1.toks) fun b o e => hx' b o (Nat.ne_of_lt (Heap.lt_size e)) e
  show wpAny _ _ (assignInOrder [fun v => bindName X.env y v, fun v => bindName X.env x v] [u2, u1] >>= fun _ => pure Flow.next) _ _ _
  refine wpAny_bind (assignInOrder_cons (wpAny_bindName (store_ok I3 hN hj (.inl hy) rw' (fun s2 I4 => ?_) (.inr hy))))
  refine assignInOrder_cons (wpAny_bindName (store_ok I4 hN hi (.inl hx) rv (fun s3 I5 => assignInOrder_nil (wpAny_pure ?_)) (.inr hx)))
  rw [List.set_comm _ _ (Ne.symm hij)] at I5
  exact ⟨_, H1, I5, q1⟩
end
section
variable {X : Cx} {pos : Pos}
noncomputable def tWhile (c : TT) (tb : TS) : TS := fun D σ H => ∃ W : Nat → St → Hp → Prop, (∃ m, W m σ H) ∧ ∀ m σ H, W m σ H →
  c σ H fun b H1 => if b = true then ∃ N : St → Hp → Prop, (∀ σ' H', N σ' H' → ∃ m', m' < m ∧ W m' σ' H') ∧ tb { D with nx := N, ct := N, bk := D.nx } σ H1 else D.nx σ H1
private theorem ps_while {c : Expr} {body : List Stmt} {tc : TT} {tb : TS} (hp : PassesOwn (model X.prog X.w) X.A X.env X.xe) (hc : PT X c tc) (hb : PSs X body tb) : PS X (.While c body [] pos) (tWhile tc tb) := by
  intro pins s σ H D I h
  obtain ⟨W, ⟨m0, w0⟩, turn⟩ := h
  refine wpAny_While (codeAny_whileLoop (fun n s' => ∃ σ' H', Inv X pins σ' H' s' ∧ W n σ' H') ?_ m0 ⟨σ, H, I, w0⟩)
  rintro n s1 ⟨σ1, H1, I1, w1⟩
  refine wpAny_passesOwn hp (thn (hc pins s1 σ1 H1 _ I1 (turn n σ1 H1 w1)) fun b s2 zz34 => e12 zz34 fun H2 I2 q2 => ?_)
  cases b with
  | true =>
    obtain ⟨N, hN, q2⟩ := q2
    rw [if_pos rfl]
    refine wpAny_passesOwn hp (thn (hb pins s2 σ1 H2 _ I2 q2) fun f s3 q3 => ?_)
    cases f with
    | next =>
      obtain ⟨σ3, H3, I3, n3⟩ := q3
      obtain ⟨m', hm, w3⟩ := hN σ3 H3 n3
      exact ⟨m', hm, σ3, H3, I3, w3⟩
    | cont =>
      obtain ⟨σ3, H3, I3, n3⟩ := q3
      obtain ⟨m', hm, w3⟩ := hN σ3 H3 n3
      exact ⟨m', hm, σ3, H3, I3, w3⟩
    | brk => exact q3
    | ret v => exact q3
  | false =>
    rw [if_neg Bool.false_ne_true]
    exact wpAny_execs_nil ⟨σ1, H2, I2, q2⟩
end
structure It where
  go : Nat → Hp → Prop
  yld : Nat → Hp → V → Hp → Prop
  stop : Nat → Hp → Prop
noncomputable def FpOk (X : Cx) (pins : List (Addr × Obj)) (H : Hp) (b : Addr) : Prop :=
  H b = none ∧ b ≠ X.env.locals ∧ b ∉ X.fs ∧ (b ∈ X.ex ∨ X.s₀.heap.objs.size ≤ b) ∧ (∀ x c, X.env.cells.lookup x = some c → c ≠ b) ∧ ∀ p ∈ X.pn ++ pins, p.1 ≠ b
private theorem Inv.fpOk {X : Cx} {pins : List (Addr × Obj)} {σ : St} {H H' : Hp} {s : Shared} {b : Addr} (I : Inv X pins σ H s) (hb : s.heap.objs.size ≤ b) (hn : H' b = none) : FpOk X pins H' b := by
  refine ⟨hn, Nat.ne_of_gt (Nat.lt_of_lt_of_le I.lt hb), I.nofs hb, .inr (Nat.le_trans I.sz hb), fun x c e z => ?_, fun p hp z => ?_⟩
  · obtain ⟨v, q⟩ := I.cell x c e
    exact absurd (Nat.lt_of_lt_of_le q.lt (by rw [z]; exact hb)) (Nat.lt_irrefl _)
  · exact absurd (Nat.lt_of_lt_of_le (Heap.lt_size (I.pin p hp).1) (by rw [z]; exact hb)) (Nat.lt_irrefl _)
structure Turn (P : Program) (w : World) (K : PySem.W.Frag) (tg : Expr) (J : It) (fp : List Addr) (it : Addr) (tn : Nat → Heap → Prop) : Prop where
  mem : it ∈ fp
  obj : ∀ i h, tn i h → ∀ b ∈ fp, ∃ o, h.get? b = some o ∧ ∀ v, o.data ≠ .cell v
  keep : ∀ i h h', tn i h → (∀ b ∈ fp, ∀ o, h.get? b = some o → h'.get? b = some o) → tn i h'
  item : ∀ (X : Cx), X.prog = P → X.w = w → X.K = K → X.calm = true → ∀ (i : Nat) (pins : List (Addr × Obj)) (s : Shared) (σ : St) (H : Hp) (E : Value → Shared → Prop), Inv X pins σ H s → (∀ b ∈ fp, FpOk X pins H b) → tn i s.heap → J.go i H →
    wpAny (model P w) X.A (pyNext (.ref it)) (fun r s1 => ∃ u, r = some u ∧
      wpAny (model P w) X.A (letOwnedTupleGo tg (.ref it) u) (fun _ s2 => ∃ x H', Inv X pins σ H' s2 ∧ RelV x u ∧ J.yld i H x H' ∧ tn (i + 1) s2.heap ∧ ∀ b ∈ fp, H' b = none) E s1) E s
  done : ∀ (X : Cx), X.prog = P → X.w = w → X.K = K → X.calm = true → ∀ (i : Nat) (pins : List (Addr × Obj)) (s : Shared) (σ : St) (H : Hp) (E : Value → Shared → Prop), Inv X pins σ H s → (∀ b ∈ fp, FpOk X pins H b) → tn i s.heap → J.stop i H →
    wpAny (model P w) X.A (pyNext (.ref it)) (fun r s1 => r = none ∧ Inv X pins σ H s1) E s
  self : ∀ (A : Around) (i : Nat) (s : Shared) (Q : Value → Shared → Prop) (E : Value → Shared → Prop), tn i s.heap → Q (.ref it) s → wpAny (model P w) A (pyIter (.ref it)) Q E s
noncomputable abbrev TI := St → Hp → (It → Hp → Prop) → Prop
noncomputable def PIE (X : Cx) (pins : List (Addr × Obj)) (σ : St) (tg : Expr) (R : It → Hp → Prop) (itv : Value) (s2 : Shared) : Prop :=
  ∃ (it : Addr) (fp : List Addr) (tn : Nat → Heap → Prop) (J : It) (H' : Hp), itv = .ref it ∧ Inv X pins σ H' s2 ∧ Turn X.prog X.w X.K tg J fp it tn ∧ tn 0 s2.heap ∧ (∀ b ∈ fp, FpOk X pins H' b) ∧ R J H'
noncomputable def PI (X : Cx) (tg iter : Expr) (wi : TI) : Prop :=
  ∀ (pins : List (Addr × Obj)) (s : Shared) (σ : St) (H : Hp) (R : It → Hp → Prop), Inv X pins σ H s → wi σ H R →
    wpAny (model X.prog X.w) X.A (eval iter X.env) (fun v s1 => wpAny (model X.prog X.w) X.A (pyIter v) (PIE X pins σ tg R) X.xe s1) X.xe s
private theorem go_of {M : Model} {A : Around} {E : Value → Shared → Prop} {s : Shared} {tg : Expr} {it : Addr} {u : Value} {o : Obj} {n : String} {vs : Array Value} {Q : Unit → Shared → Prop} (ho : s.heap.get? it = some o) (hc : o.cls = .type n) (hd : o.data = .fields vs)
    (hn : ["enumerate", "zip", "dict_itemiterator", "dict_reverseitemiterator", "odict_iterator", "itertools.zip_longest", "itertools.pairwise"].contains n = false) (hQ : Q () s) : wpAny M A (letOwnedTupleGo tg (.ref it) u) Q E s := by
  unfold letOwnedTupleGo
  cases tg <;> first
    | exact wpAny_pure hQ
    | (cases u <;> first
        | exact wpAny_pure hQ
        | (refine wpAny_bind (wpAny_load ho ?_)
           rw [hc, hd]
           show wpAny M A (if (["enumerate", "zip", "dict_itemiterator", "dict_reverseitemiterator", "odict_iterator", "itertools.zip_longest", "itertools.pairwise"].contains n && vs[0]? == some (rawInt _)) = true then _ else _) Q E s
           rw [if_neg (by intro h; rw [hn, Bool.false_and] at h; cases h)]
           exact wpAny_pure hQ))
noncomputable def Itl (K : PySem.W.Frag) (a : Addr) : It :=
  ⟨fun i H => ∃ xs x, SqL K H a xs ∧ xs[i]? = some x, fun i H x H' => H' = H ∧ ∀ xs, SqL K H a xs → xs[i]? = some x, fun i H => ∃ xs, SqL K H a xs ∧ xs.length ≤ i⟩
noncomputable def Itr (lo : Int) (n : Nat) : It := ⟨fun i _ => i < n, fun i H x H' => H' = H ∧ x = .int (lo + i), fun i _ => n ≤ i⟩
private theorem turn_list {P : Program} {w : World} {K : PySem.W.Frag} {tg : Expr} (a it : Addr) : Turn P w K tg (Itl K a) [it] it (fun i h => h.IsListIter it a i) where
  mem := by simp
  obj := fun i h st b hb => by
    have e : b = it := by simpa using hb
    subst e
    obtain ⟨o, e, c, d⟩ := st
    exact ⟨o, e, fun v z => by rw [d] at z; cases z⟩
  keep := fun i h h' st k => st.at fun o e => k it (by simp) o e
  item := by
    intro X hP hw hK hc i pins s σ H E I hf st hg
    subst hP hw hK
    obtain ⟨xs, x, hq, hx⟩ := hg
    obtain ⟨its, rv, p, hz⟩ := I.list hq
    obtain ⟨u, hu, ru⟩ := rv.get hx
    obtain ⟨f0, f1, f2, f3, f4, f5⟩ := hf it (by simp)
    refine wpAny_pyNext_list_item st p.isList (x := u) (by simpa using hu) fun h' st' sb => ?_
    have I1 : Inv X pins σ H { s with heap := h' } := I.turned (t' := s.toks) (fun b o hb e => (sb.2 b hb).trans e) f0 f1 f3 f4 f5
    obtain ⟨o, e, c, d⟩ := id st'
    exact ⟨u, rfl, go_of (s := { s with heap := h' }) e c d (by decide) ⟨x, H, I1, ru, ⟨rfl, fun ys hy => by rw [I.list_inj hy hq]; exact hx⟩, st', fun b hb => (hf b hb).1⟩⟩
  done := by
    intro X hP hw hK hc i pins s σ H E I hf st hg
    subst hP hw hK
    obtain ⟨xs, hq, hx⟩ := hg
    obtain ⟨its, rv, p, hz⟩ := I.list hq
    obtain ⟨f0, f1, f2, f3, f4, f5⟩ := hf it (by simp)
    have hl := rv.length
    exact wpAny_pyNext_list_end (I.ok.hd hc) st p.isList (by simp; omega) fun h' eb => ⟨rfl, I.turned (t' := s.toks) (fun b o hb e => eb b o hb e) f0 f1 f3 f4 f5⟩
  self := fun _ _ _ _ _ st h => wpAny_pyIter_listiter st h
private theorem turn_range {P : Program} {w : World} {K : PySem.W.Frag} {tg : Expr} (it : Addr) (lo : Int) (n : Nat) : Turn P w K tg (Itr lo n) [it] it (fun i h => IsRangeIter h it (lo + (i : Nat) * 1) ((n : Int) - (i : Nat)) 1) where
  mem := by simp
  obj := fun i h st b hb => by
    have e : b = it := by simpa using hb
    subst e
    exact ⟨_, st, fun v z => by
      have z' : Data.fields _ = Data.cell v := z
      cases z'⟩
  keep := fun i h h' st k => k it (by simp) _ st
  item := by
    intro X hP hw hK hc i pins s σ H E I hf st hg
    subst hP hw hK
    obtain ⟨f0, f1, f2, f3, f4, f5⟩ := hf it (by simp)
    have W := Walks.range (prog := X.prog) (w := X.w) (I.ok.hd hc) it lo 1 n
    refine W.item i s _ _ hg st fun v h' tk hv st' kk => ?_
    obtain ⟨t, rfl⟩ := hv
    have I1 : Inv X pins σ H { s with heap := h', toks := tk } := I.turned (fun b o hb e => kk b o (by simpa using hb) e) f0 f1 f3 f4 f5
    refine ⟨_, rfl, go_of (s := { s with heap := h', toks := tk }) (n := "range_iterator") st' rfl rfl (by decide) ⟨.int (lo + i), H, I1, ⟨t, ?_⟩, ⟨rfl, rfl⟩, st', fun b hb => (hf b hb).1⟩⟩
    rw [Int.mul_one]
  done := by
    intro X hP hw hK hc i pins s σ H E I hf st hg
    subst hP hw hK
    obtain ⟨f0, f1, f2, f3, f4, f5⟩ := hf it (by simp)
    exact wpAny_pyNext_range_end (I.ok.hd hc) st (by have : n ≤ i := hg; omega) fun h' eb => ⟨rfl, I.turned (t' := s.toks) (fun b o hb e => eb b o hb e) f0 f1 f3 f4 f5⟩
  self := fun _ _ _ _ _ st h => wpAny_pyIter_rangeiter st h
end L2
namespace L2
open PySem PySem.Spec PyProof.Rows
section
variable {X : Cx} {tg : Expr}
noncomputable def iList (K : PySem.W.Frag) (tl : TE) : TI := fun σ H R => tl σ H fun x H1 => ∃ a, x = .ref a ∧ (∃ xs, SqL K H1 a xs) ∧ R (Itl K a) H1
private theorem pi_list {l : Expr} {tl : TE} (hl : PE X l tl) : PI X tg l (iList X.K tl) := by
  intro pins s σ H R I h
  refine thn (hl pins s σ H _ I h) fun v s1 zz35 => e23 zz35 fun x H1 I1 r1 q1 => ?_
  obtain ⟨a, e, ⟨xs, hq⟩, q⟩ := q1
  subst e
  cases r1
  obtain ⟨its, rv, p, hz⟩ := I1.list hq
  refine wpAny_pyIter_list p.isList ?_
  refine ⟨s1.heap.objs.size, [s1.heap.objs.size], _, _, H1, rfl, I1.kept (t' := s1.toks) fun b o e => Heap.get?_push_of_some _ e, turn_list a _, ⟨_, Heap.get?_push_size _ rfl, rfl, rfl⟩, fun b hb => ?_, q⟩
  have e : b = s1.heap.objs.size := by simpa using hb
  subst e
  exact I1.fpOk (Nat.le_refl _) (I1.hok.fresh (Nat.le_refl _))
private theorem range_it {pins : List (Addr × Obj)} {σ : St} {H : Hp} {s : Shared} {R : It → Hp → Prop} {E : Value → Shared → Prop} {lo hi : Int} {t u v : Tok} {tk : Nat} (I : Inv X pins σ H s) (h1 : -(2 ^ 62) ≤ lo) (h2 : lo < 2 ^ 62) (h3 : -(2 ^ 62) ≤ hi) (h4 : hi < 2 ^ 62)
    (q : R (Itr lo (hi - lo).toNat) H) : wpAny (model X.prog X.w) X.A (pyIter (.ref s.heap.objs.size)) (PIE X pins σ tg R) E { s with heap := s.heap.push { cls := .type "range", data := .fields #[.int lo t, .int hi u, .int 1 v] }, toks := tk } := by
  refine wpAny_pyIter_range (IsRange.new ..) (small_one h1 h2 h3 h4) ?_
  have I1 : Inv X pins σ H { s with heap := s.heap.push { cls := .type "range", data := .fields #[.int lo t, .int hi u, .int 1 v] }, toks := tk } := I.kept fun b o e => Heap.get?_push_of_some _ e
  refine ⟨(s.heap.push { cls := .type "range", data := .fields #[.int lo t, .int hi u, .int 1 v] }).objs.size, [(s.heap.push { cls := .type "range", data := .fields #[.int lo t, .int hi u, .int 1 v] }).objs.size], _, _, H, rfl,
    I1.kept (t' := tk) fun b o e => Heap.get?_push_of_some _ e, turn_range _ lo (hi - lo).toNat, ?_, fun b hb => ?_, q⟩
  · have e1 : lo + ((0 : Nat) : Int) * 1 = lo := by simp
    have e2 : (((hi - lo).toNat : Nat) : Int) - ((0 : Nat) : Int) = Builtin.Range.rangeSize lo hi 1 := by rw [rangeSize_one]; split <;> omega
    show IsRangeIter _ _ (lo + ((0 : Nat) : Int) * 1) ((((hi - lo).toNat : Nat) : Int) - ((0 : Nat) : Int)) 1
    rw [e1, e2]
    exact Heap.get?_push_size _ rfl
  · have e : b = (s.heap.push { cls := .type "range", data := .fields #[.int lo t, .int hi u, .int 1 v] }).objs.size := by simpa using hb
    subst e
    exact I1.fpOk (Nat.le_refl _) (I1.hok.fresh (Nat.le_refl _))
noncomputable def iRng1 (ta : TA) : TI := fun σ H R => ta σ H fun vs H1 => ∃ j : Int, vs = [.int j] ∧ -(2 ^ 62) ≤ j ∧ j < 2 ^ 62 ∧ R (Itr 0 j.toNat) H1
noncomputable def iRng2 (ta : TA) : TI := fun σ H R => ta σ H fun vs H1 => ∃ i j : Int, vs = [.int i, .int j] ∧ (-(2 ^ 62) ≤ i ∧ i < 2 ^ 62 ∧ -(2 ^ 62) ≤ j ∧ j < 2 ^ 62) ∧ R (Itr i (j - i).toNat) H1
private theorem pi_range1 {a : Expr} {ta : TA} {p pos : Pos} (hg : Gl X "range") (hm : X.mg "range" = none) (ha : PA X [a] ta) (hs : starEach [a] X.env = [(false, eval a X.env)] := by rfl) : PI X tg (.Call (.Name "range" p) [a] [] pos) (iRng1 ta) := by
  intro pins s σ H R I h
  refine Call_ (ld_blt I hg hm boot_range (PyProof.Rows.callWith_type1 (thn (ha pos pins s σ H _ I h) fun us s1 zz37 => e23 zz37 fun vs H1 I1 r1 q1 => ?_) hs rfl))
  obtain ⟨j, e, q1, q2, q⟩ := q1
  subst e
  cases r1 with
  | cons r rr =>
    cases rr
    obtain ⟨t, rfl⟩ := r
    exact call_range_1 (range_it I1 (by omega) (by omega) q1 q2 (by simpa using q))
private theorem pi_range2 {a b : Expr} {ta : TA} {p pos : Pos} (hg : Gl X "range") (hm : X.mg "range" = none) (ha : PA X [a, b] ta) (hs : starEach [a, b] X.env = [(false, eval a X.env), (false, eval b X.env)] := by rfl) (hs2 : starEach [b] X.env = [(false, eval b X.env)] := by rfl) :
    PI X tg (.Call (.Name "range" p) [a, b] [] pos) (iRng2 ta) := by
  intro pins s σ H R I h
  refine Call_ (ld_blt I hg hm boot_range (PyProof.Rows.callWith_type1 (thn (ha pos pins s σ H _ I h) fun us s1 zz38 => e23 zz38 fun vs H1 I1 r1 q1 => ?_) (by rw [hs, hs2]) (by rw [hs2]; rfl)))
  obtain ⟨i, j, e, ⟨q1, q2, q3, q4⟩, q⟩ := q1
  subst e
  cases r1 with
  | cons r rr =>
    cases rr with
    | cons r' rr =>
      cases rr
      obtain ⟨t, rfl⟩ := r
      obtain ⟨t', rfl⟩ := r'
      exact call_range_2 (range_it I1 q1 q2 q3 q4 q)
noncomputable def tFor (wi : TI) (g : TG) (tb : TS) : TS := fun D σ H => wi σ H fun J H1 => ∃ W : Nat → Nat → St → Hp → Prop, (∃ m, W 0 m σ H1) ∧ ∀ i m σ H, W i m σ H →
  (J.stop i H ∧ D.nx σ H) ∨ (J.go i H ∧ ∃ N : St → Hp → Prop, (∀ σ' H', N σ' H' → ∃ m', m' < m ∧ W (i + 1) m' σ' H') ∧ ∀ x H', J.yld i H x H' → g x σ H' fun σ2 H2 => tb { D with nx := N, ct := N, bk := D.nx } σ2 H2)
noncomputable def pinsAt (fp : List Addr) (h : Heap) : List (Addr × Obj) := fp.filterMap fun b => (h.get? b).map fun o => (b, o)
private theorem mem_pinsAt {fp : List Addr} {h : Heap} {b : Addr} {o : Obj} (hb : b ∈ fp) (e : h.get? b = some o) : (b, o) ∈ pinsAt fp h := List.mem_filterMap.mpr ⟨b, hb, by rw [e]; rfl⟩
private theorem of_pinsAt {fp : List Addr} {h : Heap} {p : Addr × Obj} (hp : p ∈ pinsAt fp h) : p.1 ∈ fp ∧ h.get? p.1 = some p.2 := by
  obtain ⟨b, hb, e⟩ := List.mem_filterMap.mp hp
  cases q : h.get? b with
  | none => rw [q] at e; cases e
  | some o =>
    rw [q] at e
    have e' : (b, o) = p := Option.some.inj e
    subst e'
    exact ⟨hb, q⟩
private theorem Inv.pinned {pins : List (Addr × Obj)} {σ : St} {H : Hp} {s : Shared} {fp : List Addr} (I : Inv X pins σ H s) (hf : ∀ b ∈ fp, FpOk X pins H b) (ho : ∀ b ∈ fp, ∃ o, s.heap.get? b = some o ∧ ∀ v, o.data ≠ .cell v) : Inv X (pins ++ pinsAt fp s.heap) σ H s :=
  I.pins_of fun p hp => (List.mem_append.mp hp).elim (fun z => I.pin p (List.mem_append_right _ z)) fun z => by
    obtain ⟨hb, e⟩ := of_pinsAt z
    obtain ⟨f0, f1, f2, _⟩ := hf p.1 hb
    obtain ⟨o, e', d⟩ := ho p.1 hb
    rw [e] at e'; cases e'
    exact ⟨e, f0, f1, f2, d⟩
private theorem Inv.unpinned {pins pl : List (Addr × Obj)} {σ : St} {H : Hp} {s : Shared} (I : Inv X (pins ++ pl) σ H s) : Inv X pins σ H s := I.pins_of fun p hp => I.pin p (List.mem_append_right _ (List.mem_append_left _ hp))
private theorem ps_for {iter : Expr} {body : List Stmt} {wi : TI} {g : TG} {tb : TS} {pos : Pos} (hp : PassesOwn (model X.prog X.w) X.A X.env X.xe) (hc : X.calm = true) (hi : PI X tg iter wi) (hg : PG X tg g) (hb : PSs X body tb)
    (hs : ∀ x, foldedSetIterable iter X.env x = pure x := by intro _; rfl) : PS X (.For tg iter body [] pos) (tFor wi g tb) := by
  intro pins s σ H D I h
  refine wpAny_For (thn (hi pins s σ H _ I h) fun v s1 h1 => thn h1 fun itv s2 h2 => ?_) hs
  obtain ⟨it, fp, tn, J, H2, e, I2, T, st2, f2, W, ⟨m0, w0⟩, turn⟩ := h2
  subst e
  -- what stays true of the iterator's objects through the loop
  have stat : ∀ {H' : Hp}, (∀ b ∈ fp, H' b = none) → ∀ b ∈ fp, FpOk X pins H' b := fun hn b hb => ⟨hn b hb, (f2 b hb).2⟩
  refine codeAny_forLoop_any (fun n s' => ∃ i σ' H', Inv X pins σ' H' s' ∧ tn i s'.heap ∧ (∀ b ∈ fp, H' b = none) ∧ W i n σ' H') ?_ m0 ⟨0, σ, H2, I2, st2, fun b hb => (f2 b hb).1, w0⟩
  rintro n s3 ⟨i, σ3, H3, I3, st3, fr3, w3⟩
  rcases turn i n σ3 H3 w3 with ⟨stop, qn⟩ | ⟨go, N, hN, step⟩
  · refine wpAny_passesOwn hp (thn (T.done X rfl rfl rfl hc i pins s3 σ3 H3 X.xe I3 (stat fr3) st3 stop) fun r s4 ⟨hr, I4⟩ => ?_)
    subst hr
    exact wpAny_execs_nil ⟨σ3, H3, I4, qn⟩
  · refine wpAny_passesOwn hp (thn (T.item X rfl rfl rfl hc i pins s3 σ3 H3 X.xe I3 (stat fr3) st3 go) fun r s4 ⟨u, hr, h4⟩ => ?_)
    subst hr
    refine wpAny_passesOwn hp (thn h4 fun _ s5 ⟨x, H5, I5, r5, y5, st5, fr5⟩ => ?_)
    have I5' := I5.pinned (stat fr5) (T.obj _ _ st5)
    refine wpAny_passesOwn hp (thn (hg _ s5 σ3 H5 x u _ I5' r5 (step x H5 y5)) fun _ s6 zz42 => e22 zz42 fun σ6 H6 I6 q6 => ?_)
    refine wpAny_passesOwn hp (thn (hb _ s6 σ6 H6 _ I6 q6) fun f s7 q7 => ?_)
    have again : ∀ {σ7 : St} {H7 : Hp}, Inv X (pins ++ pinsAt fp s5.heap) σ7 H7 s7 → N σ7 H7 → ∃ m, m < n ∧ ∃ i σ' H', Inv X pins σ' H' s7 ∧ tn i s7.heap ∧ (∀ b ∈ fp, H' b = none) ∧ W i m σ' H' := fun {σ7 H7} I7 n7 => by
      obtain ⟨m', hm, w7⟩ := hN σ7 H7 n7
      refine ⟨m', hm, i + 1, σ7, H7, I7.unpinned, T.keep _ _ _ st5 fun b hb o e => (I7.pin (b, o) (List.mem_append_right _ (List.mem_append_right _ (mem_pinsAt hb e)))).1, fun b hb => ?_, w7⟩
      obtain ⟨o, e, d⟩ := T.obj _ _ st5 b hb
      exact (I7.pin (b, o) (List.mem_append_right _ (List.mem_append_right _ (mem_pinsAt hb e)))).2.1
    cases f with
    | next => obtain ⟨σ7, H7, I7, n7⟩ := q7; exact again I7 n7
    | cont => obtain ⟨σ7, H7, I7, n7⟩ := q7; exact again I7 n7
    | brk => obtain ⟨σ7, H7, I7, q7⟩ := q7; exact ⟨σ7, H7, I7.unpinned, q7⟩
    | ret v => obtain ⟨x7, σ7, H7, I7, r7, q7⟩ := q7; exact ⟨x7, σ7, H7, I7.unpinned, r7, q7⟩
end
end L2
namespace L2
open PySem PySem.Spec PyProof.Rows
noncomputable abbrev R2 := V → V → Hp → VK → Prop
noncomputable def OpR (X : Cx) (f : Value → Value → Sem Value) (r : R2) : Prop :=
  ∀ (pins : List (Addr × Obj)) (s : Shared) (σ : St) (H : Hp) (x y : V) (v u : Value) (Q : VK), Inv X pins σ H s → RelV x v → RelV y u → r x y H Q →
    wpAny (model X.prog X.w) X.A (f v u) (EP X pins σ Q) X.xe s
noncomputable def UnR (X : Cx) (f : Value → Sem Value) (r : V → Hp → VK → Prop) : Prop :=
  ∀ (pins : List (Addr × Obj)) (s : Shared) (σ : St) (H : Hp) (x : V) (v : Value) (Q : VK), Inv X pins σ H s → RelV x v → r x H Q →
    wpAny (model X.prog X.w) X.A (f v) (EP X pins σ Q) X.xe s
noncomputable def CallR (X : Cx) (f : Value) (r : List V → Hp → VK → Prop) : Prop :=
  ∀ (pins : List (Addr × Obj)) (s : Shared) (σ : St) (H : Hp) (xs : List V) (us : List Value) (Q : VK), Inv X pins σ H s → Vals xs us → r xs H Q →
    wpAny (model X.prog X.w) X.A (call f us) (EP X pins σ Q) X.xe s
noncomputable def tOp (r : R2) (ta tb : TE) : TE := fun σ H Q => ta σ H fun x H1 => tb σ H1 fun y H2 => r x y H2 Q
noncomputable def tUn (r : V → Hp → VK → Prop) (ta : TE) : TE := fun σ H Q => ta σ H fun x H1 => r x H1 Q
noncomputable def rI (C : Int → Int → Prop) (g : Int → Int → V) : R2 := fun x y H Q => ∃ i j, x = .int i ∧ y = .int j ∧ C i j ∧ Q (g i j) H
noncomputable def rI0 (g : Int → Int → V) : R2 := fun x y H Q => ∃ i j, x = .int i ∧ y = .int j ∧ Q (g i j) H
noncomputable def rU (g : Int → V) : V → Hp → VK → Prop := fun x H Q => ∃ i, x = .int i ∧ Q (g i) H
section
variable {X : Cx} {a b c : Expr} {ta tb tc : TE} {pos : Pos}
private theorem binT (ha : PE X a ta) (hb : PE X b tb) {pins : List (Addr × Obj)} {s : Shared} {σ : St} {H : Hp} {R : V → V → Hp → Prop} (I : Inv X pins σ H s)
    (h : ta σ H fun x H1 => tb σ H1 fun y H2 => R x y H2) {Q : Value → Shared → Prop} {f : Value → Value → Sem Value}
    (hf : ∀ v u s2 x y H2, Inv X pins σ H2 s2 → RelV x v → RelV y u → R x y H2 → wpAny (model X.prog X.w) X.A (f v u) Q X.xe s2) :
    wpAny (model X.prog X.w) X.A (eval a X.env) (fun v s₁ => wpAny (model X.prog X.w) X.A (eval b X.env) (fun u s₂ => wpAny (model X.prog X.w) X.A (f v u) Q X.xe s₂) X.xe s₁) X.xe s := by
  refine thn (ha pins s σ H _ I h) fun v s1 zz44 => e23 zz44 fun x H1 I1 r1 q1 => ?_
  refine thn (hb pins s1 σ H1 _ I1 q1) fun u s2 zz45 => e23 zz45 fun y H2 I2 r2 q2 => ?_
  exact hf v u s2 x y H2 I2 r1 r2 q2
private theorem pe_op {op : Operator} {r : R2} (ho : OpR X (binaryOp op) r) (ha : PE X a ta) (hb : PE X b tb) : PE X (.BinOp a op b pos) (tOp r ta tb) := by
  intro pins s σ H Q I h
  exact wpAny_BinOp (binT ha hb I h fun v u s2 x y H2 I2 rx ry q => ho pins s2 σ H2 x y v u Q I2 rx ry q)
private theorem pe_un {op : UnaryOp} {r : V → Hp → VK → Prop} (ho : UnR X (unaryOp op) r) (ha : PE X a ta) : PE X (.UnaryOp op a pos) (tUn r ta) := by
  intro pins s σ H Q I h
  exact UnaryOp_ (thn (ha pins s σ H _ I h) fun v s1 zz46 => e23 zz46 fun x H1 I1 r1 q1 => ho pins s1 σ H1 x v Q I1 r1 q1)
private theorem opI {f : Value → Value → Sem Value} {C : Int → Int → Prop} {g : Int → Int → Int}
    (rule : ∀ (i j : Int) (t u : Tok) (s : Shared) (Q : Value → Shared → Prop) (E : Value → Shared → Prop), C i j → Q (.int (g i j) s.toks) { s with toks := s.toks + 1 } → wpAny (model X.prog X.w) X.A (f (.int i t) (.int j u)) Q E s) :
    OpR X f (rI C fun i j => .int (g i j)) := by
  intro pins s σ H x y v u Q I rx ry h
  obtain ⟨i, j, rfl, rfl, hc, q⟩ := h
  obtain ⟨t, rfl⟩ := rx
  obtain ⟨t', rfl⟩ := ry
  exact rule i j t t' s _ _ hc ⟨.int (g i j), H, I.tok _, ⟨_, rfl⟩, q⟩
private theorem opI0 {f : Value → Value → Sem Value} {g : Int → Int → Int}
    (rule : ∀ (i j : Int) (t u : Tok) (s : Shared) (Q : Value → Shared → Prop) (E : Value → Shared → Prop), Q (.int (g i j) s.toks) { s with toks := s.toks + 1 } → wpAny (model X.prog X.w) X.A (f (.int i t) (.int j u)) Q E s) :
    OpR X f (rI0 fun i j => .int (g i j)) := by
  intro pins s σ H x y v u Q I rx ry h
  obtain ⟨i, j, rfl, rfl, q⟩ := h
  obtain ⟨t, rfl⟩ := rx
  obtain ⟨t', rfl⟩ := ry
  exact rule i j t t' s _ _ ⟨.int (g i j), H, I.tok _, ⟨_, rfl⟩, q⟩
private theorem opB0 {f : Value → Value → Sem Value} {g : Int → Int → Bool}
    (rule : ∀ (i j : Int) (t u : Tok) (s : Shared) (Q : Value → Shared → Prop) (E : Value → Shared → Prop), Q (.bool (g i j)) s → wpAny (model X.prog X.w) X.A (f (.int i t) (.int j u)) Q E s) :
    OpR X f (rI0 fun i j => .bl (g i j)) := by
  intro pins s σ H x y v u Q I rx ry h
  obtain ⟨i, j, rfl, rfl, q⟩ := h
  obtain ⟨t, rfl⟩ := rx
  obtain ⟨t', rfl⟩ := ry
  exact rule i j t t' s _ _ ⟨.bl (g i j), H, I, rfl, q⟩
noncomputable def CPow (i j : Int) : Prop := 0 ≤ j ∧ j ≤ 1000000 ∧ i.natAbs < 2 ^ 64
noncomputable def CMul (i j : Int) : Prop := (-(2 ^ 64) < i ∧ i < 2 ^ 64) ∨ (-(2 ^ 64) < j ∧ j < 2 ^ 64)
private theorem CMul.ok {i j : Int} (h : CMul i j) : IntMulOk i j := by
  rcases h with ⟨h1, h2⟩ | ⟨h1, h2⟩
  · exact .of_left (intBits_le_64 h1 h2)
  · exact .of_right (intBits_le_64 h1 h2)
private theorem op_add : OpR X (binaryOp .Add) (rI0 fun i j => .int (i + j)) := opI0 fun _ _ _ _ _ _ _ q => add_int q
private theorem op_sub : OpR X (binaryOp .Sub) (rI0 fun i j => .int (i - j)) := opI0 fun _ _ _ _ _ _ _ q => sub_int q
private theorem op_mul : OpR X (binaryOp .Mult) (rI CMul fun i j => .int (i * j)) := opI fun _ _ _ _ _ _ _ hc q => mul_int q hc.ok
private theorem op_modN : OpR X (binaryOp .Mod) (rI (fun _ j => j ≠ 0) fun i j => .int (i.fmod j)) := opI fun _ _ _ _ _ _ _ hc q => mod_int' hc q
private theorem op_pow : OpR X (binaryOp .Pow) (rI CPow fun i j => .int (i ^ j.toNat)) := opI fun _ _ _ _ _ _ _ hc q => pow_int_small hc.1 hc.2.1 hc.2.2 q
private theorem unI {f : Value → Sem Value} {g : Int → Int}
    (rule : ∀ (i : Int) (t : Tok) (s : Shared) (Q : Value → Shared → Prop) (E : Value → Shared → Prop), Q (.int (g i) s.toks) { s with toks := s.toks + 1 } → wpAny (model X.prog X.w) X.A (f (.int i t)) Q E s) :
    UnR X f (rU fun i => .int (g i)) := by
  intro pins s σ H x v Q I rx h
  obtain ⟨i, rfl, q⟩ := h
  obtain ⟨t, rfl⟩ := rx
  exact rule i t s _ _ ⟨.int (g i), H, I.tok _, ⟨_, rfl⟩, q⟩
private theorem un_neg : UnR X (unaryOp .USub) (rU fun i => .int (-i)) := unI fun _ _ _ _ _ q => neg_int q
end
section
variable {X : Cx} {a b c : Expr} {ta tb tc : TE} {pos : Pos}
private theorem fin_bl {pins : List (Addr × Obj)} {σ : St} {H : Hp} {s : Shared} {Q : VK} {k k' : Bool} (I : Inv X pins σ H s) (q : Q (.bl k) H) (e : k = k') : EP X pins σ Q (.bool k') s := by
  subst e
  exact ⟨.bl k, H, I, rfl, q⟩
private theorem op_lt : OpR X (compareOp .Lt) (rI0 fun i j => .bl (decide (i < j))) := opB0 fun _ _ _ _ _ _ _ q => lt_int q
private theorem op_gt : OpR X (compareOp .Gt) (rI0 fun i j => .bl (decide (j < i))) := opB0 fun _ _ _ _ _ _ _ q => gt_int q
private theorem op_isN : OpR X (compareOp .Is) (fun x y H Q => y = .non ∧ Q (.bl (decide (x = .non))) H) := by
  intro pins s σ H x y v u Q I rx ry h
  obtain ⟨rfl, q⟩ := h
  cases ry
  refine is_none_gen (fin_bl I q ?_)
  cases x <;> first
    | (cases rx; rfl)
    | (obtain ⟨t, rfl⟩ := rx; rfl)
private theorem op_notN : OpR X (compareOp .IsNot) (fun x y H Q => y = .non ∧ Q (.bl (!decide (x = .non))) H) := by
  intro pins s σ H x y v u Q I rx ry h
  obtain ⟨rfl, q⟩ := h
  cases ry
  refine isnot_none_gen (fin_bl I q ?_)
  cases x <;> first
    | (cases rx; rfl)
    | (obtain ⟨t, rfl⟩ := rx; rfl)
private theorem nomark (b : Expr) {op : CmpOp} (h : op ≠ .In := by decide) (h2 : op ≠ .NotIn := by decide) : behindInMarks op b = false := by
  have e1 : (op == CmpOp.In) = false := by cases op <;> first | rfl | exact absurd rfl h
  have e2 : (op == CmpOp.NotIn) = false := by cases op <;> first | rfl | exact absurd rfl h2
  cases b <;> simp [behindInMarks, e1, e2]
private theorem pe_cmpR {op : CmpOp} {r : R2} (ho : OpR X (compareOp op) r) (ha : PE X a ta) (hb : PE X b tb) (hm : behindInMarks op b = false) : PE X (.Compare a [op] [b] pos) (tOp r ta tb) := by
  intro pins s σ H Q I h
  exact wpAny_Compare1 (binT ha hb I h fun v u s2 x y H2 I2 rx ry q => ho pins s2 σ H2 x y v u Q I2 rx ry q) hm
noncomputable def tTest (t : TE) : TT := fun σ H Q => t σ H fun x H' => ∃ k, x = .bl k ∧ Q k H'
private theorem pt_cmpR {op : CmpOp} {r : R2} (ho : OpR X (compareOp op) r) (ha : PE X a ta) (hb : PE X b tb) (hm : behindInMarks op b = false) : PT X (.Compare a [op] [b] pos) (tTest (tOp r ta tb)) := by
  intro pins s σ H Q I h
  refine wpAny_isTrue_Compare1 (thn (ha pins s σ H _ I h) fun v s1 zz47 => e23 zz47 fun x H1 I1 r1 q1 => thn (hb pins s1 σ H1 _ I1 q1) fun u s2 zz48 => e23 zz48 fun y H2 I2 r2 q2 =>
    thn (ho pins s2 σ H2 x y v u _ I2 r1 r2 q2) fun c s3 ⟨z, H3, I3, r3, k, e, q3⟩ => ?_) hm
  subst e
  cases r3
  exact wpAny_truthy_bool ⟨H3, I3, q3⟩
private theorem line63 : (sizeLine : Nat) < 2 ^ 63 := by rw [sizeLine_eq]; decide
private theorem vals1 {x : V} {us : List Value} (r : Vals [x] us) : ∃ u, us = [u] ∧ RelV x u := by
  cases r with
  | cons r1 r2 => cases r2; exact ⟨_, rfl, r1⟩
private theorem vals2 {x y : V} {us : List Value} (r : Vals [x, y] us) : ∃ u w', us = [u, w'] ∧ RelV x u ∧ RelV y w' := by
  cases r with
  | cons r1 r2 =>
    cases r2 with
    | cons r3 r4 => cases r4; exact ⟨_, _, rfl, r1, r3⟩
private theorem call_abs : CallR X (.builtin "abs") (fun xs H Q => ∃ i, xs = [.int i] ∧ Q (.int (if i < 0 then -i else i)) H) := by
  intro pins s σ H xs us Q I r h
  obtain ⟨i, rfl, q⟩ := h
  obtain ⟨u, rfl, t, rfl⟩ := vals1 r
  exact call_abs_int fun u tk => ⟨.int (if i < 0 then -i else i), H, I.tok _, ⟨_, rfl⟩, q⟩
private theorem call_max2 (hc : X.calm = true) : CallR X (.builtin "max") (fun xs H Q => ∃ i j, xs = [.int i, .int j] ∧ Q (.int (if j > i then j else i)) H) := by
  intro pins s σ H xs us Q I r h
  obtain ⟨i, j, rfl, q⟩ := h
  obtain ⟨u, w', rfl, ⟨t, rfl⟩, ⟨t', rfl⟩⟩ := vals2 r
  refine max_two_ints (I.ok.hd hc) fun h' tk k => ⟨_, H, I.kept k, ?_, q⟩
  by_cases hj : j > i
  · rw [if_pos hj, if_pos hj]; exact ⟨_, rfl⟩
  · rw [if_neg hj, if_neg hj]; exact ⟨_, rfl⟩
private theorem call_min2 (hc : X.calm = true) : CallR X (.builtin "min") (fun xs H Q => ∃ i j, xs = [.int i, .int j] ∧ Q (.int (if j < i then j else i)) H) := by
  intro pins s σ H xs us Q I r h
  obtain ⟨i, j, rfl, q⟩ := h
  obtain ⟨u, w', rfl, ⟨t, rfl⟩, ⟨t', rfl⟩⟩ := vals2 r
  refine min_two_ints (I.ok.hd hc) fun h' tk k => ⟨_, H, I.kept k, ?_, q⟩
  by_cases hj : j < i
  · rw [if_pos hj, if_pos hj]; exact ⟨_, rfl⟩
  · rw [if_neg hj, if_neg hj]; exact ⟨_, rfl⟩
end
end L2
namespace L2
open PySem PySem.Spec PyProof.Rows
structure ObjM (h : Heap) (x dx C : Addr) (mA : Str → Option Value) : Prop where
  obj : h.get? x = some (PySem.W.instObj C dx)
  ns : h.Ns1 dx mA
  ne : dx ≠ x
private theorem lookIn_ns {h : Heap} {dx : Addr} {mA : Str → Option Value} (n : h.Ns1 dx mA) : ∃ od, h.get? dx = some od ∧ ∀ name, PySem.W.lookIn name od = some (mA name) := by
  obtain ⟨o, es, ep, ho, hd, hk, _, hm⟩ := n
  refine ⟨o, ho, fun name => ?_⟩
  have e := hm name
  unfold nsFind findBy at e
  rw [← Array.find?_toList] at e
  unfold PySem.W.lookIn
  rw [hd]
  dsimp only
  split
  · rename_i y q
    rw [q] at e
    exact congrArg some e
  · rename_i q
    rw [q] at e
    have a : es.toList.any (·.refKey) = false := by
      rw [List.any_eq_false]
      intro y hy
      obtain ⟨z, t, hkey⟩ := hk y (Array.mem_toList_iff.mp hy)
      simp [DictEntry.refKey, hkey]
    have a' : ¬ es.toList.any (·.refKey) = true := by rw [a]; exact Bool.false_ne_true
    rw [if_neg a']
    exact congrArg some e
private theorem ObjM.look {h : Heap} {x dx C : Addr} {mA : Str → Option Value} (I : ObjM h x dx C mA) : ∃ od, PySem.W.InstAt h x (PySem.W.instObj C dx) C (some od) ∧ ∀ name, PySem.W.lookIn name od = some (mA name) :=
  let ⟨od, ho, hl⟩ := lookIn_ns I.ns
  ⟨od, ⟨I.obj, rfl, rfl, ho⟩, hl⟩
section
variable {prog : Program} {w : World} {A : Around} {E : Value → Shared → Prop} {s : Shared} {K : PySem.W.Frag} {x dx C f : Addr} {mA : Str → Option Value} {name : Str} {v : Value}
private theorem get_map {expr : Bool} {Q : Value → Shared → Prop} (X : K.In s.heap) (I : ObjM s.heap x dx C mA) (hg : PySem.W.plainGet K C name = true) (hh : PySem.W.hasDictIn K C = true)
    (ha : PySem.W.findIn K (.ref C) name = some none) (hv : mA name = some v) (hv' : PySem.W.handedIn v = true) (h : Q v { s with toks := s.toks + 1 }) :
    wpAny (model prog w) A (getAttr (.ref x) name expr) Q E s := by
  obtain ⟨od, J, hl⟩ := I.look
  exact PySem.W.get_value X J (PySem.W.plainGet_of hg).1 (PySem.W.findObj_own hh ha rfl (by rw [hl, hv])) hv' h
private theorem set_map {ns : List Str} {Q : Unit → Shared → Prop} (X : K.In s.heap) (I : ObjM s.heap x dx C mA)
    (hs : PySem.W.findIn K (.ref C) "__setattr__" = some (some (.builtin "object.__setattr__"))) (hp : PySem.W.plainOver K C = true) (ht : PySem.W.takerIn K C name = some none) (hh : PySem.W.hasDictIn K C = true)
    (hw : PySem.Within mA ns) (hsz : ns.length ≤ sizeLine)
    (h : ∀ h', ObjM h' x dx C (fun y => if y = name then some v else mA y) → Heap.SameBut dx s.heap h' → Q () { s with heap := h', toks := s.toks + 2 }) :
    wpAny (model prog w) A (setAttr (.ref x) name v) Q E s := by
  obtain ⟨od, J, hl⟩ := I.look
  refine PySem.W.set_plain X J hs (PySem.W.osa_open (s := { s with toks := s.toks + 1 }) (r := none) X J hp ht fun b => ?_)
  obtain ⟨cd, hc, hd'⟩ := PySem.W.any_some hh
  have hx : s.heap.get? x = some ⟨.ref C, some dx, .plain, #[]⟩ := I.obj
  refine wpAny_bind (wpAny_pure (wpAny_bind (wpAny_bind (wpAny_loadPart hx (wpAny_bind (PySem.W.Looks.here (s := { s with toks := s.toks + 1 }) (PySem.W.looks_clsIn X hc) ?_))))))
  rw [hd']
  refine wpAny_pure (a := some dx) (wpAny_bind (wpAny_pure (wpAny_bind ?_)))
  refine wpAny_nsSet1 (s := { s with toks := s.toks + 1 }) I.ns fun h' hn2 hs2 => ?_
  obtain ⟨oD, esD, epD, hoD, hdD, hcD⟩ := hn2.count (PySem.Within.cons name v hw)
  refine wpAny_bind (wpAny_lookBehind hoD (by rw [hdD]; exact pastItsLine_dict (Nat.le_trans hcD (by rw [List.length_cons]; omega))) ?_)
  exact wpAny_pure (h _ ⟨(hs2.2 _ (Ne.symm I.ne)).trans I.obj, hn2, I.ne⟩ hs2)
private theorem make_map {R : Result → Shared → Prop} {vs : List Value} {kw : List (Str × Value)} (X : K.In s.heap) (hm : PySem.W.makesIn K C = true)
    (hi : PySem.W.findIn K (.ref C) "__init__" = some (some (.ref f))) (hf : PySem.W.typeIn K (.ref f) = some (.type "function"))
    (h : codeAny (model prog w) (A.under (.builtin "type.__call__" ⟨.ref C :: vs, kw⟩)) (.call (.ref f) ⟨.ref (s.heap.objs.size + 1) :: vs, kw⟩) (PySem.W.InitBack (s.heap.objs.size + 1) R)
      { s with heap := (s.heap.push PySem.W.emptyDict).push (PySem.W.instObj C s.heap.objs.size) }) :
    codeAny (model prog w) A (.call (.ref C) ⟨vs, kw⟩) R s := by
  obtain ⟨hh, g, d, t, os⟩ := s
  exact PySem.W.make_core (PySem.W.makes_of X hm) (PySem.W.looks_findIn X hi) (fun self => PySem.W.bind_fn X self hf) (.inl rfl) h
end
noncomputable def putF (f : Str) (v : V) : List (Str × V) → List (Str × V)
  | [] => [(f, v)]
  | (g, x) :: r => if g = f then (g, v) :: r else (g, x) :: putF f v r
private theorem lookup_putF (f g : Str) (v : V) : ∀ fs : List (Str × V), (putF f v fs).lookup g = if g = f then some v else fs.lookup g
  | [] => by
    show List.lookup g [(f, v)] = _
    by_cases h : g = f
    · have hb : (g == f) = true := beq_iff_eq.mpr h
      simp only [List.lookup, hb, if_pos h]
    · have hb : (g == f) = false := beq_eq_false_iff_ne.mpr h
      simp only [List.lookup, hb, if_neg h]
  | (k, x) :: r => by
    have ih := lookup_putF f g v r
    rw [show putF f v ((k, x) :: r) = (if k = f then (k, v) :: r else (k, x) :: putF f v r) from rfl]
    by_cases hk : k = f
    · rw [if_pos hk]
      by_cases h : g = k
      · have hb : (g == k) = true := beq_iff_eq.mpr h
        simp only [List.lookup, hb, if_pos (h.trans hk)]
      · have hb : (g == k) = false := beq_eq_false_iff_ne.mpr h
        simp only [List.lookup, hb, if_neg (fun e : g = f => h (e.trans hk.symm))]
    · rw [if_neg hk]
      by_cases h : g = k
      · have hb : (g == k) = true := beq_iff_eq.mpr h
        simp only [List.lookup, hb, if_neg (fun e : g = f => hk (h.symm.trans e))]
      · have hb : (g == k) = false := beq_eq_false_iff_ne.mpr h
        simp only [List.lookup, hb]
        exact ih
private theorem keys_putF (f : Str) (v : V) : ∀ fs : List (Str × V), f ∈ (putF f v fs).map (·.1) ∧ ∀ g, g ∈ fs.map (·.1) → g ∈ (putF f v fs).map (·.1)
  | [] => ⟨by simp [putF], fun g h => by simp at h⟩
  | (k, x) :: r => by
    obtain ⟨i1, i2⟩ := keys_putF f v r
    rw [show putF f v ((k, x) :: r) = (if k = f then (k, v) :: r else (k, x) :: putF f v r) from rfl]
    by_cases hk : k = f
    · rw [if_pos hk]
      subst hk
      exact ⟨by simp, fun g h => by simpa using h⟩
    · rw [if_neg hk]
      refine ⟨?_, fun g h => ?_⟩
      · rw [List.map_cons]
        exact List.mem_cons_of_mem _ i1
      · rw [List.map_cons] at h ⊢
        rcases List.mem_cons.mp h with e | e
        · exact List.mem_cons.mpr (.inl e)
        · exact List.mem_cons_of_mem _ (i2 g e)
private theorem length_putF (f : Str) (v : V) : ∀ fs : List (Str × V), (putF f v fs).length ≤ fs.length + 1
  | [] => by simp [putF]
  | (k, x) :: r => by
    have ih := length_putF f v r
    rw [show putF f v ((k, x) :: r) = (if k = f then (k, v) :: r else (k, x) :: putF f v r) from rfl]
    by_cases hk : k = f
    · rw [if_pos hk, List.length_cons, List.length_cons]; omega
    · rw [if_neg hk, List.length_cons, List.length_cons]; omega
private theorem RelO.some_of {v : V} {o : Option Value} (r : RelO (some v) o) : ∃ u, o = some u ∧ RelV v u := by
  cases o with
  | none => exact (show False from r).elim
  | some u => exact ⟨u, rfl, r⟩
private theorem handed_of {v : V} {u : Value} (r : RelV v u) : PySem.W.handedIn u = true := by
  cases v with
  | non => cases (show u = Value.none from r); rfl
  | bl b => cases (show u = Value.bool b from r); rfl
  | int i => obtain ⟨t, e⟩ := (show ∃ t, u = Value.int i t from r); cases e; rfl
  | str x => obtain ⟨t, e⟩ := (show ∃ t, u = Value.str x t from r); cases e; rfl
  | byt b => obtain ⟨t, e⟩ := (show ∃ t, u = Value.bytes b t from r); cases e; rfl
  | flt b => obtain ⟨t, e⟩ := (show ∃ t, u = Value.float b t from r); cases e; rfl
  | ref a => cases (show u = Value.ref a from r); rfl
  | ty n => cases (show u = Value.type n from r); rfl
section
variable {P : Program} {w : World} {H H' : Hp} {h h' : Heap} {a C dx : Addr} {fs fs' : List (Str × V)}
private theorem ins_get (hok : HOk P w H h) (e : H a = some (.ins C dx fs)) : ∃ mA, ObjM h a dx C mA ∧ (∀ f, RelO (fs.lookup f) (mA f)) ∧ PySem.Within mA (fs.map (·.1)) ∧ fs.length ≤ 1000 ∧ H dx = some (.own a) := by
  obtain ⟨d, z, ne, ob, mA, n, r, q⟩ := (show ObjOk P w H h a (.ins C dx fs) from hok a _ e)
  exact ⟨mA, ⟨ob, n, ne⟩, r, q, z, d⟩
end
structure Cls (K : PySem.W.Frag) (C : Addr) : Prop where
  pg : PySem.W.plainGet K C Str.empty = true
  hd : PySem.W.hasDictIn K C = true
  po : PySem.W.plainOver K C = true
  sa : PySem.W.findIn K (.ref C) "__setattr__" = some (some (.builtin "object.__setattr__"))
private theorem Cls.get {K : PySem.W.Frag} {C : Addr} (c : Cls K C) (f : Str) : PySem.W.plainGet K C f = true := c.pg
noncomputable def NoAttr (K : PySem.W.Frag) (C : Addr) (f : Str) : Prop := PySem.W.findIn K (.ref C) f = some none
private theorem NoAttr.taker {K : PySem.W.Frag} {C : Addr} {f : Str} (n : NoAttr K C f) : PySem.W.takerIn K C f = some none := by
  unfold PySem.W.takerIn
  rw [show PySem.W.findIn K (.ref C) f = some none from n]
  rfl
section
variable {X : Cx} {pins : List (Addr × Obj)} {σ : St} {H : Hp} {s : Shared} {a C dx : Addr} {fs : List (Str × V)} {f : Str} {v : V} {A : Around} {E : Value → Shared → Prop}
private theorem getattr_ok {b : Bool} {Q : Value → Shared → Prop} (I : Inv X pins σ H s) (e : H a = some (.ins C dx fs)) (c : Cls X.K C) (n : NoAttr X.K C f) (l : fs.lookup f = some v)
    (h : ∀ u s', Inv X pins σ H s' → RelV v u → Q u s') : wpAny (model X.prog X.w) A (getAttr (.ref a) f b) Q E s := by
  obtain ⟨mA, O, r, _, _, _⟩ := ins_get I.hok e
  obtain ⟨u, hu, ru⟩ := RelO.some_of (v := v) (o := mA f) (by rw [← l]; exact r f)
  exact get_map I.kIn O (c.get f) c.hd n hu (handed_of ru) (h u _ (I.tok _) ru)
private theorem setattr_ok {y : V} {u : Value} {Q : Unit → Shared → Prop} (I : Inv X pins σ H s) (e : H a = some (.ins C dx fs)) (c : Cls X.K C) (n : NoAttr X.K C f) (hl : fs.length < 1000) (ry : RelV y u)
    (h : ∀ s', Inv X pins σ (upd H a (.ins C dx (putF f y fs))) s' → Q () s') : wpAny (model X.prog X.w) A (setAttr (.ref a) f u) Q E s := by
  obtain ⟨mA, O, r, wi, _, ho⟩ := ins_get I.hok e
  have hz : (fs.map (·.1)).length ≤ sizeLine := by rw [List.length_map, sizeLine_eq]; omega
  refine set_map I.kIn O c.sa c.po n.taker c.hd wi hz fun h' O' sb => h _ ?_
  have hd : ∃ o, h'.get? dx = some o := let ⟨o, _, _, e', _⟩ := O'.ns; ⟨o, e'⟩
  refine I.write (x := a) (e := dx) (by rw [e]; exact True.intro) (.inr ho) (fun b q hb z => (sb.2 b hb).trans z) hd ?_
  refine ⟨by rw [upd_ne O.ne]; exact ho, ?_, O.ne, O'.obj, _, O'.ns, fun g => ?_, fun g hg => ?_⟩
  · have := length_putF f y fs; omega
  · show RelO ((putF f y fs).lookup g) (if g = f then some u else mA g)
    rw [lookup_putF]
    by_cases q : g = f
    · rw [if_pos q, if_pos q]; exact ry
    · rw [if_neg q, if_neg q]; exact r g
  · by_cases q : g = f
    · rw [q]; exact (keys_putF f y fs).1
    · refine (keys_putF f y fs).2 g (wi g fun z => hg ?_)
      show (if g = f then some u else mA g) = none
      rw [if_neg q]; exact z
private theorem Inv.made (I : Inv X pins σ H s) : Inv X pins σ (upd (upd H s.heap.objs.size (.own (s.heap.objs.size + 1))) (s.heap.objs.size + 1) (.ins C s.heap.objs.size []))
    { s with heap := (s.heap.push PySem.W.emptyDict).push (PySem.W.instObj C s.heap.objs.size) } := by
  have e1 : (s.heap.push PySem.W.emptyDict).get? s.heap.objs.size = some PySem.W.emptyDict := Heap.get?_push_size s.heap rfl
  have e2 : ((s.heap.push PySem.W.emptyDict).push (PySem.W.instObj C s.heap.objs.size)).get? (s.heap.objs.size + 1) = some (PySem.W.instObj C s.heap.objs.size) := by
    have := Heap.get?_push_size (s.heap.push PySem.W.emptyDict) (o := PySem.W.instObj C s.heap.objs.size) rfl
    rwa [Heap.size_push] at this
  have e3 : (s.heap.push PySem.W.emptyDict).Ns s.heap.objs.size (fun _ => none) := ⟨PySem.W.emptyDict, #[], _, e1, rfl, (fun e he => absurd he (by simp)), fun _ => rfl⟩
  have I1 := I.laid (a := s.heap.objs.size) (o := .own (s.heap.objs.size + 1)) (h' := s.heap.push PySem.W.emptyDict) (t' := s.toks) (fun b u q => Heap.get?_push_of_some _ q) (Nat.le_refl _) ⟨_, e1⟩
  refine I1.laid (a := s.heap.objs.size + 1) (o := .ins C s.heap.objs.size []) (t' := s.toks) (fun b u q => Heap.get?_push_of_some _ q) (Nat.le_of_eq (Heap.size_push _ _)) ?_
  have ne : s.heap.objs.size ≠ s.heap.objs.size + 1 := Nat.ne_of_lt (Nat.lt_succ_self _)
  refine ⟨by rw [upd_ne ne, upd_same], Nat.zero_le _, ne, e2, fun _ => none, (Heap.Ns1.of_empty e3).at fun o q => Heap.get?_push_of_some _ q, fun _ => True.intro, fun y hy => absurd rfl hy⟩
private theorem attr_of {prog : Program} {w : World} {env : Env} {e : Expr} {f : Str} {pos : Pos} {s : Shared} {Q : Value → Shared → Prop} (hb : attributeBase e f env (eval e env) = eval e env)
    (h : wpAny (model prog w) A (eval e env) (fun o s₁ => wpAny (model prog w) A (getAttr o f true) Q E s₁) E s) : wpAny (model prog w) A (eval (.Attribute e f pos) env) Q E s :=
  Attribute_any_ h (by rw [arm_eval_Attribute, hb])
end
noncomputable def tFld (K : PySem.W.Frag) (ta : TE) (f : Str) : TE := fun σ H Q => ta σ H fun x H1 => ∃ a C dx fs v, x = .ref a ∧ H1 a = some (.ins C dx fs) ∧ Cls K C ∧ NoAttr K C f ∧ fs.lookup f = some v ∧ Q v H1
noncomputable def sFld (K : PySem.W.Frag) (ta tv : TE) (f : Str) : TS := fun D σ H => tv σ H fun y H1 => ta σ H1 fun x H2 => ∃ a C dx fs, x = .ref a ∧ H2 a = some (.ins C dx fs) ∧ Cls K C ∧ NoAttr K C f ∧ fs.length < 1000 ∧
  D.nx σ (upd H2 a (.ins C dx (putF f y fs)))
section
variable {X : Cx} {o e value : Expr} {f : Str} {pos pos' tpos : Pos} {ta tv : TE}
end
section
variable {X : Cx} {pins : List (Addr × Obj)} {σ : St} {H : Hp} {s : Shared} {A : Around} {E : Value → Shared → Prop} {Q : Value → Shared → Prop} {c : Value} {b : Bool}
inductive TyOf (K : PySem.W.Frag) (H : Hp) : V → Value → Prop where
  | non : TyOf K H .non (.type "NoneType")
  | bl (x : Bool) : TyOf K H (.bl x) (.type "bool")
  | int (i : Int) : TyOf K H (.int i) (.type "int")
  | str (x : Str) : TyOf K H (.str x) (.type "str")
  | flt (x : UInt64) : TyOf K H (.flt x) (.type "float")
  | lst {a : Addr} {xs : List V} (e : H a = some (.lst xs)) : TyOf K H (.ref a) (.type "list")
  | frz {a : Addr} {o : Obj} {xs : List V} (e : H a = some (.frz o (.lst xs))) : TyOf K H (.ref a) (.type "list")
  | tup {a : Addr} {xs : List V} (e : H a = some (.tup xs)) : TyOf K H (.ref a) (.type "tuple")
  | dK {a : Addr} {kvs : List (Key × V)} (e : H a = some (.dK kvs)) : TyOf K H (.ref a) (.type "dict")
  | dT {a : Addr} {kvs : List (List Key × V)} (e : H a = some (.dT kvs)) : TyOf K H (.ref a) (.type "dict")
  | ins {a C dx : Addr} {fs : List (Str × V)} (e : H a = some (.ins C dx fs)) (cl : Cls K C) (ha : PySem.W.findIn K (.ref C) "__class__" = some (some (.builtin "object.__class__")))
      (hn : PySem.W.specialIn K (.builtin "object.__class__") "__get__" = some (some (.builtin "getset_descriptor.__get__"))) (htk : PySem.W.takesIn K (.builtin "object.__class__") = some true)
      (hm : PySem.W.mroIn K C (.type "object") = some true) : TyOf K H (.ref a) (.ref C)
end
end L2
namespace L2
open PySem PySem.Spec PyProof.Rows
structure Room (k : Nat) (A : Around) : Prop where
  hd : A.handled = none
  dp : A.depth + 3 * k + 5 < recursionLimit
  un : A.units + 16 * k + 200 < cLine
private theorem Room.mono {j k : Nat} {A : Around} (r : Room k A) (h : j ≤ k) : Room j A := ⟨r.hd, by have := r.dp; omega, by have := r.un; omega⟩
private theorem Room.deeper {k : Nat} {A : Around} (r : Room (k + 1) A) (env : Env) : Room k (A.deeper env) :=
  ⟨r.hd, by have := r.dp; show A.depth + 1 + 3 * k + 5 < _; omega, by have := r.un; show A.units + 3 + 16 * k + 200 < _; omega⟩
private theorem make_depth {A : Around} {C : Addr} {us : List Value} {kw : List (Str × Value)} : (A.under (.builtin "type.__call__" ⟨.ref C :: us, kw⟩)).depth = A.depth + 1 := by
  first | rfl | simp [Around.under, Code.weight, Code.isCreation, Code.isGuard, Code.isCaller, Code.frames, Code.isFrame, guardIds]
private theorem make_units {A : Around} {C : Addr} {us : List Value} {kw : List (Str × Value)} : (A.under (.builtin "type.__call__" ⟨.ref C :: us, kw⟩)).units = A.units + 1 := by
  first | rfl | simp [Around.under, Code.cUnits, Code.frames, Code.isFrame]
private theorem Room.make {k : Nat} {A : Around} (r : Room (k + 1) A) (C : Addr) (us : List Value) (kw : List (Str × Value)) : Room k (A.under (.builtin "type.__call__" ⟨.ref C :: us, kw⟩)) :=
  ⟨r.hd, by have := r.dp; rw [make_depth]; omega, by have := r.un; rw [make_units]; omega⟩
private theorem Room.depth {k : Nat} {A : Around} (r : Room k A) : A.depth < recursionLimit := by have := r.dp; omega
noncomputable def tNil : TA := fun _ H Q => Q [] H
noncomputable def tCons (ta : TE) (tr : TA) : TA := fun σ H Q => ta σ H fun x H1 => tr σ H1 fun xs H2 => Q (x :: xs) H2
section
variable {X : Cx} {e : Expr} {es : List Expr} {te : TE} {t : TA} {pos : Pos}
private theorem pa_nil : PA X [] tNil := fun _ _ _ _ H Q I h => Calls.spliced_nil ⟨[], H, I, .nil, h⟩
private theorem pa_cons (ha : PE X e te) (hr : PA X es t) (hs : starEach (e :: es) X.env = (false, eval e X.env) :: starEach es X.env := by rfl) : PA X (e :: es) (tCons te t) := by
  intro pos pins s σ H Q I h
  rw [hs]
  show wpAny _ _ (spliced ((false, eval e X.env) :: backTo pos (starEach es X.env))) _ _ s
  refine Calls.spliced_cons (thn (ha pins s σ H _ I h) fun u s1 zz68 => e23 zz68 fun x H1 I1 r1 q1 => ?_)
  exact thn (hr pos pins s1 σ H1 _ I1 q1) fun us s2 zz69 => e23 zz69 fun xs H2 I2 r2 q2 => ⟨x :: xs, H2, I2, .cons r1 r2, q2⟩
noncomputable def tTup (t : TA) : TE := fun σ H Q => t σ H fun xs H1 => xs.length ≤ sizeLine ∧ ∀ p, H1 p = none → Q (.ref p) (upd H1 p (.tup xs))
noncomputable def tLst (t : TA) : TE := fun σ H Q => t σ H fun xs H1 => xs.length ≤ sizeLine ∧ ∀ p, H1 p = none → Q (.ref p) (upd H1 p (.lst xs))
private theorem pe_tup {x1} (h : PA X es t) : PE X (.Tuple es x1 pos) (tTup t) := by
  intro pins s σ H Q I hq
  refine wpAny_Tuple_spliced (thn (h pos pins s σ H _ I hq) fun us s1 zz70 => e24 zz70 fun xs H1 I1 r z q => ⟨by rw [← r.length]; exact z, ?_⟩)
  have hf : H1 s1.heap.objs.size = none := I1.hok.fresh (Nat.le_refl _)
  refine ⟨.ref s1.heap.objs.size, upd H1 s1.heap.objs.size (.tup xs), I1.laid (t' := s1.toks) (fun b u e => Heap.get?_push_of_some _ e) (Nat.le_refl _) ?_, rfl, q _ hf⟩
  exact ⟨z, us, r, ⟨_, Heap.get?_push_size _ rfl, rfl, _, rfl⟩⟩
private theorem pe_lst (h : PA X es t) : PE X (.List es pos) (tLst t) := by
  intro pins s σ H Q I hq
  refine wpAny_List_spliced (thn (h pos pins s σ H _ I hq) fun us s1 zz71 => e24 zz71 fun xs H1 I1 r z q => ⟨by rw [← r.length]; exact z, ?_⟩)
  have hf : H1 s1.heap.objs.size = none := I1.hok.fresh (Nat.le_refl _)
  refine ⟨.ref s1.heap.objs.size, upd H1 s1.heap.objs.size (.lst xs), I1.laid (t' := s1.toks) (fun b u e => Heap.get?_push_of_some _ e) (Nat.le_refl _) ?_, rfl, q _ hf⟩
  exact ⟨z, us, 0, r, Heap.get?_push_size _ rfl⟩
end
noncomputable abbrev Sp := List V → Hp → VK → XK → Prop
noncomputable abbrev CXT := List Env → Hp → Shared → XK → Value → Shared → Prop
structure Env0 (P : Program) (w : World) (K : PySem.W.Frag) (mg : Str → Option Value) (base : Heap) (A : Around) (outer : List Env) (s : Shared) (H : Hp) : Prop where
  frames : A.frames = some outer
  mod : Mod K mg base
  bs : ∀ b o, base.get? b = some o → s.heap.get? b = some o ∧ H b = none
  bsz : base.objs.size ≤ s.heap.objs.size
  funs : s.heap.FunFrames base outer
  frf : ∀ b ∈ frs outer, H b = none
  hok : HOk P w H s.heap
  bare : AllBare s.gens
noncomputable def CE (outer : List Env) (P : Program) (w : World) (H : Hp) (s : Shared) (Q : VK) (u : Value) (s' : Shared) : Prop :=
  ∃ v H', s'.os = s.os ∧ AllBare s'.gens ∧ Un (frs outer) [] H H' s.heap s'.heap ∧ HOk P w H' s'.heap ∧ RelV v u ∧ Q v H'
noncomputable def CR (CX : CXT) (outer : List Env) (P : Program) (w : World) (H : Hp) (s : Shared) (Q : VK) (E : XK) (r : Result) (s' : Shared) : Prop :=
  match r with
  | .ok (.ret u) => CE outer P w H s Q u s'
  | .ok _ => False
  | .error e => CX outer H s E e s'
structure FnOk (P : Program) (w : World) (K : PySem.W.Frag) (mg : Str → Option Value) (base : Heap) (CX : CXT) (k : Nat) (f : Addr) (fd : FuncData) (ps : List Str) (sp : Sp) : Prop where
  len : ∀ vs H Q E, sp vs H Q E → vs.length = ps.length
  run : ∀ (A : Around) (outer : List Env) (s : Shared) (H : Hp) (args : Args) (us : List Value) (vs : List V) (Q : VK) (E : XK), Room k A → Env0 P w K mg base A outer s H → BindsTo s fd args (ps.zip us) → Vals vs us → sp vs H Q E →
    codeAny (model P w) A (.call (.ref f) args) (CR CX outer P w H s Q E) s
private theorem FnOk.imp {P : Program} {w : World} {K : PySem.W.Frag} {mg : Str → Option Value} {base : Heap} {CX : CXT} {k : Nat} {f : Addr} {fd : FuncData} {ps : List Str} {sp sp' : Sp} (F : FnOk P w K mg base CX k f fd ps sp)
    (h : ∀ vs H Q E, sp' vs H Q E → sp vs H Q E) : FnOk P w K mg base CX k f fd ps sp' :=
  ⟨fun vs H Q E q => F.len vs H Q E (h _ _ _ _ q), fun A outer s H args us vs Q E hr he hb hv hs => F.run A outer s H args us vs Q E hr he hb hv (h _ _ _ _ hs)⟩
private theorem Env0.make {P : Program} {w : World} {K : PySem.W.Frag} {mg : Str → Option Value} {base : Heap} {A : Around} {outer : List Env} {s : Shared} {H : Hp} (e : Env0 P w K mg base A outer s H) (C : Addr) (us : List Value) (kw : List (Str × Value)) :
    Env0 P w K mg base (A.under (.builtin "type.__call__" ⟨.ref C :: us, kw⟩)) outer s H := ⟨by first | exact e.frames | (simpa [Around.under, Code.envs, Code.isFrame, pushEnvs] using e.frames), e.mod, e.bs, e.bsz, e.funs, e.frf, e.hok, e.bare⟩
section
variable {X : Cx} {pins : List (Addr × Obj)} {σ : St} {H : Hp} {s s' : Shared}
private theorem Inv.env0 (I : Inv X pins σ H s) : Env0 X.prog X.w X.K X.mg X.base X.A X.stack s H :=
  ⟨I.ok.frames, I.ok.mod, I.bs, Nat.le_trans I.ok.bsz I.sz, I.stack, I.stkFree, I.hok, I.bare⟩
private theorem Inv.after {Q : VK} {u : Value} (I : Inv X pins σ H s) (h : CE X.stack X.prog X.w H s Q u s') : EP X pins σ Q u s' := by
  obtain ⟨v, H', os, bare, un, hok, r, q⟩ := h
  obtain ⟨hh, g, d, t, os'⟩ := s'
  obtain rfl : os' = s.os := os
  exact ⟨v, H', I.call (h' := hh) (g' := g) (d' := d) (t' := t) (ch := []) un hok bare (fun b z => absurd z (by simp)), r, q⟩
end
noncomputable def tCall (sp : Sp) (dvs : List V) (E : XK) (t : TA) : TE := fun σ H Q => t σ H fun vs H1 => sp (vs ++ dvs) H1 Q E
noncomputable def tMake (C : Addr) (sp : Sp) (dvs : List V) (E : XK) (t : TA) : TE := fun σ H Q => t σ H fun vs H1 => ∀ x dx, H1 x = none → H1 dx = none → dx ≠ x →
  sp (.ref x :: (vs ++ dvs)) (upd (upd H1 dx (.own x)) x (.ins C dx [])) (fun v H2 => v = .non ∧ Q (.ref x) H2) E
noncomputable def Binds (K : PySem.W.Frag) (fd : FuncData) (ps : List Str) (ds : List Value) : Prop :=
  ∀ (s : Shared) (us : List Value), K.In s.heap → (us ++ ds).length = ps.length → BindsTo s fd ⟨us, []⟩ (ps.zip (us ++ ds))
private theorem Binds.all {K : PySem.W.Frag} {fd : FuncData} {ps : List Str} (h : ∀ us : List Value, us.length = ps.length → bindArgs fd ⟨us, []⟩ = pure (ps.zip us)) : Binds K fd ps [] := fun s us _ hl => by
  rw [List.append_nil] at hl ⊢
  exact .of_eq (h us hl)
noncomputable def Passes (CX : CXT) (X : Cx) (E : XK) : Prop := ∀ (pins : List (Addr × Obj)) (σ : St) (H : Hp) (s : Shared) (e : Value) (s' : Shared), Inv X pins σ H s → CX X.stack H s E e s' → X.xe e s'
section
variable {X : Cx} {CX : CXT} {k : Nat} {f C : Addr} {fd : FuncData} {ps : List Str} {sp : Sp} {dvs : List V} {ds : List Value} {E : XK} {x m : Str} {p pos apos : Pos} {e o : Expr} {es : List Expr} {ta : TE} {t : TA}
private theorem run_fn {pins : List (Addr × Obj)} {σ : St} {H : Hp} {s : Shared} {Q : VK} {us : List Value} {vs : List V} (F : FnOk X.prog X.w X.K X.mg X.base CX k f fd ps sp) (hr : Room k X.A) (hb : Binds X.K fd ps ds) (hd : Vals dvs ds) (hx : Passes CX X E)
    (I : Inv X pins σ H s) (r : Vals vs us) (h : sp (vs ++ dvs) H Q E) : wpAny (model X.prog X.w) X.A (call (.ref f) us) (EP X pins σ Q) X.xe s := by
  have r2 : Vals (vs ++ dvs) (us ++ ds) := r.append hd
  have hl : (us ++ ds).length = ps.length := by rw [← r2.length]; exact F.len _ _ _ _ h
  refine wpAny_call (codeAny_mono (F.run X.A X.stack s H ⟨us, []⟩ (us ++ ds) (vs ++ dvs) Q E hr I.env0 (hb s us I.kIn hl) r2 h) fun r s' hq => ?_)
  cases r with
  | error e => exact hx pins σ H s e s' I hq
  | ok fl =>
    cases fl with
    | ret u => exact I.after hq
    | next => exact False.elim hq
    | brk => exact False.elim hq
    | cont => exact False.elim hq
private theorem pe_call (F : FnOk X.prog X.w X.K X.mg X.base CX k f fd ps sp) (hr : Room k X.A) (hg : Gl X x) (hm : X.mg x = some (.ref f)) (hk : PySem.W.keepIn X.K (.ref f) = true) (hb : Binds X.K fd ps ds) (hd : Vals dvs ds) (hx : Passes CX X E)
    (ha : PA X (e :: es) t) (hdb : (x == ("__debug__" : Str)) = false := by decide) (he : starEach (e :: es) X.env = (false, eval e X.env) :: starEach es X.env := by rfl) (hpl : (backTo pos (starEach es X.env)).any (·.1) = false := by rfl) :
    PE X (.Call (.Name x p) (e :: es) [] pos) (tCall sp dvs E t) := by
  intro pins s σ H Q I h
  refine wpAny_Call_Name_kw (ld_glob I hg hm ?_ hdb)
  refine PySem.W.callWith_K (h₀ := X.base) I.ok.mod.kin hk (thn (ha pos pins s σ H _ I h) fun us s1 zz72 => e23 zz72 fun vs H1 I1 r q => ⟨I1.kIn, ?_⟩) he hpl
  exact run_fn F hr hb hd hx I1 r q
structure Mk (K : PySem.W.Frag) (C f : Addr) : Prop where
  makes : PySem.W.makesIn K C = true
  init : PySem.W.findIn K (.ref C) "__init__" = some (some (.ref f))
  fn : PySem.W.isFn K (.ref f) = true
  kp : PySem.W.keepIn K (.ref C) = true
private theorem run_make {pins : List (Addr × Obj)} {σ : St} {H : Hp} {s : Shared} {Q : VK} {us : List Value} {vs : List V} (M : Mk X.K C f) (F : FnOk X.prog X.w X.K X.mg X.base CX k f fd ps sp) (hr : Room (k + 1) X.A) (hb : Binds X.K fd ps ds) (hd : Vals dvs ds)
    (hx : Passes CX X E) (I : Inv X pins σ H s) (r : Vals vs us)
    (h : ∀ x dx, H x = none → H dx = none → dx ≠ x → sp (.ref x :: (vs ++ dvs)) (upd (upd H dx (.own x)) x (.ins C dx [])) (fun v H2 => v = .non ∧ Q (.ref x) H2) E) :
    wpAny (model X.prog X.w) X.A (call (.ref C) us) (EP X pins σ Q) X.xe s := by
  have hq := h (s.heap.objs.size + 1) s.heap.objs.size (I.hok.fresh (Nat.le_succ _)) (I.hok.fresh (Nat.le_refl _)) (Nat.ne_of_lt (Nat.lt_succ_self _))
  have I2 := Inv.made (C := C) I
  have r2 : Vals (V.ref (s.heap.objs.size + 1) :: (vs ++ dvs)) (Value.ref (s.heap.objs.size + 1) :: (us ++ ds)) := .cons rfl (r.append hd)
  have hl : (Value.ref (s.heap.objs.size + 1) :: us ++ ds).length = ps.length := by
    have e := r2.length
    rw [F.len _ _ _ _ hq] at e
    exact e.symm
  refine wpAny_call (make_map (f := f) I.kIn M.makes M.init (beq_iff_eq.mp M.fn) (codeAny_mono (F.run _ X.stack _ _ ⟨Value.ref (s.heap.objs.size + 1) :: us, []⟩ (Value.ref (s.heap.objs.size + 1) :: (us ++ ds)) _ _ E (hr.make C us [])
    (I2.env0.make C us []) (hb _ (Value.ref (s.heap.objs.size + 1) :: us) I2.kIn hl) r2 hq) fun r s' hq' => ?_))
  cases r with
  | error e => exact hx pins σ _ _ e s' I2 hq'
  | ok fl =>
    cases fl with
    | ret u =>
      obtain ⟨v, H', I3, rv, ev, q3⟩ := I2.after hq'
      subst ev
      exact ⟨rv, ⟨V.ref (s.heap.objs.size + 1), H', I3, rfl, q3⟩⟩
    | next => exact False.elim hq'
    | brk => exact False.elim hq'
    | cont => exact False.elim hq'
private theorem pe_make (M : Mk X.K C f) (F : FnOk X.prog X.w X.K X.mg X.base CX k f fd ps sp) (hr : Room (k + 1) X.A) (hg : Gl X x) (hm : X.mg x = some (.ref C)) (hb : Binds X.K fd ps ds) (hd : Vals dvs ds) (hx : Passes CX X E)
    (ha : PA X (e :: es) t) (hdb : (x == ("__debug__" : Str)) = false := by decide) (he : starEach (e :: es) X.env = (false, eval e X.env) :: starEach es X.env := by rfl) (hpl : (backTo pos (starEach es X.env)).any (·.1) = false := by rfl) :
    PE X (.Call (.Name x p) (e :: es) [] pos) (tMake C sp dvs E t) := by
  intro pins s σ H Q I h
  refine wpAny_Call_Name_kw (ld_glob I hg hm ?_ hdb)
  refine PySem.W.callWith_K (h₀ := X.base) I.ok.mod.kin M.kp (thn (ha pos pins s σ H _ I h) fun us s1 zz76 => e23 zz76 fun vs H1 I1 r q => ⟨I1.kIn, ?_⟩) he hpl
  exact run_make M F hr hb hd hx I1 r q
end
section
variable {X : Cx} {CX : CXT} {k : Nat} {f C : Addr} {fd : FuncData} {ps ks : List Str} {sp : Sp} {E : XK} {x m : Str} {p pos apos kpos : Pos} {e o : Expr} {es : List Expr} {kws : List Keyword} {te ta : TE} {t tk : TA} {nm : Option Str}
variable {g : List Value → List Value → List Value} {gV : List V → List V → List V}
end
structure FnScope (N P : List Str) (sc : Scope) : Prop where
  kind : sc.kind = .function
  co : sc.isCoroutine = false
  gen : sc.isGenerator = false
  nd : N.Nodup
  pre : N.take P.length = P
  par : ∀ x ∈ P, sc.names.lookup x = some .local ∨ sc.names.lookup x = some .cell
  nofree : ∀ y ∈ sc.names, y.2 ≠ .free
private theorem bindL_out {kindOf : Str → Option NameKind} {x : Str} : ∀ {binds : List (Str × Value)} {m : Str → Option Value}, (∀ v, (x, v) ∉ binds) → bindL kindOf binds m x = m x
  | [], _, _ => rfl
  | (n, v) :: r, m, h => by
    unfold bindL
    rw [bindL_out fun w hw => h w (List.mem_cons_of_mem _ hw)]
    split
    · have : x ≠ n := by rintro rfl; exact h v List.mem_cons_self
      simp [this]
    · rfl
private theorem bindC_out {kindOf : Str → Option NameKind} {x : Str} : ∀ {binds : List (Str × Value)} {m : Str → Option Value}, (∀ v, (x, v) ∉ binds) → bindC kindOf binds m x = m x
  | [], _, _ => rfl
  | (n, v) :: r, m, h => by
    unfold bindC
    rw [bindC_out fun w hw => h w (List.mem_cons_of_mem _ hw)]
    split
    · rfl
    · have : x ≠ n := by rintro rfl; exact h v List.mem_cons_self
      simp [this]
private theorem bindL_get {kindOf : Str → Option NameKind} {x : Str} {v : Value} : ∀ {P : List Str} {vs : List Value} {i : Nat} {m : Str → Option Value}, P.Nodup → P[i]? = some x → vs[i]? = some v → kindOf x = some .local →
    bindL kindOf (P.zip vs) m x = some v
  | [], _, _, _, _, h, _, _ => by simp at h
  | _ :: _, [], _, _, _, _, h, _ => by simp at h
  | p :: P, w :: vs, 0, m, nd, h1, h2, hk => by
    simp at h1 h2; subst h1; subst h2
    show bindL kindOf ((p, w) :: P.zip vs) m p = _
    unfold bindL
    rw [bindL_out fun v hv => (List.nodup_cons.mp nd).1 (List.of_mem_zip hv).1, if_pos hk]
    simp
  | p :: P, w :: vs, i + 1, m, nd, h1, h2, hk => by
    show bindL kindOf ((p, w) :: P.zip vs) m x = _
    unfold bindL
    exact bindL_get (i := i) (List.nodup_cons.mp nd).2 (by simpa using h1) (by simpa using h2) hk
private theorem bindC_get {kindOf : Str → Option NameKind} {x : Str} {v : Value} : ∀ {P : List Str} {vs : List Value} {i : Nat} {m : Str → Option Value}, P.Nodup → P[i]? = some x → vs[i]? = some v → kindOf x ≠ some .local →
    bindC kindOf (P.zip vs) m x = some v
  | [], _, _, _, _, h, _, _ => by simp at h
  | _ :: _, [], _, _, _, _, h, _ => by simp at h
  | p :: P, w :: vs, 0, m, nd, h1, h2, hk => by
    simp at h1 h2; subst h1; subst h2
    show bindC kindOf ((p, w) :: P.zip vs) m p = _
    unfold bindC
    rw [bindC_out fun v hv => (List.nodup_cons.mp nd).1 (List.of_mem_zip hv).1, if_neg hk]
    simp
  | p :: P, w :: vs, i + 1, m, nd, h1, h2, hk => by
    show bindC kindOf ((p, w) :: P.zip vs) m x = _
    unfold bindC
    exact bindC_get (i := i) (List.nodup_cons.mp nd).2 (by simpa using h1) (by simpa using h2) hk
noncomputable def start (N : List Str) (vs : List V) : St := vs.map some ++ List.replicate (N.length - vs.length) none
noncomputable def cxOf (CX : CXT) (P : Program) (w : World) (K : PySem.W.Frag) (mg : Str → Option Value) (base : Heap) (N : List Str) (qual : Str) (scope : Scope) (f : Addr) (cd : Value) (A : Around) (outer : List Env) (s : Shared) (H : Hp) (E : XK) : Cx where
  prog := P
  w := w
  K := K
  mg := mg
  base := base
  A := A.deeper (envOfC qual scope s.heap.objs.size f cd)
  N := N
  s₀ := s
  H₀ := H
  env := envOfC qual scope s.heap.objs.size f cd
  outer := outer
  stack := envOfC qual scope s.heap.objs.size f cd :: outer
  ex := []
  calm := true
  fn := fun _ => true
  pn := []
  xe := fun e s' => wpAny (model P w) (A.deeper (envOfC qual scope s.heap.objs.size f cd)) (leaving (envOfC qual scope s.heap.objs.size f cd) e) (fun _ s'' => CX outer H s E e s'') (fun e' s'' => CX outer H s E e' s'') s'
private theorem cell_has {sc : Scope} {n : Nat} {x : Str} (h : sc.names.lookup x = some .cell) : ∃ c, (cellsFrom n sc.names []).lookup x = some c := by
  have q := PySem.W.cellsFrom_some sc.names n [] (.inl h)
  exact Option.isSome_iff_exists.mp q
private theorem inv_start {CX : CXT} {P : Program} {w : World} {K : PySem.W.Frag} {mg : Str → Option Value} {base : Heap} {N ps : List Str} {qual : Str} {scope : Scope} {f : Addr} {cd : Value} {A : Around} {outer : List Env} {s s1 : Shared} {H : Hp} {E : XK} {us : List Value} {vs : List V}
    (S : FnScope N ps scope) (hd : A.handled = none) (e0 : Env0 P w K mg base A outer s H) (hl : vs.length = ps.length) (r : Vals vs us)
    (x : InCallC s s.heap.objs.size (bindL (envOfC qual scope s.heap.objs.size f cd).kindOf (ps.zip us) fun _ => none) (cellsFrom (s.heap.objs.size + 1) scope.names []) (bindC (envOfC qual scope s.heap.objs.size f cd).kindOf (ps.zip us) fun _ => none) s1) :
    Inv (cxOf CX P w K mg base N qual scope f cd A outer s H E) [] (start N vs) H s1 := by
  have hpl : ps.length ≤ N.length := by have := congrArg List.length S.pre; rw [List.length_take] at this; omega
  obtain ⟨h1, tk, rfl, hk⟩ := x.done
  have noA : ∀ b : Addr, b ∉ (cxOf CX P w K mg base N qual scope f cd A outer s H E).ex := fun b z => absurd (show b ∈ ([] : List Addr) from z) (by simp)
  refine ⟨⟨e0.mod, S.kind, rfl, rfl, Nat.le_refl _, fun y z c h1 h2 => ?_, fun y hy => ?_, fun y c _ h => ?_, fun _ => hd, Around.frames_deeper e0.frames, .inr ⟨rfl, rfl⟩, fun b z => absurd z (noA b), e0.bs, e0.bsz, fun b _ _ => noA b, fun b z => absurd z (noA b), e0.funs, e0.frf⟩,
    rfl, e0.bare, Un.kept hk, ⟨_, x.toInCall.ns, fun i y v h1 h2 h3 => ?_⟩, fun y c h => ⟨_, x.cell y c h⟩, e0.hok.fresh (Nat.le_refl _), fun y c h => ?_, fun p hp => absurd (show p ∈ ([] : List (Addr × Obj)) from hp) (by simp), e0.hok.kept hk, ?_⟩
  · exact name_of_addr x.apart (PySem.mem_of_lookup h1) (PySem.mem_of_lookup h2)
  · have hy : scope.names.lookup y = some .cell ∨ scope.names.lookup y = some .free := hy
    rcases hy with hy | hy
    · exact cell_has hy
    · exact absurd rfl (S.nofree _ (PySem.mem_of_lookup hy))
  · exact Nat.le_of_lt (x.above y c (PySem.mem_of_lookup h))
  · have hi : i < vs.length := by
      unfold start at h2
      by_cases hi : i < vs.length
      · exact hi
      · rw [List.getElem?_append_right (by simpa using hi)] at h2
        rw [List.getElem?_replicate] at h2
        split at h2 <;> cases h2
    have ha : vs[i]? = some v := by
      unfold start at h2
      rw [List.getElem?_append_left (by simpa using hi), List.getElem?_map] at h2
      cases e : vs[i]? with
      | none => rw [e] at h2; cases h2
      | some a => rw [e] at h2; cases h2; rfl
    obtain ⟨u, hu, rv⟩ := r.get ha
    have hp : ps[i]? = some y := by
      rw [← S.pre, List.getElem?_take_of_lt (by omega)]; exact h1
    have ndP : ps.Nodup := by rw [← S.pre]; exact S.nd.sublist (List.take_sublist _ _)
    refine ⟨u, rv, ?_⟩
    rcases S.par y (List.mem_of_getElem? hp) with k | k
    · exact .inl ⟨k, bindL_get ndP hp hu k⟩
    · obtain ⟨c, e⟩ := cell_has (n := s.heap.objs.size + 1) k
      refine .inr ⟨.inl k, c, e, ?_⟩
      have q := x.cell y c e
      rw [bindC_get ndP hp hu (by show scope.names.lookup y ≠ _; rw [k]; decide)] at q
      exact q
  · exact e0.hok.fresh (Nat.le_of_lt (x.above y c (PySem.mem_of_lookup h)))
  · unfold start
    show _ = N.length
    rw [List.length_append, List.length_map, List.length_replicate]
    omega
private theorem fn_of {CX : CXT} {P : Program} {w : World} {K : PySem.W.Frag} {mg : Str → Option Value} {base : Heap} {k : Nat} {f : Addr} {name qual : Str} {params : Arguments} {body : List Stmt} {scope : Scope} {dV kV doc pm cdv ct oc : Value} {an od : Option Addr}
    {osl : Array (Option Value)} {N ps : List Str} {sp : Sp} (lk : K.lookup f = some ⟨oc, od, .func (PySem.W.fnOf name qual params body scope dV kV doc pm an cdv ct), osl⟩) (hcd : PySem.W.codeIn K cdv qual = true) (S : FnScope N ps scope)
    (len : ∀ vs H Q E, sp vs H Q E → vs.length = ps.length)
    (hbody : ∀ (A : Around) (outer : List Env) (s : Shared) (H : Hp) (vs : List V) (Q : VK) (E : XK), Room k (A.deeper (envOfC qual scope s.heap.objs.size f cdv)) → sp vs H Q E →
      ∃ t, PSs (cxOf CX P w K mg base N qual scope f cdv A outer s H E) body t ∧ t { nx := fun _ H' => Q .non H', rt := Q } (start N vs) H) :
    FnOk P w K mg base CX (k + 1) f (PySem.W.fnOf name qual params body scope dV kV doc pm an cdv ct) ps sp := by
  refine ⟨len, fun A outer s H args us vs Q E hr e0 hb r hsp => ?_⟩
  have hl := len _ _ _ _ hsp
  have KX : K.In s.heap := e0.mod.kin.keeps fun b o e => (e0.bs b o e).1
  have lim : s.heap.NoLimit := e0.mod.nolimit.keeps fun b o e => (e0.bs b o e).1
  have hkind : ∀ y ∈ ps.zip us, scope.names.lookup y.1 = some .local ∨ (scope.names.lookup y.1 = some .cell ∧ ((cellsFrom (s.heap.objs.size + 1) scope.names []).lookup y.1).isSome = true) := fun ⟨n, v⟩ hy => by
    rcases S.par n (List.of_mem_zip hy).1 with q | q
    · exact .inl q
    · exact .inr ⟨q, PySem.W.cellsFrom_some _ _ _ (.inl q)⟩
  refine codeAny_call_function hr.depth (KX _ _ lk) rfl S.co S.gen rfl (PySem.W.codeRec_of KX hcd) (hb _ _ _ _ ?_)
  refine wpAny_newFunctionEnv_cells S.kind hkind fun env he s1 x => ?_
  subst he
  refine ⟨lim.keeps x.toInCall.keep, codeAny_func ?_⟩
  obtain ⟨t, ht, hq⟩ := hbody A outer s H vs Q E (hr.deeper _) hsp
  have I : Inv (cxOf CX P w K mg base N qual scope f cdv A outer s H E) [] (start N vs) H s1 := inv_start S hr.hd e0 hl r x
  refine wpAny_mono (ht [] s1 (start N vs) H _ I hq) (fun fl s' hs => ?_) fun e s' hs => hs
  have fin : ∀ {σ' : St} {H' : Hp} {v : V} {u : Value}, Inv (cxOf CX P w K mg base N qual scope f cdv A outer s H E) [] σ' H' s' → RelV v u → Q v H' → CE outer P w H s Q u s' :=
    fun {σ' H' v u} J rv q => ⟨v, H', J.os, J.bare, J.base, J.hok, rv, q⟩
  cases fl with
  | ret u =>
    obtain ⟨v, σ', H', J, rv, q⟩ := hs
    exact fin J rv q
  | next =>
    obtain ⟨σ', H', J, q⟩ := hs
    exact fin (v := V.non) (u := Value.none) J rfl q
  | brk =>
    obtain ⟨_, _, _, q⟩ := hs
    exact False.elim q
  | cont =>
    obtain ⟨_, _, _, q⟩ := hs
    exact False.elim q
end L2
namespace L2
open PySem PySem.Spec PyProof.Rows
section
variable {X : Cx} {x : Str} {p pos : Pos} {e : Expr} {es : List Expr} {t : TA} {id T : String} {r : List V → Hp → VK → Prop}
noncomputable def tCB (r : List V → Hp → VK → Prop) (t : TA) : TE := fun σ H Q => t σ H fun vs H1 => r vs H1 Q
private theorem pe_callB (hc : CallR X (.builtin id) r) (hg : Gl X x) (hm : X.mg x = none) (hv : bootBuiltins x = some (.builtin id)) (ha : PA X (e :: es) t) (hn : x ≠ "__name__" := by decide) (hdb : (x == ("__debug__" : Str)) = false := by decide)
    (he : starEach (e :: es) X.env = (false, eval e X.env) :: starEach es X.env := by rfl) (hpl : (backTo pos (starEach es X.env)).any (·.1) = false := by rfl) : PE X (.Call (.Name x p) (e :: es) [] pos) (tCB r t) := by
  intro pins s σ H Q I h
  refine wpAny_Call_Name_kw (ld_blt I hg hm hv ?_ hn hdb)
  exact PyProof.Rows.callWith_builtin1 (thn (ha pos pins s σ H _ I h) fun us s1 zz81 => e23 zz81 fun vs H1 I1 r1 q1 => hc pins s1 σ H1 vs us Q I1 r1 q1) he hpl
private theorem pe_callTy (hc : CallR X (.type T) r) (hg : Gl X x) (hm : X.mg x = none) (hv : bootBuiltins x = some (.type T)) (ha : PA X (e :: es) t) (hn : x ≠ "__name__" := by decide) (hdb : (x == ("__debug__" : Str)) = false := by decide)
    (he : starEach (e :: es) X.env = (false, eval e X.env) :: starEach es X.env := by rfl) (hpl : (backTo pos (starEach es X.env)).any (·.1) = false := by rfl) : PE X (.Call (.Name x p) (e :: es) [] pos) (tCB r t) := by
  intro pins s σ H Q I h
  refine wpAny_Call_Name_kw (ld_blt I hg hm hv ?_ hn hdb)
  exact PyProof.Rows.callWith_type1 (thn (ha pos pins s σ H _ I h) fun us s1 zz82 => e23 zz82 fun vs H1 I1 r1 q1 => hc pins s1 σ H1 vs us Q I1 r1 q1) he hpl
end
end L2
namespace HT
open PySem PyProof.Rows
section
open PySem.SeqAt
open PySem.AutoSeq1 (wpAny_loadPart')
open PySem.MeetsSeq PySem.MeetsSeq2 PySem.MeetsSeq3
end
section
variable {prog : Program} {w : World} {A : Around} {E : Value → Shared → Prop} {s : Shared}
noncomputable def sIx (n d : Nat) : Option Int → Nat
  | none => d
  | some v => if v < 0 then (v + (n : Int)).toNat else min v.toNat n
private theorem sIx_nat (n d k : Nat) : sIx n d (some (k : Int)) = min k n := by
  show (if (k : Int) < 0 then ((k : Int) + (n : Int)).toNat else min (k : Int).toNat n) = min k n
  rw [if_neg (by omega), Int.toNat_natCast]
end
end HT
namespace L2
open PySem PySem.Spec PyProof.Rows
noncomputable abbrev TO := St → Hp → (Option Int → Hp → Prop) → Prop
noncomputable def PO (X : Cx) (e : Option Expr) (t : TO) : Prop :=
  ∀ (pins : List (Addr × Obj)) (s : Shared) (σ : St) (H : Hp) (Q : Option Int → Hp → Prop), Inv X pins σ H s → t σ H Q →
    wpAny (model X.prog X.w) X.A (evalPart e X.env) (fun u s' => ∃ o H', Inv X pins σ H' s' ∧ IsPart u o ∧ Q o H') X.xe s
noncomputable def tNoPart : TO := fun _ H Q => Q none H
noncomputable def tPart (t : TE) : TO := fun σ H Q => t σ H fun x H1 => ∃ i, x = .int i ∧ Q (some i) H1
section
variable {X : Cx} {e : Expr} {te : TE} {lo hi : Option Expr} {tl th : TO} {pos p2 : Pos}
private theorem po_none : PO X none tNoPart := by
  intro pins s σ H Q I h
  rw [evalPart_none]
  exact wpAny_pure ⟨none, H, I, .none, h⟩
private theorem po_some (h : PE X e te) : PO X (some e) (tPart te) := by
  intro pins s σ H Q I hw
  rw [evalPart_some]
  refine thn (h pins s σ H _ I hw) fun u s1 zz83 => e23 zz83 fun x H1 I1 r1 q1 => ?_
  obtain ⟨i, rfl, q⟩ := q1
  obtain ⟨t, rfl⟩ := r1
  exact ⟨some i, H1, I1, .int i t, q⟩
noncomputable def SlR (X : Cx) (r : V → Option Int → Option Int → Hp → VK → Prop) : Prop :=
  ∀ (pins : List (Addr × Obj)) (s : Shared) (σ : St) (H : Hp) (x : V) (v vl vu : Value) (lo hi : Option Int) (sl : Addr) (Q : VK), Inv X pins σ H s → RelV x v → s.heap.IsSliceOf sl vl vu .none → IsPart vl lo → IsPart vu hi → r x lo hi H Q →
    ∃ T id, typeLookup (.type T) "__getitem__" = pure (some (.builtin id)) ∧ s.TypeIs v T ∧ wpAny (model X.prog X.w) X.A (getItem v (.ref sl)) (EP X pins σ Q) X.xe s
noncomputable def tSl (r : V → Option Int → Option Int → Hp → VK → Prop) (te : TE) (tl th : TO) : TE := fun σ H Q => te σ H fun x H1 => tl σ H1 fun l H2 => th σ H2 fun u H3 => r x l u H3 Q
private theorem pe_slice {r : V → Option Int → Option Int → Hp → VK → Prop} (hr : SlR X r) (he : PE X e te) (hl : PO X lo tl) (hu : PO X hi th) : PE X (.Subscript e (.Slice lo hi none p2) pos) (tSl r te tl th) := by
  intro pins s σ H Q I h
  refine Subscript_ (thn (he pins s σ H _ I h) fun v s1 zz84 => e23 zz84 fun x H1 I1 r1 q1 => ?_)
  refine wpAny_Slice (thn (hl pins s1 σ H1 _ I1 q1) fun vl s2 zz85 => e23 zz85 fun l H2 I2 pl q2 => thn (hu pins s2 σ H2 _ I2 q2) fun vu s3 zz86 => e23 zz86 fun u H3 I3 pu q3 => ?_)
  rw [evalPart_none]
  refine wpAny_pure ?_
  have I4 : Inv X pins σ H3 { s3 with heap := s3.heap.push { cls := .type "slice", data := .fields #[vl, vu, .none] } } := I3.kept (t' := s3.toks) fun b ob q => Heap.get?_push_of_some _ q
  obtain ⟨T, id, hT, ht, hg⟩ := hr pins { s3 with heap := s3.heap.push { cls := .type "slice", data := .fields #[vl, vu, .none] } } σ H3 x v vl vu l u s3.heap.objs.size Q I4 r1 (Heap.IsSliceOf.new ..) pl pu q3
  show wpAny (model X.prog X.w) X.A (subscriptTail e (.Slice lo hi none p2) v (.ref s3.heap.objs.size)) (EP X pins σ Q) X.xe { s3 with heap := s3.heap.push { cls := .type "slice", data := .fields #[vl, vu, .none] } }
  exact tail_any (ops := [.ref s3.heap.objs.size, v]) ht hT hg (by with_unfolding_all rfl)
noncomputable def cutV (xs : List V) (lo hi : Option Int) : List V := (xs.drop (HT.sIx xs.length 0 lo)).take (HT.sIx xs.length xs.length hi - HT.sIx xs.length 0 lo)
private theorem cutV_length (xs : List V) (lo hi : Option Int) : (cutV xs lo hi).length ≤ xs.length := by
  unfold cutV
  rw [List.length_take, List.length_drop]
  omega
end
end L2
namespace L2
open PySem PySem.Spec PyProof.Rows
noncomputable def ixN (n : Nat) (i : Int) : Option Nat := if 0 ≤ i then (if i < n then some i.toNat else none) else if -(n : Int) ≤ i then some (i + n).toNat else none
noncomputable def atI {α : Type} (xs : List α) (i : Int) : Option α := (ixN xs.length i).bind fun j => xs[j]?
private theorem ixN_seq {n : Nat} {i : Int} {j : Nat} (h : ixN n i = some j) : seqIndex? i n = some j ∧ j < n ∧ -(n : Int) ≤ i ∧ i < n := by
  unfold ixN at h
  by_cases h0 : 0 ≤ i
  · rw [if_pos h0] at h
    by_cases h1 : i < n
    · rw [if_pos h1] at h
      have e : i.toNat = j := Option.some.inj h
      exact ⟨by rw [seqIndex_of h0 h1, e], by omega, by omega, h1⟩
    · rw [if_neg h1] at h; cases h
  · rw [if_neg h0] at h
    by_cases h1 : -(n : Int) ≤ i
    · rw [if_pos h1] at h
      have e : (i + n).toNat = j := Option.some.inj h
      exact ⟨by rw [seqIndex_neg (by omega) h1, e], by omega, h1, by omega⟩
    · rw [if_neg h1] at h; cases h
private theorem atI_get {α : Type} {xs : List α} {i : Int} {v : α} (h : atI xs i = some v) : ∃ j, seqIndex? i xs.length = some j ∧ xs[j]? = some v ∧ j < xs.length ∧ -(xs.length : Int) ≤ i ∧ i < xs.length := by
  unfold atI at h
  cases e : ixN xs.length i with
  | none => rw [e] at h; cases h
  | some j =>
    rw [e] at h
    obtain ⟨h1, h2, h3, h4⟩ := ixN_seq e
    exact ⟨j, h1, h, h2, h3, h4⟩
noncomputable def PlainIx (b : Expr) : Prop := ∀ o i, subscripted b false o i = operate [o, i] (getItem o i)
noncomputable def IxR (X : Cx) (r : R2) : Prop :=
  ∀ (value slice : Expr) (pins : List (Addr × Obj)) (s : Shared) (σ : St) (H : Hp) (x y : V) (v u : Value) (Q : VK), Inv X pins σ H s → RelV x v → RelV y u → r x y H Q →
    subscripted slice false v u = operate [v, u] (getItem v u) → wpAny (model X.prog X.w) X.A (subscriptTail value slice v u) (EP X pins σ Q) X.xe s
noncomputable def MtR (X : Cx) (id : String) (r : V → List V → Hp → VK → Prop) : Prop :=
  ∀ (pins : List (Addr × Obj)) (s : Shared) (σ : St) (H : Hp) (x : V) (xs : List V) (v : Value) (us : List Value) (Q : VK), Inv X pins σ H s → RelV x v → Vals xs us → r x xs H Q →
    wpAny (model X.prog X.w) X.A (call (.builtin id) (v :: us)) (EP X pins σ Q) X.xe s
section
variable {X : Cx} {a b : Expr} {ta tb : TE} {pos : Pos}
private theorem IxR.or {r r' : R2} (h : IxR X r) (h' : IxR X r') : IxR X (fun x y H Q => r x y H Q ∨ r' x y H Q) := by
  intro value slice pins s σ H x y v u Q I rx ry q hs
  rcases q with q | q
  · exact h value slice pins s σ H x y v u Q I rx ry q hs
  · exact h' value slice pins s σ H x y v u Q I rx ry q hs
private theorem pe_ix {r : R2} (hr : IxR X r) (ha : PE X a ta) (hb : PE X b tb) (hs : PlainIx b) : PE X (.Subscript a b pos) (tOp r ta tb) := by
  intro pins s σ H Q I h
  exact Subscript_ (binT ha hb I h fun v u s2 x y H2 I2 rx ry q => hr a b pins s2 σ H2 x y v u Q I2 rx ry q (hs _ _))
noncomputable def rIxL (K : PySem.W.Frag) : R2 := fun x y H Q => ∃ p xs i v, x = .ref p ∧ y = .int i ∧ SqL K H p xs ∧ atI xs i = some v ∧ Q v H
noncomputable def rIxT (K : PySem.W.Frag) : R2 := fun x y H Q => ∃ p xs i v, x = .ref p ∧ y = .int i ∧ SqT K H p xs ∧ atI xs i = some v ∧ Q v H
noncomputable def rIxS : R2 := fun x y H Q => ∃ z i c, x = .str z ∧ y = .int i ∧ z.length ≤ sizeLine ∧ atI z.cps.toList i = some c ∧ Q (.str ⟨#[c]⟩) H
private theorem ix_list : IxR X (rIxL X.K) := by
  intro value slice pins s σ H x y v u Q I rx ry h hs
  obtain ⟨p, xs, i, z, rfl, rfl, hq, he, q⟩ := h
  cases rx
  obtain ⟨t, rfl⟩ := ry
  obtain ⟨its, r, pl, hz⟩ := I.list hq
  obtain ⟨j, h1, h2, h3, h4, h5⟩ := atI_get he
  obtain ⟨w, ew, rw'⟩ := r.get h2
  have hl := r.length
  have hn := line63
  have fin : EP X pins σ Q w s := ⟨z, H, I, rw', q⟩
  by_cases h0 : 0 ≤ i
  · have hj : i.toNat = j := by
      rw [seqIndex_of h0 h5] at h1
      exact Option.some.inj h1
    exact item_listR pl.isList h0 (by omega) (by rw [hj]; simpa using ew) fin hs
  · have hj : (i + (its.toArray.size : Int)).toNat = j := by
      rw [seqIndex_neg (by omega) h4] at h1
      rw [List.size_toArray, ← hl]
      exact Option.some.inj h1
    exact subscriptTail_builtinR (x := w) pl.isList.typeIs slot_list_getitem.lookup
      (wpAny_getItem_list_neg (Q := fun r s' => r = w ∧ EP X pins σ Q r s') pl.isList (by omega) (by rw [List.size_toArray] <;> omega) (by omega) (by rw [hj]; simpa using ew) ⟨rfl, fin⟩) hs
private theorem ix_tup : IxR X (rIxT X.K) := by
  intro value slice pins s σ H x y v u Q I rx ry h hs
  obtain ⟨p, xs, i, z, rfl, rfl, hq, he, q⟩ := h
  cases rx
  obtain ⟨t, rfl⟩ := ry
  obtain ⟨its, r, pl, hz⟩ := I.tuple hq
  obtain ⟨j, h1, h2, h3, h4, h5⟩ := atI_get he
  obtain ⟨w, ew, rw'⟩ := r.get h2
  have hl := r.length
  have hn := line63
  have fin : EP X pins σ Q w s := ⟨z, H, I, rw', q⟩
  exact subscriptTail_builtinR (x := w) pl.typeIs slot_tuple_getitem.lookup
    (getItem_tuple (j := j) (Q := fun r s' => r = w ∧ EP X pins σ Q r s') pl (by omega) (by omega) (by rw [List.size_toArray, ← hl]; exact h1) (by simpa using ew) ⟨rfl, fin⟩) hs
private theorem ix_str : IxR X rIxS := by
  intro value slice pins s σ H x y v u Q I rx ry h hs
  obtain ⟨z, i, c, rfl, rfl, hz, he, q⟩ := h
  obtain ⟨t, rfl⟩ := rx
  obtain ⟨t', rfl⟩ := ry
  obtain ⟨j, h1, h2, h3, h4, h5⟩ := atI_get he
  have hl : z.cps.toList.length = z.length := by simp [Str.length]
  rw [hl] at h1 h4 h5
  have hn := line63
  exact tail_any (typeIs_str s z t) slot_str_getitem.lookup (getItem_str (c := c) (by
    have e1 : decide (i < -(2 ^ 63 : Int)) = false := decide_eq_false (by omega)
    have e2 : decide (i ≥ 2 ^ 63) = false := decide_eq_false (by omega)
    rw [e1, e2, Bool.or_false]) (by rw [h1]; simpa using h2) ⟨.str ⟨#[c]⟩, H, I.tok _, ⟨_, rfl⟩, q⟩) hs
noncomputable def rIx (K : PySem.W.Frag) : R2 := fun x y H Q => rIxL K x y H Q ∨ rIxT K x y H Q ∨ rIxS x y H Q
private theorem ix_seq : IxR X (rIx X.K) := ix_list.or (ix_tup.or ix_str)
private theorem mapSeq_set (its : List Value) (n j : Nat) (u : Value) : Obj.mapSeq (·.setIfInBounds j u) { cls := .type "list", data := .seq its.toArray n } = { cls := .type "list", data := .seq (its.set j u).toArray n } := by
  simp [Obj.mapSeq]
private theorem Inv.lst {pins : List (Addr × Obj)} {σ : St} {H : Hp} {s : Shared} {p : Addr} {xs : List V} (I : Inv X pins σ H s) (h : H p = some (.lst xs)) :
    ∃ (its : List Value) (n : Nat), Vals xs its ∧ s.heap.get? p = some { cls := .type "list", data := .seq its.toArray n } ∧ xs.length ≤ sizeLine := by
  obtain ⟨z, its, n, r, e⟩ := I.hok p _ h
  exact ⟨its, n, r, e, z⟩
private theorem Inv.lstUpd {pins : List (Addr × Obj)} {σ : St} {H : Hp} {s : Shared} {p : Addr} {xs ys : List V} {its its' : List Value} {n n' : Nat} {f : Obj → Obj} (I : Inv X pins σ H s) (h : H p = some (.lst xs))
    (ho : s.heap.get? p = some { cls := .type "list", data := .seq its.toArray n }) (hf : f { cls := .type "list", data := .seq its.toArray n } = { cls := .type "list", data := .seq its'.toArray n' }) (r : Vals ys its') (hz : ys.length ≤ sizeLine) (t : Nat) :
    Inv X pins σ (upd H p (.lst ys)) { s with heap := s.heap.update p f, toks := t } := by
  have e : (s.heap.update p f).get? p = some { cls := .type "list", data := .seq its'.toArray n' } := by
    rw [Heap.get?_update_self f ho (by rw [hf] <;> rfl), hf]
  refine I.write (x := p) (e := p) (by rw [h]; trivial) (.inl rfl) (fun b u hb q => (Heap.get?_update_other _ _ (Ne.symm hb)).trans q) ⟨_, e⟩ ?_
  exact ⟨hz, its', n', r, e⟩
noncomputable def rSetL : V → V → V → Hp → (Hp → Prop) → Prop := fun o i v H Q => ∃ p xs k j, o = .ref p ∧ i = .int k ∧ H p = some (.lst xs) ∧ ixN xs.length k = some j ∧ Q (upd H p (.lst (xs.set j v)))
private theorem set_list : PSet X rSetL := by
  intro pins s σ H o i v ov iv u Q I ro ri rv h
  obtain ⟨p, xs, k, j, rfl, rfl, hp, hj, q⟩ := h
  cases ro
  obtain ⟨t, rfl⟩ := ri
  obtain ⟨its, n, r, ho, hz⟩ := I.lst hp
  obtain ⟨h1, h2, h3, h4⟩ := ixN_seq hj
  have hl := r.length
  have hn := line63
  have I' : Inv X pins σ (upd H p (.lst (xs.set j v))) { s with heap := s.heap.update p (Obj.mapSeq (·.setIfInBounds j u)) } :=
    I.lstUpd hp ho (mapSeq_set its n j u) (r.set rv j) (by rw [List.length_set]; exact hz) s.toks
  by_cases h0 : 0 ≤ k
  · have hk : k.toNat = j := by
      rw [seqIndex_of h0 h4] at h1
      exact Option.some.inj h1
    exact PySem.W.ki_setAt ho h0 (by omega) (by rw [List.size_toArray, ← hl]; exact h4) (by rw [hk]; exact ⟨_, I', q⟩)
  · have hk : (k + (its.toArray.size : Int)).toNat = j := by
      rw [seqIndex_neg (by omega) h3] at h1
      rw [List.size_toArray, ← hl]
      exact Option.some.inj h1
    exact PySem.W.ki_setBack ho (by omega) (by rw [List.size_toArray, ← hl]; exact h3) (by omega) (by rw [hk]; exact ⟨_, I', q⟩)
private theorem slice_bounds (lo hi : Option Int) (n : Nat) : (sliceBounds lo hi none n).1 = ((HT.sIx n 0 lo : Nat) : Int) ∧ (sliceBounds lo hi none n).2.1 = ((HT.sIx n n hi : Nat) : Int) ∧ (sliceBounds lo hi none n).2.2 = 1 := by
  refine ⟨?_, ?_, rfl⟩
  · cases lo with
    | none => simp [sliceBounds, HT.sIx]
    | some i =>
      simp only [sliceBounds, HT.sIx, Option.getD_none, show (1 : Int) > 0 by decide, if_true]
      by_cases h : i < 0
      · simp only [h, if_true] <;> omega
      · simp only [h, if_false] <;> omega
  · cases hi with
    | none => simp [sliceBounds, HT.sIx]
    | some i =>
      simp only [sliceBounds, HT.sIx, Option.getD_none, show (1 : Int) > 0 by decide, if_true]
      by_cases h : i < 0
      · simp only [h, if_true] <;> omega
      · simp only [h, if_false] <;> omega
private theorem slicePick_cut (its : List Value) (lo hi : Option Int) : slicePick its.toArray lo hi none = ((its.drop (HT.sIx its.length 0 lo)).take (HT.sIx its.length its.length hi - HT.sIx its.length 0 lo)).toArray := by
  obtain ⟨h1, h2, h3⟩ := slice_bounds lo hi its.toArray.size
  unfold slicePick
  rw [h1, h2, h3]
  simp only [sliceRange_one, pick_run, List.size_toArray] <;> rfl
noncomputable def rSlL (K : PySem.W.Frag) : V → Option Int → Option Int → Hp → VK → Prop := fun x lo hi H Q => ∃ a xs, x = .ref a ∧ SqL K H a xs ∧ ∀ p, H p = none → Q (.ref p) (upd H p (.lst (cutV xs lo hi)))
private theorem sl_list : SlR X (rSlL X.K) := by
  intro pins s σ H x v vl vu lo hi sl Q I rx hs pl pu h
  obtain ⟨a, xs, rfl, hx, q⟩ := h
  cases rx
  obtain ⟨its, r, ht, hz⟩ := I.list hx
  have hlen := r.length
  refine ⟨"list", _, slot_list_getitem.lookup, ht.isList.typeIs, ?_⟩
  refine wpAny_getItem_list_slice ht.isList hs pl pu .none (by simp) ?_ (by rw [List.size_toArray] <;> omega)
  rw [slicePick_cut, ← hlen]
  refine ⟨.ref s.heap.objs.size, _, I.laid (t' := s.toks) (o := .lst (cutV xs lo hi)) (fun b ob q => Heap.get?_push_of_some _ q) (Nat.le_refl _) ?_, rfl, q _ (I.hok.fresh (Nat.le_refl _))⟩
  exact ⟨Nat.le_trans (cutV_length xs lo hi) hz, _, 0, (r.drop (HT.sIx xs.length 0 lo)).take (HT.sIx xs.length xs.length hi - HT.sIx xs.length 0 lo), Heap.get?_push_size _ rfl⟩
private theorem call_len_seq : CallR X (.builtin "len") (fun xs H Q => ∃ p ys, xs = [.ref p] ∧ (SqL X.K H p ys ∨ SqT X.K H p ys) ∧ Q (.int ys.length) H) := by
  intro pins s σ H xs us Q I r h
  obtain ⟨p, ys, rfl, hq, q⟩ := h
  obtain ⟨u, rfl, rx⟩ := vals1 r
  cases rx
  have hn := line63
  rcases hq with hq | hq
  · obtain ⟨its, r', pl, hz⟩ := I.list hq
    have hlen := r'.length
    exact Calls.call_len_list pl.isList (by simp only [List.size_toArray] <;> omega) ⟨.int ys.length, H, I.tok _, ⟨s.toks + 1, by rw [List.size_toArray, hlen]⟩, q⟩
  · obtain ⟨its, r', pl, hz⟩ := I.tuple hq
    have hlen := r'.length
    exact len_tuple pl (by simp only [List.size_toArray] <;> omega) ⟨.int ys.length, H, I.tok _, ⟨s.toks + 1, by rw [List.size_toArray, hlen]⟩, q⟩
private theorem call_list_of : CallR X (.type "list") (fun xs H Q => ∃ p ys, xs = [.ref p] ∧ (SqL X.K H p ys ∨ SqT X.K H p ys) ∧ ∀ l, H l = none → Q (.ref l) (upd H l (.lst ys))) := by
  intro pins s σ H xs us Q I r h
  obtain ⟨p, ys, rfl, hq, q⟩ := h
  obtain ⟨u, rfl, rx⟩ := vals1 r
  cases rx
  have fin : ∀ (its : List Value), Vals ys its → ys.length ≤ sizeLine → ∀ (h' : Heap) (c' : Nat), (∀ b o', s.heap.get? b = some o' → h'.get? b = some o') →
      h'.get? s.heap.objs.size = some { cls := .type "list", dict := none, data := .seq its.toArray c', slots := #[] } → EP X pins σ Q (.ref s.heap.objs.size) { s with heap := h' } := fun its r' hz h' c' kp e =>
    ⟨.ref s.heap.objs.size, _, I.laid (t' := s.toks) kp (Nat.le_refl _) (show ObjOk X.prog X.w _ h' _ (.lst ys) from ⟨hz, its, c', r', e⟩), rfl, q _ (I.hok.fresh (Nat.le_refl _))⟩
  rcases hq with hq | hq
  · obtain ⟨its, r', pl, hz⟩ := I.list hq
    have hlen := r'.length
    obtain ⟨o, ho, hc, n, hd⟩ := pl.isList
    exact call_list_seq p (.inl rfl) ho hc hd (fun h' c' kp e => fin its r' hz h' c' kp e) (by simp only [List.size_toArray] <;> omega)
  · obtain ⟨its, r', pl, hz⟩ := I.tuple hq
    have hlen := r'.length
    obtain ⟨o, ho, hc, n, hd⟩ := pl
    exact call_list_seq p (.inr rfl) ho hc hd (fun h' c' kp e => fin its r' hz h' c' kp e) (by simp only [List.size_toArray] <;> omega)
noncomputable def tyV (K : PySem.W.Frag) (T : String) (x : V) (H : Hp) : Prop := match x with
  | .str _ => T = "str"
  | .int _ => T = "int"
  | .ref p => (T = "list" ∧ ∃ xs, SqL K H p xs) ∨ (T = "tuple" ∧ ∃ o, K.lookup p = some o ∧ o.cls = .type "tuple" ∧ o.dict = none) ∨
      (T = "dict" ∧ ((∃ kvs, H p = some (.dK kvs)) ∨ ∃ kvs, H p = some (.dT kvs))) ∨ (T = "set" ∧ ∃ S n, H p = some (.set S n))
  | _ => False
private theorem tyV_is {pins : List (Addr × Obj)} {σ : St} {H : Hp} {s : Shared} {T : String} {x : V} {v : Value} (I : Inv X pins σ H s) (r : RelV x v) (ty : tyV X.K T x H) :
    s.TypeIs v T ∧ ∀ a, v = .ref a → ∃ ob, s.heap.get? a = some ob ∧ ob.dict = none := by
  cases x with
  | str z =>
    obtain ⟨t, rfl⟩ := r
    cases (show T = "str" from ty)
    exact ⟨typeIs_str s z t, fun _ e => nomatch e⟩
  | int i =>
    obtain ⟨t, rfl⟩ := r
    cases (show T = "int" from ty)
    exact ⟨typeIs_int s i t, fun _ e => nomatch e⟩
  | ref p =>
    cases r
    rcases ty with ⟨rfl, xs, hq⟩ | ⟨rfl, o, hk, hc, hd⟩ | ⟨rfl, hk⟩ | ⟨rfl, S, n, hk⟩
    · obtain ⟨its, _, pl, _⟩ := I.list hq
      refine ⟨pl.isList.typeIs, fun a e => ?_⟩
      cases e
      obtain ⟨o, n, e, c, hd, _⟩ := pl
      exact ⟨o, e, hd⟩
    · refine ⟨⟨o, I.kIn p o hk, hc⟩, fun a e => ?_⟩
      cases e
      exact ⟨o, I.kIn _ o hk, hd⟩
    · have z : ∃ o, s.heap.get? p = some o ∧ o.ExactDict := by
        rcases hk with ⟨kvs, hk⟩ | ⟨kvs, hk⟩
        · obtain ⟨_, _, _, _, o, _, _, e, ex, _⟩ := I.hok p _ hk
          exact ⟨o, e, ex⟩
        · obtain ⟨_, _, _, _, o, _, _, e, ex, _⟩ := I.hok p _ hk
          exact ⟨o, e, ex⟩
      obtain ⟨o, e, ex⟩ := z
      refine ⟨⟨o, e, ex.1⟩, fun a e2 => ?_⟩
      cases e2
      exact ⟨o, e, ex.2.1⟩
    · obtain ⟨o, _, _, _, e, ex, _⟩ := I.hok p _ hk
      refine ⟨⟨o, e, ex.1⟩, fun a e2 => ?_⟩
      cases e2
      exact ⟨o, e, ex.2.1⟩
  | _ => exact False.elim ty
noncomputable def tBM (K : PySem.W.Frag) (T : String) (r : V → List V → Hp → VK → Prop) (to : TE) (t : TA) : TE := fun σ H Q => to σ H fun x H1 => tyV K T x H1 ∧ t σ H1 fun xs H2 => r x xs H2 Q
variable {o e : Expr} {es : List Expr} {to : TE} {t : TA} {name : Str} {apos cpos : Pos} {T id : String} {r : V → List V → Hp → VK → Prop}
private theorem pe_bm (pa : PlainAttrs T) (slot : Slot T name id) (hty : typeOf (.builtin id) = pure (.type "method_descriptor")) (hm : MtR X id r) (ho : PE X o to) (ha : PA X (e :: es) t)
    (hbase : attributeBase o name X.env (eval o X.env) = eval o X.env := by rfl)
    (hfew : ((backTo cpos (starEach (e :: es) X.env)).all (fun x => !x.1) && (backToKw cpos (keywordEach [] X.env)).all (fun x => x.1.isSome)
      && decide ((e :: es).length + ([] : List Keyword).length + (if ([] : List Keyword).isEmpty then 0 else 1) < 30)) = true := by rfl)
    (hline : (apos.endLine == cpos.line) = true := by rfl) (hs : starEach (e :: es) X.env = (false, eval e X.env) :: starEach es X.env := by rfl) (hplain : (backTo cpos (starEach es X.env)).any (·.1) = false := by rfl) :
    PE X (.Call (.Attribute o name apos) (e :: es) [] cpos) (tBM X.K T r to t) := by
  intro pins s σ H Q I h
  refine wpAny_Call_method_late hbase hfew hline rfl (thn (ho pins s σ H _ I h) fun v s1 zz88 => e24 zz88 fun x H1 I1 r1 ty q1 => ?_)
  obtain ⟨h1, h2⟩ := tyV_is I1 r1 ty
  refine ⟨T, id, pa, slot, hty, h1, h2, ?_⟩
  have hA := ha cpos pins s1 σ H1 _ I1 q1
  rw [hs] at hA ⊢
  refine Calls.callWith_builtin (by show (false || (backTo cpos (starEach es X.env)).any (·.1)) = false; rw [hplain] <;> rfl) (Calls.evalArgs_plain ?_)
  exact thn hA fun us s2 zz89 => e23 zz89 fun vs H2 I2 r2 q2 => hm pins s2 σ H2 x vs v us Q I2 r1 r2 q2
/- xs.append(e), list.index on a module's tuple .. are MtR facts of 06m -/
end
end L2
namespace L2
open PySem PySem.Spec PyProof.Rows
noncomputable def MtM (X : Cx) (id : String) (r : V → List V → Hp → VK → Prop) : Prop :=
  ∀ (pins : List (Addr × Obj)) (s : Shared) (σ : St) (H : Hp) (x : V) (xs : List V) (v : Value) (us : List Value) (Q : VK), Inv X pins σ H s → RelV x v → Vals xs us → r x xs H Q →
    wpAny (model X.prog X.w) X.A (call (.builtin id) (v :: us)) (EP X pins σ Q) X.xe s
private theorem Vals.one : ∀ {x : V} {us : List Value}, Vals [x] us → ∃ u, us = [u] ∧ RelV x u
  | _, _, .cons r .nil => ⟨_, rfl, r⟩
private theorem Vals.two : ∀ {x y : V} {us : List Value}, Vals [x, y] us → ∃ u v, us = [u, v] ∧ RelV x u ∧ RelV y v
  | _, _, _, .cons r (.cons q .nil) => ⟨_, _, rfl, r, q⟩
private theorem Vals.eraseIdx : ∀ {xs : List V} {us : List Value} (i : Nat), Vals xs us → Vals (xs.eraseIdx i) (us.eraseIdx i)
  | _, _, _, .nil => .nil
  | _, _, 0, .cons _ t => t
  | _, _, i + 1, .cons r t => .cons r (Vals.eraseIdx i t)
private theorem len_erase {α : Type} : ∀ (l : List α) (i : Nat), (l.eraseIdx i).length ≤ l.length
  | [], _ => Nat.le_refl _
  | _ :: _, 0 => Nat.le_succ _
  | _ :: r, i + 1 => Nat.succ_le_succ (len_erase r i)
section
variable {X : Cx} {pins : List (Addr × Obj)} {σ : St} {H : Hp} {s : Shared} {l b : Addr} {xs ys zs : List V}
private theorem Inv.lset {its its' : List Value} {n : Nat} {f : Array Value → Array Value} {t' : Nat} (I : Inv X pins σ H s) (hH : H l = some (.lst xs))
    (e : s.heap.get? l = some { cls := .type "list", data := .seq its.toArray n }) (hf : f its.toArray = its'.toArray) (hv : Vals ys its') (hz : ys.length ≤ sizeLine) :
    Inv X pins σ (upd H l (.lst ys)) { s with heap := s.heap.update l (Obj.mapSeq f), toks := t' } := by
  have q := PySem.IsL.update e f
  rw [hf] at q
  refine I.write (x := l) (e := l) (by rw [hH]; exact trivial) (.inl rfl) (fun b' u hb hu => (Heap.get?_update_other s.heap (Obj.mapSeq f) (Ne.symm hb)).trans hu) ⟨_, q⟩ ?_
  exact ⟨hz, its', _, hv, q⟩
private theorem Inv.lnew {its : List Value} {t' : Nat} (I : Inv X pins σ H s) (hv : Vals ys its) (hz : ys.length ≤ sizeLine) :
    Inv X pins σ (upd H s.heap.objs.size (.lst ys)) { s with heap := s.heap.push { cls := .type "list", data := .seq its.toArray }, toks := t' } :=
  I.laid (fun _ _ q => Heap.get?_push_of_some _ q) (Nat.le_refl _) ⟨hz, its, 0, hv, Heap.get?_push_size _ rfl⟩
private theorem Inv.fresh (I : Inv X pins σ H s) : H s.heap.objs.size = none := I.hok.fresh (Nat.le_refl _)
private theorem Inv.lstM (I : Inv X pins σ H s) (hH : H l = some (.lst xs)) : xs.length ≤ sizeLine ∧ ∃ (its : List Value) (n : Nat), Vals xs its ∧ xs.length = its.length ∧ s.heap.get? l = some { cls := .type "list", data := .seq its.toArray n } := by
  obtain ⟨z, its, n, r, e⟩ := I.hok l _ hH
  exact ⟨z, its, n, r, r.length, e⟩
private theorem notLongL {n : Nat} (h : n ≤ sizeLine) : Builtin.List.listTooLong n = false := by
  unfold Builtin.List.listTooLong
  exact decide_eq_false (by omega)
end
section
variable {X : Cx}
noncomputable def rAppend : V → List V → Hp → VK → Prop := fun x vs H Q => ∃ l xs y, x = .ref l ∧ vs = [y] ∧ H l = some (.lst xs) ∧ xs.length < sizeLine ∧ Q .non (upd H l (.lst (xs ++ [y])))
private theorem mt_append : MtM X "list.append" rAppend := by
  intro pins s σ H x vs v us Q I rx rv h
  obtain ⟨l, xs, y, rfl, rfl, hH, hz, q⟩ := h
  cases rx
  obtain ⟨u, rfl, ru⟩ := rv.one
  obtain ⟨z, its, n, r, hl, e⟩ := I.lstM hH
  refine call_meets F.slot_list_append ⟨_, e, rfl⟩ F.entry_list_append (F.args_list_append_2 _ _) (PySem.list_append l its.toArray n u (by rw [List.size_toArray]; omega)) ⟨e, ?_⟩
  refine ⟨.non, _, I.lset (its' := its ++ [u]) hH e (by simp) (r.append (.cons ru .nil)) ?_, rfl, q⟩
  rw [List.length_append, List.length_singleton]
  omega
noncomputable def rPopAt : V → List V → Hp → VK → Prop := fun x vs H Q => ∃ l xs i k y, x = .ref l ∧ vs = [.int i] ∧ H l = some (.lst xs) ∧ -(2 ^ 63) ≤ i ∧ i < 2 ^ 63 ∧ seqIndex? i xs.length = some k ∧ xs[k]? = some y ∧ Q y (upd H l (.lst (xs.eraseIdx k)))
private theorem mt_popAt : MtM X "list.pop" rPopAt := by
  intro pins s σ H x vs v us Q I rx rv h
  obtain ⟨l, xs, i, k, y, rfl, rfl, hH, h1, h2, hk, hy, q⟩ := h
  cases rx
  obtain ⟨u, rfl, ru⟩ := rv.one
  obtain ⟨t, rfl⟩ := ru
  obtain ⟨z, its, n, r, hl, e⟩ := I.lstM hH
  obtain ⟨w, hw, rw'⟩ := r.get hy
  refine call_meets F.slot_list_pop ⟨_, e, rfl⟩ F.entry_list_pop (F.args_list_pop_2 _ _)
    (MeetsSeq.list_pop_at l its.toArray n i t k w (fitsIndex_both h1 h2) (by rw [List.size_toArray, ← hl]; exact hk) (by rw [← Array.getElem?_toList]; exact hw) (by rw [List.size_toArray]; omega)) ⟨e, ?_⟩
  refine ⟨y, _, I.lset (its' := its.eraseIdx k) hH e ?_ (r.eraseIdx k) ?_, rw', q⟩
  · show its.toArray.eraseIdxIfInBounds k = (its.eraseIdx k).toArray
    rw [List.eraseIdxIfInBounds_toArray]
  · have := len_erase xs k
    omega
end
section
variable {prog : Program} {w : World} {A : Around} {E : Value → Shared → Prop} {s : Shared}
private theorem bounds_run {a c n : Nat} (hac : a ≤ c) (hc : c ≤ n) : sliceBounds (some (a : Int)) (some (c : Int)) none n = ((a : Int), (c : Int), 1) := by
  simp only [sliceBounds, Option.getD_none]
  have h1 : ¬ ((a : Int) < 0) := by omega
  have h2 : ¬ ((c : Int) < 0) := by omega
  simp only [h1, h2, if_false, show (1 : Int) > 0 by decide, if_true]
  congr 1
  · omega
  · congr 1; omega
end
section
variable {X : Cx}
end
end L2
namespace Att
open PySem PySem.W PySem.Calls PyProof.Rows
private theorem ints_of_wellAll {P : Params} {h : Heap} : ∀ (ns : List Int) (vs : List Value), WellAll P h vs (ns.map WData.int) → IntsAre vs ns := by
  intro ns
  induction ns with
  | nil =>
    intro vs w
    rw [List.map_nil] at w
    cases w
    exact .nil
  | cons n ns ih =>
    intro vs w
    rw [List.map_cons] at w
    cases w with
    | cons a b =>
      cases a
      exact .cons _ _ (ih _ b)
private theorem script_of {l : OpenLaw} {n : Nat} (hn : l.most = some n) {P : Params} {h : Heap} {args : List WData} {vals : List Value}
    (hpre : l.row.toRowW.claim.pre args = true) (hwl : WellAll P h vals args) :
    ∃ a vs ns, vals = [Value.ref a] ∧ args = [WData.list (ns.map WData.int)] ∧ h.get? a = some { cls := .type "list", data := .seq vs.toArray } ∧ IntsAre vs ns ∧ ns.length ≤ n := by
  have hsh : WShape.hasAll [] args [.list .int] = true := (pre_splitW hpre).1
  have hc : l.pre.holds [] { args := args } = true := (pre_splitW hpre).2
  obtain ⟨d, r, rfl, h1, h2⟩ := hasAllW_cons hsh
  obtain rfl := hasAllW_nil h2
  obtain ⟨xs, rfl, h3⟩ := hasW_list h1
  obtain ⟨ns, rfl⟩ := items_int h3
  have hlen : ns.length ≤ n := by
    unfold OpenLaw.pre at hc
    have h4 : (WTm.not (.lt (.lit (.int (n : Int))) (.len (.arg 0)))).holds [] { args := [.list (ns.map .int)] } = true := by
      have h4 := (holds_andW hc).1
      rw [hn] at h4
      exact h4
    have h5 := condW_of h4 (w_not (w_lt w_lit (w_len_list (w_arg rfl))))
    rw [List.length_map] at h5
    refine Nat.le_of_not_lt fun q => ?_
    have q' : (n : Int) < ((ns.length : Nat) : Int) := by omega
    first
      | (rw [decide_eq_true q'] at h5; exact absurd h5 (by decide))
      | (simp at h5; omega)
  cases hwl with
  | cons w1 w2 =>
    cases w2
    cases w1 with
    | list ho hall => exact ⟨_, _, ns, rfl, rfl, ho, ints_of_wellAll ns _ hall, hlen⟩
private theorem post_true (l : OpenLaw) (args : List WData) : l.row.toRowW.claim.post args (.bool true) args = true :=
  postW_of (r := l.row.toRowW) (X := (true == true))
    (show WShape.has [] (.bool true) .bool = true by first | rfl | decide | simp [WShape.has, WShape.arms, WShape.armsAll])
    (show (WTm.eq .res (.lit (.bool true))).value [] { args := args, res := some (.bool true), after := args } = some (.bool (true == true)) from w_eq_bool (w_res rfl) w_lit) rfl
private theorem attach_call {l : OpenLaw} {n : Nat} {q : Program} {loose : List Str} {XP : (Str → Option Value) → Heap → Prop} {YP : World → Heap → Prop} {d : DefRec}
    (hn : l.most = some n) (hdf : d.params.defaults = [])
    (call : ∀ (w : World) (s₀ s₁ : Shared) (mg mb : Str → Option Value) (fa : Addr) (o : Obj) (pm cd doc : Value) (a : Addr) (vs : List Value) (ns : List Int),
      Ground q loose [] XP w s₀ mg mb s₁.heap → YP w s₁.heap →
      s₁.heap.get? fa = some o → o.data = .func (docDef d.name d.params d.body d.scope pm cd doc) → s₁.heap.CodeRec cd d.name → mg d.name = some (.ref fa) →
      s₁.heap.get? a = some { cls := .type "list", data := .seq vs.toArray } → IntsAre vs ns → ns.length ≤ n → s₁.gens = #[] →
      codeAny (model l.prog w) callerA (.call (.ref fa) ⟨[.ref a], []⟩) (fun r s' => r = .ok (.ret (.bool true)) ∧ OldK s₁.heap s'.heap ∧ s'.os = s₁.os ∧ AllBare s'.gens) s₁) :
    WalkO q loose XP YP l.row.toRowW d [] (fun f vs => PySem.call f vs) := by
  intro w s₀ s₁ mg mb G Y fa o pm cd doc dV kV ho hd hcd hD hmg hg args vals as hpre hlay hrd hwl hlo
  obtain rfl : dV = .none := Dflts.none hD hdf
  obtain rfl : kV = .none := Dflts.noKw hD
  obtain ⟨a, vs, ns, rfl, rfl, hobj, hints, hlen⟩ := script_of hn hpre hwl
  refine enter_call (codeAny_mono (call w s₀ s₁ mg mb fa o pm cd doc a vs ns G Y ho (fd_plain hd) hcd hmg hobj hints hlen hg) fun r s' hq => ?_)
  obtain ⟨rfl, h2, h3, h4⟩ := hq
  exact ⟨.inl ⟨.bool true, .bool true, [], rfl, fun _ => rfl, .bool true, post_true l _, fun _ => ⟨List.Pairwise.nil, fun _ hm => (nomatch hm)⟩⟩, h2, h3, h4⟩
section
variable {prog : Program} {w : World} {A : Around} {E : Value → Shared → Prop} {s : Shared} {K : Frag}
end
end Att
namespace L2
open PySem PySem.Spec PyProof.Rows
private theorem vals_ints : ∀ {vs : List Value} {ns : List Int}, IntsAre vs ns → Vals (ns.map V.int) vs
  | _, _, .nil => .nil
  | _, _, .cons n t h => .cons ⟨t, rfl⟩ (vals_ints h)
end L2
namespace L2
open PySem PySem.Spec PyProof.Rows
end L2
/- THE LAST THEOREM (shape; LID, My.* are yours):
   My.Adr: a structure of the addresses that your layer names (classes, functions); My.Txt K t: a structure (Prop) of the equations over K;
   My.txt_mk : {K} {implicit addresses ..} (e1 : nsIn K mainGlobals "law" = some (some (.ref f))) (e2 : K.lookup f = some ⟨oc, od, .func (fnOf "law" "law" params body scope dV kV doc pm an cdv ct), sl⟩) (e3 : codeIn K cdv "law" = true) .. : ∃ t, My.Txt K t
set_option maxRecDepth 100000 in
set_option maxHeartbeats 0 in
theorem PySem.Challenge.cw_LID_holds : PySem.Challenge.rw_LID.Holds := by
  w_on; o_law; k_head; (case hw => w_witness2)
  k_fill
  refine L2.walk_of (l := PySem.Challenge.rw_LID) (n := 63) (k := 40) (x := "script") (CX := fun w => ..) (sp := fun _ => My.sp_law) rfl (by decide) rfl ⟨rfl, by decide, by decide⟩ (fun w h Y => PySem.W.kIn_of Y) ?F ?S ?C
  case F =>
    intro w mg fa h KX G hmg
    have T : ∃ t, My.Txt (L2.KOf KX) t := by
      dsimp only [L2.KOf]                          -- K must stand as «<heap const> w.params» for k_is
      refine' My.txt_mk ?e1 ?e2 ?e3 ..
      (case e1 => PySem.W.k_is)                    -- in the order: a name -> its address -> its object -> its parts
      (case e2 => PySem.W.k_is)
      ..
    obtain ⟨t, T⟩ := T
    have e0 := hmg.symm.trans (PySem.W.mg_of KX G T.law)
    cases e0                                       -- fa is the law's own address
    exact ⟨_, fun s u => .of_eq rfl, fun base kb nb => My.law_fn T kb nb⟩     -- if «.of_eq rfl» comes too early: refine' ⟨_, ?b, fun base kb nb => My.law_fn T kb nb⟩; exact fun s u => .of_eq rfl
  case S => exact fun w H a ns hl hO hS => ..
  case C => exact ..
(the tactic k_is has no namespace: write k_is) -/
namespace L2
open PySem PySem.Spec PyProof.Rows
noncomputable def inClass (s : Stmt) (j : Nat) : Stmt := match s with
  | .ClassDef _ _ _ body _ _ _ _ _ _ _ => body.getD j (.Pass ⟨0, 0, 0, 0⟩)
  | _ => .Pass ⟨0, 0, 0, 0⟩
noncomputable def defArgs (s : Stmt) : Arguments := match s with
  | .FunctionDef _ a _ _ _ _ _ _ _ _ => a
  | _ => { posonlyargs := [], args := [], vararg := none, kwonlyargs := [], kw_defaults := [], kwarg := none, defaults := [] }
noncomputable def defBody (s : Stmt) : List Stmt := match s with
  | .FunctionDef _ _ b _ _ _ _ _ _ _ => b
  | _ => []
noncomputable def defScope (s : Stmt) : Scope := match s with
  | .FunctionDef _ _ _ _ _ _ sc _ _ _ => sc
  | _ => { kind := .function, names := [], isGenerator := false, isCoroutine := false }
noncomputable abbrev CX0 : CXT := fun _ _ _ _ _ _ => False
noncomputable abbrev E0 : XK := fun _ _ _ => False
private theorem pass0 {X : Cx} : Passes CX0 X E0 := fun _ _ _ _ _ _ _ h => h.elim
structure Fun (K : PySem.W.Frag) (x qual : Str) (st : Stmt) (f : Addr) (fd : FuncData) : Prop where
  ex : ∃ (oc : Value) (od : Option Addr) (kV doc pm : Value) (an : Option Addr) (cdv ct : Value) (osl : Array (Option Value)),
    fd = PySem.W.fnOf x qual (defArgs st) (defBody st) (defScope st) .none kV doc pm an cdv ct ∧ K.lookup f = some ⟨oc, od, .func fd, osl⟩ ∧ PySem.W.codeIn K cdv qual = true
  kp : PySem.W.keepIn K (.ref f) = true
section
variable {P : Program} {w : World} {K : PySem.W.Frag} {mg : Str → Option Value} {base : Heap}
private theorem Fun.ok {x qual : Str} {st : Stmt} {f : Addr} {fd : FuncData} {N ps : List Str} {k : Nat} {sp : Sp} (F : Fun K x qual st f fd) (S : FnScope N ps (defScope st)) (len : ∀ vs H Q E, sp vs H Q E → vs.length = ps.length)
    (hbody : ∀ (cdv : Value) (A : Around) (outer : List Env) (s : Shared) (H : Hp) (vs : List V) (Q : VK) (E : XK), Room k (A.deeper (envOfC qual (defScope st) s.heap.objs.size f cdv)) → sp vs H Q E →
      ∃ t, PSs (cxOf CX0 P w K mg base N qual (defScope st) f cdv A outer s H E).nox (defBody st) t ∧ t { nx := fun _ H' => Q .non H', rt := Q } (start N vs) H) : FnOk P w K mg base CX0 (k + 1) f fd ps sp := by
  obtain ⟨oc, od, kV, doc, pm, an, cdv, ct, osl, rfl, lk, hcd⟩ := F.ex
  refine fn_of lk hcd S len fun A outer s H vs Q E hr hsp => ?_
  obtain ⟨t, h, q⟩ := hbody cdv A outer s H vs Q E hr hsp
  exact ⟨t, h.nox, q⟩
private theorem Fun.binds {x qual : Str} {st : Stmt} {f : Addr} {fd : FuncData} {ps : List Str} (F : Fun K x qual st f fd)
    (h : ∀ (kV doc pm : Value) (an : Option Addr) (cdv ct : Value) (us : List Value), us.length = ps.length → bindArgs (PySem.W.fnOf x qual (defArgs st) (defBody st) (defScope st) .none kV doc pm an cdv ct) ⟨us, []⟩ = pure (ps.zip us)) : Binds K fd ps [] := by
  obtain ⟨oc, od, kV, doc, pm, an, cdv, ct, osl, rfl, lk, hcd⟩ := F.ex
  exact .all (h kV doc pm an cdv ct)
private theorem fun_mk {x qual : Str} {st : Stmt} {f : Addr} {oc : Value} {od an : Option Addr} {osl : Array (Option Value)} {kV doc pm cdv ct : Value} (l : K.lookup f = some ⟨oc, od, .func (PySem.W.fnOf x qual (defArgs st) (defBody st) (defScope st) .none kV doc pm an cdv ct), osl⟩)
    (c : PySem.W.codeIn K cdv qual = true) (k : PySem.W.keepIn K (.ref f) = true) : Fun K x qual st f (PySem.W.fnOf x qual (defArgs st) (defBody st) (defScope st) .none kV doc pm an cdv ct) := ⟨⟨oc, od, kV, doc, pm, an, cdv, ct, osl, rfl, l, c⟩, k⟩
end
private theorem small1000 {n : Nat} (h : n ≤ 1000) : n < sizeLine := Nat.lt_of_le_of_lt h (by decide)
section
variable {X : Cx}
private theorem pv (i : Nat) {x : Str} {pos : Pos} (hN : X.N[i]? = some x := by rfl) (hv : Vis X.env.scope x := by first | exact Or.inl rfl | exact Or.inr (Or.inl rfl) | exact Or.inr (Or.inr rfl)) (hd : (x == ("__debug__" : Str)) = false := by decide)
    (hcd : (x == ("__classdict__" : Str)) = false := by decide) : PE X (.Name x pos) (tVar i) := pe_var hN hv hd hcd
end
noncomputable def Same (H H' : Hp) : Prop := ∀ b o, H b = some o → H' b = some o
private theorem Same.refl (H : Hp) : Same H H := fun _ _ h => h
private theorem Same.trans {H H1 H2 : Hp} (a : Same H H1) (b : Same H1 H2) : Same H H2 := fun c o h => b c o (a c o h)
end L2

set_option Elab.async false
set_option linter.all false
set_option maxRecDepth 100000
namespace L2
open PySem PySem.Spec PyProof.Rows
section
variable {κ : Type} [DecidableEq κ]
end
section
variable {P : Program} {w : World} {H : Hp} {h : Heap} {a : Addr}
end
section
variable {X : Cx} {pins : List (Addr × Obj)} {σ : St} {H : Hp} {s : Shared} {a : Addr} {y v : V} {u r : Value} {o : Option V} {A : Around} {E : Value → Shared → Prop}
end
section
variable {X : Cx} {pins : List (Addr × Obj)} {σ : St} {H : Hp} {s : Shared} {a : Addr} {kvs : List (Key × V)} {k : Key} {u : Value} {A : Around} {E : Value → Shared → Prop}
end
section
variable {X : Cx} {o i e value : Expr} {pos pos' tpos : Pos} {td ty tv : TE}
end
section
variable {X : Cx} {pos : Pos}
end
section
variable {X : Cx} {pins : List (Addr × Obj)} {σ : St} {H : Hp} {s : Shared} {a : Addr} {y d : V} {u r : Value} {o : Option V} {A : Around} {E : Value → Shared → Prop}
end
section
variable {X : Cx} {o e f : Expr} {apos cpos : Pos} {td ty tx : TE}
end
section
variable {X : Cx} {pins : List (Addr × Obj)} {σ : St} {H : Hp} {s : Shared} {a : Addr} {kvs : List (Key × V)} {A : Around} {E : Value → Shared → Prop}
end
section
variable {X : Cx} {pins : List (Addr × Obj)} {σ : St} {H : Hp} {s : Shared} {a : Addr} {y : V} {u : Value} {A : Around} {E : Value → Shared → Prop}
end
end L2

set_option Elab.async false
set_option linter.all false
set_option maxRecDepth 100000
namespace L3
open PySem PySem.Spec PyProof.Rows L2
noncomputable def Sm (n : Nat) (i : Int) : Prop := i.natAbs < 2 ^ n
private theorem Sm.mono {a b : Nat} {i : Int} (h : Sm a i) (k : a ≤ b) : Sm b i := Nat.lt_of_lt_of_le h (Nat.pow_le_pow_right (by decide) k)
private theorem Sm.add {a : Nat} {i j : Int} (h : Sm a i) (k : Sm a j) : Sm (a + 1) (i + j) := by
  unfold Sm at *
  have := Int.natAbs_add_le i j
  rw [Nat.pow_succ]
  omega
private theorem Sm.neg {a : Nat} {i : Int} (h : Sm a i) : Sm a (-i) := by
  unfold Sm at *
  rw [Int.natAbs_neg]; exact h
private theorem Sm.sub {a : Nat} {i j : Int} (h : Sm a i) (k : Sm a j) : Sm (a + 1) (i - j) := by
  rw [Int.sub_eq_add_neg]; exact h.add k.neg
private theorem Sm.mul {a b : Nat} {i j : Int} (h : Sm a i) (k : Sm b j) : Sm (a + b) (i * j) := by
  unfold Sm at *
  rw [Int.natAbs_mul, Nat.pow_add]
  exact Nat.mul_lt_mul'' h k
private theorem Sm.le {a : Nat} {i j : Int} (h : Sm a i) (k : j.natAbs ≤ i.natAbs) : Sm a j := Nat.lt_of_le_of_lt k h
private theorem Sm.bits {n : Nat} {i : Int} (h : Sm n i) : Builtin.Int.intBits i ≤ n := by
  unfold Builtin.Int.intBits
  split
  · exact Nat.zero_le _
  · rename_i z
    have nz : i.natAbs ≠ 0 := by
      intro e
      apply z
      rw [Int.natAbs_eq_zero] at e
      subst e
      rfl
    have := (Nat.log2_lt nz (k := n)).mpr h
    omega
private theorem Sm.log {n : Nat} {i : Int} (h : Sm n i) (k : 0 < n) : i.natAbs.log2 < n := by
  by_cases z : i.natAbs = 0
  · rw [z]; simpa using k
  · exact (Nat.log2_lt z).mpr h
noncomputable def CMulS (i j : Int) : Prop := ∃ a b, a + b ≤ 100000000 ∧ Sm a i ∧ Sm b j
private theorem CMulS.ok {i j : Int} (h : CMulS i j) : IntMulOk i j := by
  obtain ⟨a, b, ab, hi, hj⟩ := h
  have h1 := hi.bits
  have h2 := hj.bits
  unfold IntMulOk
  intro z
  rw [Bool.and_eq_true] at z
  have z2 := z.2
  unfold Builtin.Int.intTooBig at z2
  have z3 := of_decide_eq_true z2
  have e : (bitsLine : Int) = 134217728 := by decide
  rw [e] at z3
  omega
noncomputable def CDivS (_i j : Int) : Prop := j ≠ 0 ∧ Sm 9000 j
section
variable {X : Cx}
private theorem op_mulS : OpR X (binaryOp .Mult) (rI CMulS fun i j => .int (i * j)) := opI fun _ _ _ _ _ _ _ hc q => mul_int q hc.ok
private theorem op_fdivS : OpR X (binaryOp .FloorDiv) (rI CDivS fun i j => .int (i.fdiv j)) := opI fun _ _ _ _ _ _ _ hc q => floordiv_int hc.1 q (.inl (PyProof.noPylong_of_log2 (hc.2.log (by decide))))
end
section
variable {X : Cx}
end
inductive D where
  | non | bl (b : Bool) | int (i : Int) | str (x : Str) | tup (xs : List D) | lst (xs : List D)
noncomputable def b2n (b : Bool) : Int := if b then 1 else 0
mutual
noncomputable def peq : D → D → Bool
  | .non, e => match e with | .non => true | _ => false
  | .bl a, e => match e with | .bl b => a == b | .int i => b2n a == i | _ => false
  | .int i, e => match e with | .bl b => i == b2n b | .int j => i == j | _ => false
  | .str x, e => match e with | .str y => x == y | _ => false
  | .tup ds, e => match e with | .tup es => peqs ds es | _ => false
  | .lst ds, e => match e with | .lst es => peqs ds es | _ => false
noncomputable def peqs : List D → List D → Bool
  | [], e => match e with | [] => true | _ => false
  | d :: ds, e => match e with | e :: es => peq d e && peqs ds es | [] => false
end
mutual
noncomputable def dep : D → Nat
  | .tup ds => deps ds + 1
  | .lst ds => deps ds + 1
  | _ => 0
noncomputable def deps : List D → Nat
  | [] => 0
  | d :: ds => max (dep d) (deps ds)
end
private theorem dep_le {d : D} : ∀ {ds : List D} {i : Nat}, ds[i]? = some d → dep d ≤ deps ds
  | [], i, h => by simp at h
  | e :: ds, 0, h => by simp at h; subst h; rw [deps]; exact Nat.le_max_left _ _
  | e :: ds, i + 1, h => by
    rw [deps]
    exact Nat.le_trans (dep_le (ds := ds) (i := i) (by simpa using h)) (Nat.le_max_right _ _)
mutual
private theorem peq_refl : ∀ d : D, peq d d = true
  | .non => by rw [peq]
  | .bl b => by simp only [peq]; simp
  | .int b => by simp only [peq]; simp
  | .str b => by simp only [peq]; simp
  | .tup ds => by simp only [peq]; exact peqs_refl ds
  | .lst ds => by simp only [peq]; exact peqs_refl ds
private theorem peqs_refl : ∀ d : List D, peqs d d = true
  | [] => by rw [peqs]
  | d :: ds => by rw [peqs]; simp [peq_refl d, peqs_refl ds]
end
private theorem peqs_all : ∀ (ds es : List D), ds.length = es.length → peqs ds es = (List.range ds.length).all fun i => peq (ds.getD i .non) (es.getD i .non)
  | [], [], _ => by rw [peqs]; rfl
  | d :: ds, e :: es, h => by
    rw [peqs, peqs_all ds es (by simpa using h), List.length_cons, List.range_succ_eq_map]
    simp [List.all_map, Function.comp_def]
  | [], _ :: _, h => by simp at h
  | _ :: _, [], h => by simp at h
private theorem peqs_len : ∀ (ds es : List D), ds.length ≠ es.length → peqs ds es = false
  | [], [], h => absurd rfl h
  | d :: ds, e :: es, h => by rw [peqs, peqs_len ds es (by simpa using h)]; simp
  | [], _ :: _, h => by simp only [peqs]
  | _ :: _, [], h => by simp only [peqs]
open SeqAt
section
variable {X : Cx} {pins : List (Addr × Obj)} {σ : L2.St} {H : Hp} {s : Shared}
private theorem in1_units {A : Around} : A.in1.units = A.units + 1 := rfl
private theorem seq_bool {ds es : List D} {us ts : List Value} (l1 : ds.length = us.length) (l2 : es.length = ts.length) :
    ((List.range (min us.toArray.size ts.toArray.size)).all (fun j => peq (ds.getD j .non) (es.getD j .non)) && us.toArray.size == ts.toArray.size) = peqs ds es := by
  by_cases h : ds.length = es.length
  · have e : us.toArray.size = ds.length := by simp [l1]
    have e2 : ts.toArray.size = ds.length := by simp [h, l2]
    rw [e, e2, peqs_all ds es h, Nat.min_self]
    simp
  · rw [peqs_len ds es h]
    have : (us.toArray.size == ts.toArray.size) = false := by
      rw [beq_eq_false_iff_ne]
      simp only [List.size_toArray, ← l1, ← l2]
      exact h
    rw [this, Bool.and_false]
end
section
variable {X : Cx}
end
private theorem Room.u60 {k : Nat} {A : Around} (r : Room k A) : A.units + 60 < cLine := by have := r.un; omega
end L3
set_option Elab.async false
set_option linter.all false
set_option maxRecDepth 100000
namespace L3
open PySem PySem.Spec PyProof.Rows L2
noncomputable abbrev S := L2.St
private theorem comp_loop {prog : Program} {w : World} {A : Around} {R : Result → Shared → Prop} {s : Shared} {elt target iter : Expr} {ifs : List Expr} {scope : Scope} {pos : Pos} {it acc : Value} {env : Env} (J : Nat → Shared → Prop)
    (turn : ∀ n s, J n s → wpAny (model prog w) A (pyNext it) (fun r s1 => match r with
      | none => R (.ok .next) s1
      | some v => wpAny (model prog w) A (letOwnedTupleGo target it v) (fun _ s2 => wpAny (model prog w) A (assign target env v) (fun _ s3 =>
          wpAny (model prog w) A (forIn ifs true fun c r => if r = true then do let ok ← isTrue c env (eval c env); pure (ForInStep.yield ok) else pure (ForInStep.yield r)) (fun ok s4 =>
            if ok = true then wpAny (model prog w) A (eval elt env) (fun x s5 => wpAny (model prog w) A (call (.builtin "list.append") [acc, x]) (fun _ s6 => ∃ m, m < n ∧ J m s6) (fun _ _ => False) s5) (fun _ _ => False) s4
            else ∃ m, m < n ∧ J m s4) (fun _ _ => False) s3) (fun _ _ => False) s2) (fun _ _ => False) s1) (fun _ _ => False) s)
    (n : Nat) (h : J n s) : codeAny (model prog w) A (.compLoop (.ListComp elt [⟨target, iter, ifs, 0⟩] scope pos) 0 it acc env) R s := by
  refine codeAny_loop rfl J (fun n s hJ => ?_) n h
  show wpAny (model prog w) A ((compTurn (.ListComp elt [⟨target, iter, ifs, 0⟩] scope pos) 0 it acc env).onRaise (fun x => do noteFrame x env; theTreesLotGoes x)) _ _ s
  refine wpAny_noted ?_
  rw [compTurn_list]
  refine wpAny_bind (wpAny_standAt (wpAny_bind (wpAny_mono (turn n s hJ) (fun r s1 h1 => ?_) fun _ _ z => z.elim)))
  cases r with
  | none => exact wpAny_pure h1
  | some v =>
    refine wpAny_bind (wpAny_mono h1 (fun _ s2 h2 => wpAny_bind (wpAny_mono h2 (fun _ s3 h3 => wpAny_bind (wpAny_mono h3 (fun ok s4 h4 => ?_) fun _ _ z => z.elim)) fun _ _ z => z.elim)) fun _ _ z => z.elim)
    cases ok with
    | false => exact wpAny_pure ⟨rfl, h4⟩
    | true => exact wpAny_bind (wpAny_bind (wpAny_mono h4 (fun x s5 h5 => wpAny_bind (wpAny_mono h5 (fun _ s6 h6 => wpAny_pure (wpAny_pure ⟨rfl, h6⟩)) fun _ _ z => z.elim)) fun _ _ z => z.elim))
noncomputable def clOf (env : Env) : List (Str × NameKind) → List (Str × Addr) → List (Str × Addr)
  | [], acc => acc
  | (n, k) :: r, acc => if k == .free then clOf env r ((n, (env.cells.lookup n).getD 0) :: acc) else clOf env r acc
private theorem closure_forIn {env : Env} : ∀ (names : List (Str × NameKind)) (acc : List (Str × Addr)), (names.all fun y => y.2 != .free || (env.cells.lookup y.1).isSome) = true →
    (forIn names acc (fun (x : Str × NameKind) (cs : List (Str × Addr)) => match x with | (name, kind) => if (kind == NameKind.free) = true then do let a ← cellOf env name; pure (ForInStep.yield ((name, a) :: cs)) else pure (ForInStep.yield cs)) : Sem (List (Str × Addr))) = pure (clOf env names acc)
  | [], acc, _ => rfl
  | (n, k) :: r, acc, h => by
    rw [List.all_cons, Bool.and_eq_true] at h
    rw [List.forIn_cons]
    dsimp only
    by_cases hk : (k == NameKind.free) = true
    · rw [if_pos hk]
      have h1 := h.1
      have e : k = .free := by simpa using hk
      subst e
      simp only [bne_self_eq_false, Bool.false_or] at h1
      obtain ⟨a, ha⟩ := Option.isSome_iff_exists.mp h1
      have : cellOf env n = pure a := by unfold cellOf; rw [ha]
      rw [this, pure_bind, pure_bind]
      dsimp only
      rw [closure_forIn r _ h.2, clOf, if_pos hk, ha]
      rfl
    · rw [if_neg hk, pure_bind]
      dsimp only
      rw [closure_forIn r _ h.2, clOf, if_neg hk]
private theorem closure_of {scope : Scope} {env : Env} (h : (scope.names.all fun y => y.2 != .free || (env.cells.lookup y.1).isSome) = true) : closureFor scope env = pure (clOf env scope.names []) := by
  unfold closureFor
  show (forIn scope.names [] _ >>= fun r => pure r) = _
  rw [bind_pure]
  exact closure_forIn scope.names [] h
private theorem clOf_lookup {env : Env} {x : Str} {c : Addr} : ∀ (names : List (Str × NameKind)) (acc : List (Str × Addr)), (names.all fun y => y.2 != .free || (env.cells.lookup y.1).isSome) = true →
    (∀ c, acc.lookup x = some c → env.cells.lookup x = some c) → (clOf env names acc).lookup x = some c → env.cells.lookup x = some c
  | [], acc, _, ha, h => ha c h
  | (n, k) :: r, acc, hall, ha, h => by
    rw [List.all_cons, Bool.and_eq_true] at hall
    rw [clOf] at h
    by_cases hk : (k == NameKind.free) = true
    · rw [if_pos hk] at h
      refine clOf_lookup r _ hall.2 (fun c hc => ?_) h
      rw [List.lookup_cons] at hc
      split at hc
      · rename_i hx
        have hx' : x = n := by simpa using hx
        subst hx'
        have h1 := hall.1
        have e : k = .free := by simpa using hk
        subst e
        simp only [bne_self_eq_false, Bool.false_or] at h1
        obtain ⟨a, ha'⟩ := Option.isSome_iff_exists.mp h1
        rw [ha'] at hc ⊢
        exact hc
      · exact ha c hc
    · rw [if_neg hk] at h
      exact clOf_lookup r acc hall.2 ha h
private theorem clOf_acc {env : Env} {x : Str} : ∀ (names : List (Str × NameKind)) (acc : List (Str × Addr)), (∃ c, acc.lookup x = some c) → ∃ c, (clOf env names acc).lookup x = some c
  | [], acc, h => h
  | (n, k) :: r, acc, h => by
    rw [clOf]
    split
    · refine clOf_acc r _ ?_
      rw [List.lookup_cons]
      split
      · exact ⟨_, rfl⟩
      · exact h
    · exact clOf_acc r acc h
private theorem clOf_has {env : Env} {x : Str} : ∀ (names : List (Str × NameKind)) (acc : List (Str × Addr)), (x, NameKind.free) ∈ names → ∃ c, (clOf env names acc).lookup x = some c
  | [], _, h => nomatch h
  | (n, k) :: r, acc, h => by
    rw [clOf]
    rcases List.mem_cons.mp h with e | h
    · cases e
      rw [if_pos (by rfl)]
      exact clOf_acc r _ ⟨(env.cells.lookup x).getD 0, by rw [List.lookup_cons]; simp⟩
    · split
      · exact clOf_has r _ h
      · exact clOf_has r acc h
private theorem relabel_mem {scope : Scope} {env : Env} {x : Str} {k : NameKind} (hc : ∀ y ∈ scope.names, y.2 ≠ .cell) (hk : k = .cell ∨ k = .free) (h : (relabel scope env).names.lookup x = some k) : (x, NameKind.free) ∈ scope.names := by
  have h1 := PySem.mem_of_lookup h
  unfold relabel at h1
  obtain ⟨⟨n, k'⟩, hm, e⟩ := List.mem_map.mp h1
  dsimp only at e
  split at e
  · rename_i hq
    cases e
    rw [Bool.and_eq_true, Bool.and_eq_true] at hq
    have : k' = .free := by simpa using hq.1.1
    subst this
    exact hm
  · cases e
    rcases hk with rfl | rfl
    · exact absurd rfl (hc _ hm)
    · exact hm
noncomputable def cxComp (X : Cx) (pins : List (Addr × Obj)) (s2 : Shared) (H2 : Hp) (N : List Str) (scope : Scope) (C : Addr) (fp : List Addr) : Cx :=
  { X with N := N, s₀ := s2, H₀ := H2, env := compEnvC scope (clOf X.env scope.names []) C X.env, outer := X.stack, stack := X.stack, ex := fp, fn := fun _ => false, pn := X.pn ++ pins, xe := fun _ _ => False }
noncomputable def ini (src : List (Option Nat)) (σ : S) : S := src.map fun o => o.bind fun j => (σ[j]?).join
structure CompOk (X : Cx) (scope : Scope) (N : List Str) (src : List (Option Nat)) : Prop where
  kind : scope.kind = .function
  names : ∀ x ∈ scope.names, x.2 = .local → scope.names.lookup x.1 = some .local
  ncell : ∀ y ∈ scope.names, y.2 ≠ .cell
  clos : (scope.names.all fun y => y.2 != .free || (X.env.cells.lookup y.1).isSome) = true
  len : src.length = N.length
  free : ∀ (i : Nat) (x : Str) (j : Nat), N[i]? = some x → src[i]? = some (some j) → X.N[j]? = some x ∧ Vis X.env.scope x ∧ X.env.scope.names.lookup x ≠ some .local ∧
    ((relabel scope X.env).names.lookup x = some .cell ∨ (relabel scope X.env).names.lookup x = some .free)
private theorem fpOk_stk {X : Cx} {pins : List (Addr × Obj)} {σ : S} {H H' : Hp} {s : Shared} {b : Addr} (I : Inv X pins σ H s) (h : FpOk X pins H' b) : b ∉ frs X.stack := fun z => by
  rcases List.mem_cons.mp (I.stkSub b z) with e | e
  · exact h.2.1 e
  · exact h.2.2.1 e
private theorem comp_inv {X : Cx} {pins : List (Addr × Obj)} {σ : S} {H : Hp} {s2 : Shared} {scope : Scope} {N : List Str} {src : List (Option Nat)} {fp : List Addr} (I : Inv X pins σ H s2) (ok : CompOk X scope N src) (hf : ∀ b ∈ fp, FpOk X pins H b) (hfo : ∀ b ∈ fp, ∃ o, s2.heap.get? b = some o)
    {D C : Addr} {h' : Heap} {t : Nat} (hD : s2.heap.objs.size ≤ D) (hC : s2.heap.objs.size ≤ C) (hCD : C ≠ D) (keep : ∀ b o, s2.heap.get? b = some o → h'.get? b = some o) (hns : h'.Ns C (fun _ => none)) (hnew : h'.get? D = some { cls := .type "list", data := .seq #[] }) :
    Inv (cxComp X pins s2 H N scope C fp) [] (ini src σ) (upd H D (.lst [])) { s2 with heap := h', toks := t } := by
  have hH : ∀ a, s2.heap.objs.size ≤ a → H a = none := fun a ha => I.hok.fresh ha
  have lt : ∀ {b : Addr} {o : Obj}, s2.heap.get? b = some o → b < s2.heap.objs.size := fun e => Heap.lt_size e
  have cl_of : ∀ x c, (clOf X.env scope.names []).lookup x = some c → X.env.cells.lookup x = some c := fun x c e => clOf_lookup scope.names [] ok.clos (fun c z => by simp at z) e
  have hlk : HOk X.prog X.w (upd H D (.lst [])) h' := I.hok.laid keep hD ⟨Nat.zero_le _, [], 0, .nil, hnew⟩
  have un : Un (frs X.stack) fp H (upd H D (.lst [])) s2.heap h' := Un.laid keep hD (hH D hD)
  obtain ⟨m0, hn0, hl0⟩ := I.loc
  refine ⟨⟨I.ok.mod, ?_, I.ok.glob, I.ok.blt, hC, fun x y c e1 e2 => I.ok.inj x y c (cl_of x c e1) (cl_of y c e2), fun x hx => ?_, fun x c z => ?_, I.ok.hd, I.ok.frames, .inl rfl, fun b hb => ⟨?_, fun x c e => ?_⟩, I.bs, Nat.le_trans I.ok.bsz I.sz, fun b o e hb => ?_, fun b hb => fpOk_stk I (hf b hb), I.stack, I.stkFree⟩,
    rfl, I.bare, un, ⟨_, hns, fun i x v e1 e2 e3 => ?_⟩, fun x c e => ?_, ?_, fun x c e => ?_, fun p hp => ?_, hlk, ?_⟩
  · exact ok.kind
  · obtain ⟨k, hk, hx⟩ : ∃ k, (k = NameKind.cell ∨ k = .free) ∧ (relabel scope X.env).names.lookup x = some k := by
      rcases hx with hx | hx
      · exact ⟨_, .inl rfl, hx⟩
      · exact ⟨_, .inr rfl, hx⟩
    exact clOf_has _ _ (relabel_mem ok.ncell hk hx)
  · exact absurd z (by simp [cxComp])
  · obtain ⟨o, e⟩ := hfo b hb
    intro z
    have z' : b = C := z
    subst z'
    exact Nat.lt_irrefl _ (Nat.lt_of_lt_of_le (lt e) hC)
  · intro z
    exact (hf b hb).2.2.2.2.1 x c (cl_of x c e) z
  · obtain ⟨f0, f1, f2, f3, f4, f5⟩ := hf b hb
    rcases f3 with z | z
    · exact I.ok.noex b o e z
    · exact absurd (Nat.lt_of_lt_of_le (Heap.lt_size (I.ok.bs b o e).1) z) (Nat.lt_irrefl _)
  · have hj : ∃ j, src[i]? = some (some j) ∧ σ[j]? = some (some v) := by
      unfold ini at e2
      rw [List.getElem?_map] at e2
      cases q : src[i]? with
      | none => rw [q] at e2; simp at e2
      | some oj =>
        cases oj with
        | none => rw [q] at e2; simp at e2
        | some j =>
          rw [q] at e2
          simp only [Option.map_some, Option.bind_some, Option.some.injEq] at e2
          refine ⟨j, rfl, ?_⟩
          cases q2 : σ[j]? with
          | none => rw [q2] at e2; simp at e2
          | some ov => rw [q2] at e2; simp only [Option.join_some] at e2; rw [e2]
    obtain ⟨j, hj1, hj2⟩ := hj
    obtain ⟨g1, g2, g3, g4⟩ := ok.free i x j e1 hj1
    obtain ⟨u, ru, lk⟩ := hl0 j x v g1 hj2 g2
    refine ⟨u, ru, ?_⟩
    rcases lk with ⟨hk, _⟩ | ⟨hk, c, hc, hcell⟩
    · exact absurd hk g3
    · obtain ⟨k, hk1, hk2⟩ : ∃ k, (k = NameKind.cell ∨ k = .free) ∧ (relabel scope X.env).names.lookup x = some k := by
        rcases g4 with hx | hx
        · exact ⟨_, .inl rfl, hx⟩
        · exact ⟨_, .inr rfl, hx⟩
      obtain ⟨c', hc'⟩ := clOf_has (env := X.env) scope.names [] (relabel_mem ok.ncell hk1 hk2)
      have ec := cl_of x c' hc'
      rw [hc] at ec
      cases ec
      refine .inr ⟨?_, c, hc', ?_⟩
      · rcases g4 with hx | hx
        · exact .inl hx
        · exact .inr hx
      · obtain ⟨o, ho, hd⟩ := hcell
        exact ⟨o, keep c o ho, hd⟩
  · obtain ⟨v, o, ho, hd⟩ := I.cell x c (cl_of x c e)
    exact ⟨v, o, keep c o ho, hd⟩
  · show upd H D (.lst []) C = none
    rw [upd_ne hCD]
    exact hH C hC
  · obtain ⟨v, o, ho, hd⟩ := I.cell x c (cl_of x c e)
    rw [upd_ne (Nat.ne_of_lt (Nat.lt_of_lt_of_le (lt ho) hD))]
    exact I.freeC x c (cl_of x c e)
  · have hp' : p ∈ X.pn ++ pins := by
      have : p ∈ (X.pn ++ pins) ++ [] := hp
      simpa using this
    obtain ⟨q1, q2, q3, q4, q5⟩ := I.pin p hp'
    refine ⟨keep _ _ q1, ?_, ?_, fun z => ?_, q5⟩
    · rw [upd_ne (Nat.ne_of_lt (Nat.lt_of_lt_of_le (lt q1) hD))]; exact q2
    · show p.1 ≠ C
      exact Nat.ne_of_lt (Nat.lt_of_lt_of_le (lt q1) hC)
    · have z' : p.1 ∈ frs X.stack := z
      rcases List.mem_cons.mp (I.stkSub _ z') with e | e
      · exact q3 e
      · exact q4 e
  · show (ini src σ).length = N.length
    unfold ini
    rw [List.length_map]
    exact ok.len
private theorem fp_sub {X : Cx} {pins : List (Addr × Obj)} {σ : S} {H Hc : Hp} {s2 : Shared} {scope : Scope} {N : List Str} {C : Addr} {fp : List Addr} (I : Inv X pins σ H s2) (hf : ∀ b ∈ fp, FpOk X pins H b) (hfo : ∀ b ∈ fp, ∃ o, s2.heap.get? b = some o) (hC : s2.heap.objs.size ≤ C)
    (clos : (scope.names.all fun y => y.2 != .free || (X.env.cells.lookup y.1).isSome) = true) (hn : ∀ b ∈ fp, Hc b = none) : ∀ b ∈ fp, FpOk (cxComp X pins s2 H N scope C fp) [] Hc b := fun b hb => by
  obtain ⟨o, e⟩ := hfo b hb
  refine ⟨hn b hb, Nat.ne_of_lt (Nat.lt_of_lt_of_le (Heap.lt_size e) hC), fpOk_stk I (hf b hb), .inl hb, fun x c q => ?_, fun p hp => ?_⟩
  · exact (hf b hb).2.2.2.2.1 x c (clOf_lookup scope.names [] clos (fun c z => by simp at z) q)
  · have hp' : p ∈ X.pn ++ pins := by
      have : p ∈ (X.pn ++ pins) ++ [] := hp
      simpa using this
    exact (hf b hb).2.2.2.2.2 p hp'
private theorem comp_out {X : Cx} {pins : List (Addr × Obj)} {σ σc : S} {H Hc : Hp} {s2 s' : Shared} {scope : Scope} {N : List Str} {C : Addr} {fp : List Addr} {pl : List (Addr × Obj)} (I : Inv X pins σ H s2) (hf : ∀ b ∈ fp, FpOk X pins H b)
    (J : Inv (cxComp X pins s2 H N scope C fp) pl σc Hc s') : Inv X pins σ Hc s' :=
  I.call' (ch := fp) J.os J.base J.hok J.bare fun b hb => by
    obtain ⟨f0, f1, f2, f3, f4, f5⟩ := hf b hb
    exact ⟨f3, f1, f4, f5⟩
noncomputable def CompG (J : It) (g : TG) (tc : TT) (te : TE) (D : Addr) (σ : S) (H : Hp) (R : Hp → Prop) : Prop := ∃ W : Nat → Nat → S → Hp → Prop, (∃ m, W 0 m σ H) ∧ ∀ i m σ2 H2, W i m σ2 H2 →
  (J.stop i H2 ∧ R H2) ∨ (J.go i H2 ∧ ∃ N : S → Hp → Prop, (∀ σ' H', N σ' H' → ∃ m', m' < m ∧ W (i + 1) m' σ' H') ∧ ∀ x H3, J.yld i H2 x H3 → g x σ2 H3 fun σ4 H4 => tc σ4 H4 fun b H5 =>
    if b = true then te σ4 H5 fun y H6 => ∃ ys, H6 D = some (.lst ys) ∧ ys.length < sizeLine ∧ N σ4 (upd H6 D (.lst (ys ++ [y]))) else N σ4 H5)
noncomputable def tComp (wi : TI) (g : TG) (tc : TT) (te : TE) (src : List (Option Nat)) : TE := fun σ H Q => wi σ H fun J H1 => ∀ D, H1 D = none → CompG J g tc te D (ini src σ) (upd H1 D (.lst [])) (Q (.ref D))
noncomputable def tYes : TT := fun _ H Q => Q true H
noncomputable def PIfs (X : Cx) (ifs : List Expr) (t : TT) : Prop :=
  ∀ (pins : List (Addr × Obj)) (s : Shared) (σ : S) (H : Hp) (Q : Bool → Hp → Prop), Inv X pins σ H s → t σ H Q →
    wpAny (model X.prog X.w) X.A (forIn ifs true fun c r => if r = true then do let ok ← isTrue c X.env (eval c X.env); pure (ForInStep.yield ok) else pure (ForInStep.yield r)) (TP X pins σ Q) X.xe s
private theorem ifs_nil {X : Cx} : PIfs X [] tYes := fun _ _ _ H _ I h => wpAny_tests_nil ⟨H, I, h⟩
private theorem ifs_one {X : Cx} {c : Expr} {t : TT} (h : PT X c t) : PIfs X [c] t := fun pins s σ H Q I q => wpAny_tests_one (h pins s σ H Q I q)
private theorem comp_core {X : Cx} {pins : List (Addr × Obj)} {σ : S} {H2 : Hp} {s2 : Shared} {scope : Scope} {N : List Str} {src : List (Option Nat)} {fp : List Addr} {it : Addr} {tn : Nat → Heap → Prop} {J : It} {tg elt iter : Expr} {ifs : List Expr} {pos : Pos} {g : TG} {tc : TT} {te : TE} {Q : VK}
    {E : Value → Shared → Prop} {RR : Value → Addr → Result → Shared → Prop}
    (ok : CompOk X scope N src) (hcalm : X.calm = true) (I : Inv X pins σ H2 s2) (T : Turn X.prog X.w X.K tg J fp it tn) (st : tn 0 s2.heap) (hf : ∀ b ∈ fp, FpOk X pins H2 b)
    (hg : ∀ C, PG (cxComp X pins s2 H2 N scope C fp) tg g) (hc : ∀ C, PIfs (cxComp X pins s2 H2 N scope C fp) ifs tc) (he : ∀ C, PE (cxComp X pins s2 H2 N scope C fp) elt te)
    (h : ∀ D, H2 D = none → CompG J g tc te D (ini src σ) (upd H2 D (.lst [])) (Q (.ref D)))
    (hRR : ∀ D C s' H', FpOk X pins H' C → (∃ m, s'.heap.Ns C m) → Inv X pins σ H' s' → Q (.ref D) H' → RR (.ref D) C (.ok .next) s') :
    wpAny (model X.prog X.w) X.A (newList []) (fun acc s3 => wpAny (model X.prog X.w) X.A (newFunctionEnv scope X.env.globals (clOf X.env scope.names []) [] X.env.qual none .none (some X.env)) (fun cenv s4 =>
      codeAny (model X.prog X.w) X.A (.compStart (.ListComp elt [⟨tg, iter, ifs, 0⟩] scope pos) 0 (.ref it) acc { cenv with scope := relabel scope X.env }) (RR acc cenv.locals) s4) E s3) E s2 := by
  refine wpAny_newObj_type (wpAny_newFunctionEnv ok.ncell (by intro y hy; simp at hy) (fun h1 hns1 hsb1 => ?_) ok.kind)
  have hfo : ∀ b ∈ fp, ∃ o, s2.heap.get? b = some o := fun b hb => let ⟨o, e, _⟩ := T.obj 0 _ st b hb; ⟨o, e⟩
  have hpush : (s2.heap.push { cls := .type "list", dict := none, data := .seq ([] : List Value).toArray }).objs.size = s2.heap.objs.size + 1 := Heap.size_push ..
  generalize hH : s2.heap.push { cls := .type "list", dict := none, data := .seq ([] : List Value).toArray } = hp at hns1 hsb1 hpush ⊢
  dsimp only at hns1 hsb1 ⊢
  have hD : s2.heap.objs.size ≤ s2.heap.objs.size := Nat.le_refl _
  have hC : s2.heap.objs.size ≤ hp.objs.size := by rw [hpush]; exact Nat.le_succ _
  have hCD : hp.objs.size ≠ s2.heap.objs.size := by rw [hpush]; exact Nat.succ_ne_self _
  have keep : ∀ b o, s2.heap.get? b = some o → h1.get? b = some o := fun b o e =>
    hsb1.extBut b o (Nat.ne_of_lt (Nat.lt_of_lt_of_le (Heap.lt_size e) hC)) (Heap.get?_push_of_some _ (hH ▸ Heap.get?_push_of_some _ e))
  have hnew : h1.get? s2.heap.objs.size = some { cls := .type "list", data := .seq #[] } :=
    hsb1.extBut _ _ (Ne.symm hCD) (Heap.get?_push_of_some _ (hH ▸ Heap.get?_push_size _ rfl))
  have hHD : H2 s2.heap.objs.size = none := I.hok.fresh hD
  obtain ⟨W, ⟨m0, w0⟩, turn⟩ := h _ hHD
  have I0 := comp_inv (t := s2.toks + ([] : List (Str × Value)).length) I ok hf hfo hD hC hCD keep hns1 hnew
  have f0 : ∀ b ∈ fp, upd H2 s2.heap.objs.size (.lst []) b = none := fun b hb => by
    obtain ⟨o, e⟩ := hfo b hb
    rw [upd_ne (Nat.ne_of_lt (Heap.lt_size e))]
    exact (hf b hb).1
  have st0 : tn 0 h1 := T.keep 0 _ _ st fun b _ o e => keep b o e
  have loop : codeAny (model X.prog X.w) X.A (.compLoop (.ListComp elt [⟨tg, iter, ifs, 0⟩] scope pos) 0 (.ref it) (.ref s2.heap.objs.size) (compEnvC scope (clOf X.env scope.names []) hp.objs.size X.env))
      (RR (.ref s2.heap.objs.size) hp.objs.size) { s2 with heap := h1, toks := s2.toks + ([] : List (Str × Value)).length } := by
    refine comp_loop (fun n s => ∃ i σc Hc, Inv (cxComp X pins s2 H2 N scope hp.objs.size fp) [] σc Hc s ∧ tn i s.heap ∧ (∀ b ∈ fp, Hc b = none) ∧ W i n σc Hc) ?_ m0 ⟨0, _, _, I0, st0, f0, w0⟩
    rintro n s3 ⟨i, σ3, H3, I3, st3, fr3, w3⟩
    have fps := fun {Hc : Hp} (hn : ∀ b ∈ fp, Hc b = none) => fp_sub (N := N) I hf hfo hC ok.clos hn
    rcases turn i n σ3 H3 w3 with ⟨stop, qn⟩ | ⟨go, NN, hNN, step⟩
    · refine wpAny_mono (T.done (cxComp X pins s2 H2 N scope hp.objs.size fp) rfl rfl rfl hcalm i [] s3 σ3 H3 (fun _ _ => False) I3 (fps fr3) st3 stop) (fun r s4 h4 => ?_) fun _ _ z => z
      obtain ⟨rfl, I4⟩ := h4
      have J4 := comp_out I hf I4
      obtain ⟨m4, n4, _⟩ := I4.loc
      exact hRR _ _ s4 H3 (I.fpOk hC I4.free) ⟨m4, n4⟩ J4 qn
    · refine wpAny_mono (T.item (cxComp X pins s2 H2 N scope hp.objs.size fp) rfl rfl rfl hcalm i [] s3 σ3 H3 (fun _ _ => False) I3 (fps fr3) st3 go) (fun r s4 h4 => ?_) fun _ _ z => z
      obtain ⟨u, rfl, h4⟩ := h4
      refine wpAny_mono h4 (fun _ s5 h5 => ?_) fun _ _ z => z
      obtain ⟨x, H5, I5, r5, y5, st5, fr5⟩ := h5
      have I5' := I5.pinned (fps fr5) (T.obj _ _ st5)
      refine wpAny_mono (hg hp.objs.size _ s5 σ3 H5 x u _ I5' r5 (step x H5 y5)) (fun _ s6 h6 => ?_) fun _ _ z => z
      obtain ⟨σ6, H6, I6, q6⟩ := h6
      refine wpAny_mono (hc hp.objs.size _ s6 σ6 H6 _ I6 q6) (fun b s7 h7 => ?_) fun _ _ z => z
      obtain ⟨H7, I7, q7⟩ := h7
      have again : ∀ {s8 : Shared} {H8 : Hp}, Inv (cxComp X pins s2 H2 N scope hp.objs.size fp) ([] ++ pinsAt fp s5.heap) σ6 H8 s8 → NN σ6 H8 → ∃ m, m < n ∧ ∃ i σc Hc, Inv (cxComp X pins s2 H2 N scope hp.objs.size fp) [] σc Hc s8 ∧ tn i s8.heap ∧ (∀ b ∈ fp, Hc b = none) ∧ W i m σc Hc := fun {s8 H8} I8 q8 => by
        obtain ⟨m', hm, w8⟩ := hNN _ _ q8
        refine ⟨m', hm, i + 1, σ6, H8, I8.unpinned, T.keep _ _ _ st5 fun b hb o e => (I8.pin (b, o) (List.mem_append_right _ (List.mem_append_right _ (mem_pinsAt hb e)))).1, fun b hb => ?_, w8⟩
        obtain ⟨o, e, d⟩ := T.obj _ _ st5 b hb
        exact (I8.pin (b, o) (List.mem_append_right _ (List.mem_append_right _ (mem_pinsAt hb e)))).2.1
      cases b with
      | false =>
        rw [if_neg Bool.false_ne_true] at q7 ⊢
        exact again I7 q7
      | true =>
        rw [if_pos rfl] at q7 ⊢
        refine wpAny_mono (he hp.objs.size _ s7 σ6 H7 _ I7 q7) (fun yv s8 h8 => ?_) fun _ _ z => z
        obtain ⟨y, H8, I8, r8, ys, hys, hz, q8⟩ := h8
        refine wpAny_mono (mt_append (X := cxComp X pins s2 H2 N scope hp.objs.size fp) _ s8 σ6 H8 (.ref s2.heap.objs.size) [y] _ [yv] (fun _ H9 => NN σ6 H9) I8 rfl (.cons r8 .nil) ⟨_, ys, y, rfl, rfl, hys, hz, q8⟩) (fun _ s9 h9 => ?_) fun _ _ z => z
        obtain ⟨_, H9, I9, _, q9⟩ := h9
        exact again I9 q9
  exact codeAny_compStart_list loop (T.self _ _ _ _ _ st0 loop)
private theorem pe_comp {X : Cx} {scope : Scope} {tg elt iter : Expr} {ifs : List Expr} {pos : Pos} {wi : TI} {g : TG} {tc : TT} {te : TE} (N : List Str) (src : List (Option Nat)) (ok : CompOk X scope N src) (hcalm : X.calm = true) (hi : PI X tg iter wi)
    (hg : ∀ pins s2 H2 C fp, PG (cxComp X pins s2 H2 N scope C fp) tg g) (hc : ∀ pins s2 H2 C fp, PIfs (cxComp X pins s2 H2 N scope C fp) ifs tc) (he : ∀ pins s2 H2 C fp, PE (cxComp X pins s2 H2 N scope C fp) elt te)
    (hs : ∀ x, foldedSetIterable iter X.env x = pure x := by intro _; rfl) : PE X (.ListComp elt [⟨tg, iter, ifs, 0⟩] scope pos) (tComp wi g tc te src) := by
  intro pins s σ H Q I h
  rw [eval_ListComp]
  refine wpAny_comprehension_free (use := none) rfl hs (closure_of ok.clos) ok.kind ok.names (wpAny_mono (hi pins s σ H _ I h) (fun xv s1 h1 => wpAny_mono h1 (fun itv s2 h2 => ?_) fun _ _ e => e) fun _ _ e => e)
  obtain ⟨it, fp, tn, J, H2, rfl, I2, T, st2, f2, hh⟩ := h2
  refine comp_core (RR := fun acc C => compPost (model X.prog X.w) X.A X.xe none (EP X pins σ Q) acc C) ok hcalm I2 T st2 f2 (fun C => hg pins s2 H2 C fp) (fun C => hc pins s2 H2 C fp) (fun C => he pins s2 H2 C fp) hh ?_
  intro D C s' H' fC hns I' q
  obtain ⟨m, hm⟩ := hns
  refine ⟨m, hm, fun h' hs' => ?_⟩
  obtain ⟨f0, f1, f2, f3, f4, f5⟩ := fC
  exact ⟨.ref D, H', I'.turned (t' := s'.toks) (fun b o hb e => hs'.extBut b o hb e) f0 f1 f3 f4 f5, rfl, q⟩
private theorem ps_setComp {X : Cx} {scope : Scope} {tg elt iter : Expr} {ifs : List Expr} {pos cpos pos' : Pos} {wi : TI} {g : TG} {tc : TT} {te : TE} {k : Nat} {x : Str} (hN : X.N.Nodup) (hk : X.N[k]? = some x) (hx : Loc X.env.scope x) (N : List Str) (src : List (Option Nat)) (ok : CompOk X scope N src) (hcalm : X.calm = true) (hi : PI X tg iter wi)
    (hg : ∀ pins s2 H2 C fp, PG (cxComp X pins s2 H2 N scope C fp) tg g) (hc : ∀ pins s2 H2 C fp, PIfs (cxComp X pins s2 H2 N scope C fp) ifs tc) (he : ∀ pins s2 H2 C fp, PE (cxComp X pins s2 H2 N scope C fp) elt te)
    (hsw : swapsWith (.ListComp elt [⟨tg, iter, ifs, 0⟩] scope cpos) (some (.Name x pos')) pos.line X.env = pure true := by rfl)
    (hs : ∀ x, foldedSetIterable iter X.env x = pure x := by intro _; rfl) (hfn : X.fn x = true ∨ X.env.scope.names.lookup x = some .local := by first | exact .inl rfl | exact .inr rfl | assumption) :
    PS X (.Assign [.Name x pos'] (.ListComp elt [⟨tg, iter, ifs, 0⟩] scope cpos) pos) (tAsg (tComp wi g tc te src) (gName k)) := by
  intro pins s σ H D I h
  rw [exec_Assign_Name_used _ _ _ _ hsw]
  refine wpAny_bind (wpAny_standAt (wpAny_bind ?_))
  show wpAny _ X.A (do let _ ← comprehension (.ListComp elt [⟨tg, iter, ifs, 0⟩] scope cpos) scope X.env _ (newList []) false (eval iter X.env) (some (assign (.Name x pos') X.env))) _ _ s
  refine wpAny_bind (wpAny_mono (wpAny_comprehension_free (use := some (assign (.Name x pos') X.env)) (Q := fun _ s' => SP X pins D .next s') rfl hs (closure_of ok.clos) ok.kind ok.names
    (wpAny_mono (hi pins s σ H _ I h) (fun xv s1 h1 => wpAny_mono h1 (fun itv s2 h2 => ?_) fun _ _ e => e) fun _ _ e => e)) (fun _ s' hq => wpAny_pure (wpAny_pure hq)) fun _ _ e => e)
  obtain ⟨it, fp, tn, J, H2, rfl, I2, T, st2, f2, hh⟩ := h2
  refine comp_core (Q := fun v H' => D.nx (σ.set k (some v)) H') (RR := fun acc C => compPost (model X.prog X.w) X.A X.xe (some (assign (.Name x pos') X.env)) (fun _ s' => SP X pins D .next s') acc C) ok hcalm I2 T st2 f2 (fun C => hg pins s2 H2 C fp) (fun C => hc pins s2 H2 C fp) (fun C => he pins s2 H2 C fp) hh ?_
  intro D' C s' H' fC hns I' q
  obtain ⟨m, hm⟩ := hns
  show wpAny _ X.A (assign (.Name x pos') X.env (.ref D')) _ _ _
  refine wpAny_assign_Name (store_ok2 I' hN hk hx (v := .ref D') rfl (fun s'' I'' ⟨a, hsa, ha⟩ => ?_) hfn)
  obtain ⟨f0, f1, f2, f3, f4, f5⟩ := fC
  have hCa : C ≠ a := by
    rcases ha with e | e
    · rw [e]; exact f1
    · exact Ne.symm (f4 x a e)
  refine ⟨m, hm.sameBut hsa hCa, fun h' hs' => ?_⟩
  exact ⟨_, H', I''.turned (t' := s''.toks) (fun b o hb e => hs'.extBut b o hb e) f0 f1 f3 f4 f5, q⟩
end L3
set_option Elab.async false
set_option linter.all false
set_option maxRecDepth 100000
namespace L3
open PySem PySem.Spec PyProof.Rows L2
structure Has (P : Program) (w : World) (K : PySem.W.Frag) (mg : Str → Option Value) (base : Heap) (CX : CXT) (k : Nat) (x : Str) (ps : List Str) (sp : Sp) : Prop where
  ex : ∃ f fd, FnOk P w K mg base CX k f fd ps sp ∧ Binds K fd ps [] ∧ PySem.W.keepIn K (.ref f) = true ∧ mg x = some (.ref f)
structure Def (K : PySem.W.Frag) (mg : Str → Option Value) (x : Str) (st : Stmt) (ps : List Str) : Prop where
  ex : ∃ f fd, Fun K x x st f fd ∧ Binds K fd ps [] ∧ mg x = some (.ref f)
private theorem Def.has {P : Program} {w : World} {K : PySem.W.Frag} {mg : Str → Option Value} {base : Heap} {k : Nat} {x : Str} {st : Stmt} {N ps : List Str} {sp : Sp} (F : Def K mg x st ps) (sc : FnScope N ps (defScope st)) (len : ∀ vs H Q E, sp vs H Q E → vs.length = ps.length)
    (hbody : ∀ (f : Addr) (cdv : Value) (A : Around) (outer : List Env) (s : Shared) (H : Hp) (vs : List V) (Q : VK) (E : XK), Room k (A.deeper (envOfC x (defScope st) s.heap.objs.size f cdv)) → sp vs H Q E →
      ∃ t, PSs (cxOf CX0 P w K mg base N x (defScope st) f cdv A outer s H E).nox (defBody st) t ∧ t { nx := fun _ H' => Q .non H', rt := Q } (start N vs) H) : Has P w K mg base CX0 (k + 1) x ps sp := by
  obtain ⟨f, fd, F1, b, m⟩ := F.ex
  exact ⟨f, fd, F1.ok sc len (fun cdv A outer s H vs Q E hr h => hbody f cdv A outer s H vs Q E hr h), b, F1.kp, m⟩
section
variable {X : Cx} {CX : CXT} {k : Nat} {ps : List Str} {sp : Sp} {E : XK} {x : Str} {p pos : Pos} {e : Expr} {es : List Expr} {t : TA}
private theorem pe_h (F : Has X.prog X.w X.K X.mg X.base CX k x ps sp) (hr : Room k X.A) (hg : Gl X x) (hx : Passes CX X E) (ha : PA X (e :: es) t) (hdb : (x == ("__debug__" : Str)) = false := by decide) (he : starEach (e :: es) X.env = (false, eval e X.env) :: starEach es X.env := by rfl) (hpl : (backTo pos (starEach es X.env)).any (·.1) = false := by rfl) :
    PE X (.Call (.Name x p) (e :: es) [] pos) (tCall sp [] E t) := by
  obtain ⟨f, fd, F1, b, kp, m⟩ := F.ex
  exact pe_call F1 hr hg m kp b .nil hx ha hdb he hpl
end
structure Bl (mg : Str → Option Value) : Prop where
  len : mg "len" = none
  abs : mg "abs" = none
  isinstance : mg "isinstance" = none
  tuple : mg "tuple" = none
  list : mg "list" = none
  int : mg "int" = none
  bool : mg "bool" = none
  str : mg "str" = none
  range : mg "range" = none
  zip : mg "zip" = none
  all : mg "all" = none
  any : mg "any" = none
  ValueError : mg "ValueError" = none
private theorem Same.new {H : Hp} {p : Addr} {o : HO} (h : H p = none) : Same H (upd H p o) := fun b u q => by rw [upd_ne (ne_of_none q h)]; exact q
private theorem upd_get {H : Hp} {p b : Addr} {o u : HO} (h : H p = none) (q : H b = some u) : upd H p o b = some u := by rw [upd_ne (ne_of_none q h)]; exact q
noncomputable def frD (q : Rat) : D := .tup [.int q.num, .int (q.den : Int)]
noncomputable def SmR (n : Nat) (q : Rat) : Prop := Sm n q.num ∧ Sm n (q.den : Int)
private theorem SmR.mono {a b : Nat} {q : Rat} (h : SmR a q) (k : a ≤ b) : SmR b q := ⟨h.1.mono k, h.2.mono k⟩
private theorem den_pos (q : Rat) : (0 : Int) < (q.den : Int) := by have := q.den_nz; omega
private theorem den_ne (q : Rat) : (q.den : Int) ≠ 0 := by have := q.den_nz; omega
private theorem fr_num {a b : Int} (hb : b ≠ 0) : (Rat.divInt a b).num = a.fdiv (if b < 0 then -(Int.gcd a b : Int) else (Int.gcd a b : Int)) := by
  have h1 : (Int.gcd a b : Int) ∣ a := Int.gcd_dvd_left a b
  rw [Rat.num_divInt, Int.gcd_comm b a]
  split
  · rename_i h
    rw [Int.fdiv_eq_ediv_of_dvd (Int.neg_dvd.mpr h1), Int.ediv_neg, Int.sign_eq_neg_one_of_neg h, Int.neg_mul, Int.one_mul, Int.neg_ediv_of_dvd h1]
  · rename_i h
    rw [Int.fdiv_eq_ediv_of_dvd h1, Int.sign_eq_one_of_pos (by omega), Int.one_mul]
private theorem fr_den {a b : Int} (hb : b ≠ 0) : (((Rat.divInt a b).den : Nat) : Int) = b.fdiv (if b < 0 then -(Int.gcd a b : Int) else (Int.gcd a b : Int)) := by
  have h1 : (Int.gcd a b : Int) ∣ b := Int.gcd_dvd_right a b
  rw [Rat.den_divInt, if_neg hb, Int.gcd_comm b a]
  split
  · rename_i h
    rw [Int.fdiv_eq_ediv_of_dvd (Int.neg_dvd.mpr h1), Int.ediv_neg, Int.natCast_ediv, ← Int.neg_ediv_of_dvd h1]
    congr 1
    omega
  · rename_i h
    rw [Int.fdiv_eq_ediv_of_dvd h1, Int.natCast_ediv]
    congr 1
    omega
private theorem fr_den_le {a b : Int} (hb : b ≠ 0) : (Rat.divInt a b).den ≤ b.natAbs := by
  rw [Rat.den_divInt, if_neg hb]
  exact Nat.div_le_self _ _
private theorem fr_num_le {a b : Int} (hb : b ≠ 0) : (Rat.divInt a b).num.natAbs ≤ a.natAbs := by
  rw [Rat.num_divInt]
  have := Int.natAbs_ediv_le_natAbs (b.sign * a) (b.gcd a : Int)
  rw [Int.natAbs_mul] at this
  have h2 : b.sign.natAbs = 1 := by
    rw [Int.natAbs_sign]
    rw [if_neg hb]
  rw [h2, Nat.one_mul] at this
  exact this
private theorem fr_sm {n : Nat} {a b : Int} (hb : b ≠ 0) (ha : Sm n a) (hb' : Sm n b) : SmR n (Rat.divInt a b) :=
  ⟨ha.le (fr_num_le hb), hb'.le (by have := fr_den_le (a := a) hb; simpa using this)⟩
private theorem gcd_step (a b : Int) : Int.gcd b (a.fmod b) = Int.gcd a b := by
  rw [Int.fmod_def, Int.gcd_comm a b]
  have := Int.gcd_sub_mul_right_right b a (a.fdiv b)
  rw [Int.mul_comm] at this
  exact this
private theorem fmod_small {a b : Int} (h : b ≠ 0) : (a.fmod b).natAbs < b.natAbs := by
  by_cases hb : 0 < b
  · have h1 := Int.fmod_lt_of_pos a hb
    have h2 := Int.fmod_nonneg_of_pos a hb
    omega
  · have hb' : b < 0 := by omega
    have e : a.fmod b = -((-a).fmod (-b)) := by
      rw [Int.neg_fmod_neg]; omega
    have h1 := Int.fmod_lt_of_pos (-a) (b := -b) (by omega)
    have h2 := Int.fmod_nonneg_of_pos (-a) (b := -b) (by omega)
    omega
private theorem gcd_pos {a b : Int} (h : b ≠ 0) : 0 < Int.gcd a b := Int.gcd_pos_of_ne_zero_right a h
private theorem gcd_sm {n : Nat} {a b : Int} (hb : b ≠ 0) (h : Sm n b) : Sm n (Int.gcd a b : Int) := by
  refine h.le ?_
  have := Int.gcd_le_natAbs_right a hb
  simpa using this
private theorem iteN {c : Bool} {A B : Prop} (h : c = false) (k : B) : if c = true then A else B := by subst h; rw [if_neg Bool.false_ne_true]; exact k
private theorem iteY {c : Bool} {A B : Prop} (h : c = true) (k : A) : if c = true then A else B := by subst h; rw [if_pos rfl]; exact k
private theorem iteB {c : Bool} {A B : Prop} (h1 : c = true → A) (h2 : c = false → B) : if c = true then A else B := by
  cases c with
  | true => exact iteY rfl (h1 rfl)
  | false => exact iteN rfl (h2 rfl)
private theorem r_add (q r : Rat) : Rat.divInt (q.num * (r.den : Int) + r.num * (q.den : Int)) ((q.den : Int) * (r.den : Int)) = q + r := by
  rw [Rat.add_def', ← Int.natCast_mul]; rfl
private theorem r_mul (q r : Rat) : Rat.divInt (q.num * r.num) ((q.den : Int) * (r.den : Int)) = q * r := by
  rw [Rat.mul_def', ← Int.natCast_mul]; rfl
private theorem r_lt (q r : Rat) : decide (q.num * (r.den : Int) < r.num * (q.den : Int)) = decide (q < r) := by
  congr 1
  rw [Rat.lt_iff]
section
variable {X : Cx} {K : PySem.W.Frag}
end
end L3
set_option Elab.async false
set_option linter.all false
set_option maxRecDepth 100000
namespace L3
open PySem PySem.Spec PyProof.Rows L2
noncomputable def isCF : Option NameKind → Bool
  | some .cell => true
  | some .free => true
  | _ => false
private theorem isCF_or {o : Option NameKind} (h : isCF o = true) : o = some .cell ∨ o = some .free := by
  unfold isCF at h
  split at h
  · exact .inl rfl
  · exact .inr rfl
  · cases h
noncomputable def freeB (X : Cx) (scope : Scope) : List Str → List (Option Nat) → Bool
  | x :: N, o :: src => (match o with
      | none => true
      | some j => decide (X.N[j]? = some x) && isCF (X.env.scope.names.lookup x) && isCF ((relabel scope X.env).names.lookup x)) && freeB X scope N src
  | _, _ => true
private theorem free_of {X : Cx} {scope : Scope} : ∀ {N : List Str} {src : List (Option Nat)}, freeB X scope N src = true → ∀ (i : Nat) (x : Str) (j : Nat), N[i]? = some x → src[i]? = some (some j) → X.N[j]? = some x ∧ Vis X.env.scope x ∧ X.env.scope.names.lookup x ≠ some .local ∧
    ((relabel scope X.env).names.lookup x = some .cell ∨ (relabel scope X.env).names.lookup x = some .free)
  | [], _, _, i, x, j, h1, _ => by simp at h1
  | _ :: _, [], _, i, x, j, _, h2 => by simp at h2
  | y :: N, o :: src, h, 0, x, j, h1, h2 => by
    simp only [List.getElem?_cons_zero, Option.some.injEq] at h1 h2
    subst h1 h2
    rw [freeB, Bool.and_eq_true, Bool.and_eq_true, Bool.and_eq_true] at h
    obtain ⟨⟨⟨a, b⟩, c⟩, _⟩ := h
    refine ⟨of_decide_eq_true a, ?_, ?_, isCF_or c⟩
    · rcases isCF_or b with e | e
      · exact .inr (.inl e)
      · exact .inr (.inr e)
    · rcases isCF_or b with e | e <;> rw [e] <;> simp
  | y :: N, o :: src, h, i + 1, x, j, h1, h2 => by
    have h' : (_ && freeB X scope N src) = true := h
    rw [Bool.and_eq_true] at h'
    exact free_of h'.2 i x j (by simpa using h1) (by simpa using h2)
private theorem vals_bools : ∀ {bs : List Bool} {us : List Value}, Vals (bs.map V.bl) us → us = bs.map Value.bool
  | [], _, h => by cases h; rfl
  | b :: bs, _, h => by
    cases h with
    | cons r rr => cases r; rw [vals_bools rr]; rfl
private theorem smr_add {a b : Nat} {q r : Rat} (h : SmR a q) (k : SmR b r) : SmR (a + b + 1) (q + r) := by
  rw [← r_add]
  refine fr_sm (Int.mul_ne_zero (den_ne q) (den_ne r)) ?_ ?_
  · exact (h.1.mul k.2).add ((k.1.mul h.2).mono (by omega))
  · exact (h.2.mul k.2).mono (by omega)
private theorem smr_mul {a b : Nat} {q r : Rat} (h : SmR a q) (k : SmR b r) : SmR (a + b) (q * r) := by
  rw [← r_mul]
  exact fr_sm (Int.mul_ne_zero (den_ne q) (den_ne r)) (h.1.mul k.1) (h.2.mul k.2)
end L3
set_option Elab.async false
set_option linter.all false
set_option maxRecDepth 100000
namespace L3
open PySem PySem.Spec PyProof.Rows L2
section
variable {X : Cx}
private theorem vals_get_bl {bs : List Bool} {i : Nat} {v : Value} (h : (bs.map Value.bool)[i]? = some v) : ∃ b, bs[i]? = some b ∧ v = .bool b := by
  rw [List.getElem?_map] at h
  cases e : bs[i]? with
  | none => rw [e] at h; cases h
  | some b => rw [e] at h; injection h with h; exact ⟨b, rfl, h.symm⟩
noncomputable def rAny (K : PySem.W.Frag) : List V → Hp → VK → Prop := fun xs H Q => ∃ (p : Addr) (bs : List Bool), xs = [.ref p] ∧ SqL K H p (bs.map V.bl) ∧ Q (.bl (bs.any id)) H
private theorem call_any (hc : X.calm = true) : CallR X (.builtin "any") (rAny X.K) := by
  intro pins s σ H xs us Q I r h
  obtain ⟨p, bs, rfl, hq, q⟩ := h
  obtain ⟨u, rfl, rx⟩ := vals1 r
  cases rx
  obtain ⟨its, rv, pl, hz⟩ := I.list hq
  have hb := vals_bools rv
  subst hb
  have hl := pl.isList
  have hlt : p < s.heap.objs.size := by obtain ⟨_, e, _⟩ := hl; exact Heap.lt_size e
  refine call_any_walk (wpAny_pyIter_list hl ?_)
  refine ⟨s.heap.objs.size, [s.heap.objs.size, p], [s.heap.objs.size], (bs.map Value.bool).toArray.size, _, _, fun i => (bs[i]?).getD false, rfl, Walks.list (A := X.A.in1) (I.ok.hd hc) _ p (Nat.ne_of_lt hlt) (bs.map Value.bool).toArray,
    ⟨⟨_, Heap.get?_push_size _ rfl, rfl, rfl⟩, hl.push _⟩, fun i v s' Q' E' hP hQ => ?_, fun h' tk hk => ?_⟩
  · obtain ⟨b, e, rfl⟩ := vals_get_bl (bs := bs) (i := i) (v := v) (by simpa using hP)
    simp only [e, Option.getD_some] at hQ
    exact wpAny_truthy_bool hQ
  · have e : ((List.range (bs.map Value.bool).toArray.size).any fun i => (bs[i]?).getD false) = bs.any id := by
      rw [List.size_toArray, List.length_map]; exact LSm.range_any bs
    rw [e]
    exact ⟨.bl (bs.any id), H, I.kept (t' := tk) (LSm.kept_iter hk), rfl, q⟩
end
section
variable {K : PySem.W.Frag}
end
noncomputable def cutD {α : Type} (xs : List α) (lo hi : Option Int) : List α := (xs.drop (HT.sIx xs.length 0 lo)).take (HT.sIx xs.length xs.length hi - HT.sIx xs.length 0 lo)
section
variable {X : Cx} {pos : Pos} {es : List Expr} {t : TA}
end
end L3
set_option Elab.async false
set_option linter.all false
set_option maxRecDepth 100000
namespace L3
open PySem PySem.Spec PyProof.Rows L2
section
variable {X : Cx} {pins : List (Addr × Obj)} {σ : S} {H : Hp} {s : Shared} {h' : Heap}
private theorem turnedL {t' : Nat} {ch : List Addr} (I : Inv X pins σ H s) (k : ∀ b o, b ∉ ch → s.heap.get? b = some o → h'.get? b = some o) (hf : ∀ b ∈ ch, FpOk X pins H b) : Inv X pins σ H { s with heap := h', toks := t' } := by
  have nit : ∀ b u, H b = some u → b ∉ ch := fun b u e z => by rw [(hf b z).1] at e; cases e
  refine I.step (g' := s.gens) (d' := s.drawn) (ch := ch) (fun b hb => ?_) (fun b o _ _ hc e _ => k b o hc e) (fun b o _ _ hc e _ => ⟨o.slots, k b o hc e⟩) (fun _ _ _ _ n => n)
    (fun b o hc e => ⟨o, k b o hc e⟩) (fun _ _ e => e) (fun _ _ _ e => e) (fun b ps e => ⟨#[], by rw [e]; simp⟩) (fun m hm => ?_) (fun b u e => ?_) I.bare
  · obtain ⟨f0, f1, f2, f3, f4, f5⟩ := hf b hb
    exact ⟨f3, f1, f4, f5⟩
  · obtain ⟨o, es, ep, ho, r⟩ := hm
    exact ⟨o, es, ep, k _ o (fun z => (hf _ z).2.1 rfl) ho, r⟩
  · refine (I.hok b u e).stay (fun c v hc q => k c v ?_ q) (fun _ q => q) fun _ _ q => q
    rcases hc with z | z
    · rw [z]; exact nit b u e
    · exact nit c _ z
private theorem turnedT {t' : Nat} {ch : List Addr} {T : Addr} {xs : List V} {us : List Value} (I : Inv X pins σ H s) (k : ∀ b o, b ∉ ch → s.heap.get? b = some o → h'.get? b = some o) (hf : ∀ b ∈ ch, FpOk X pins H b) (hT : s.heap.objs.size ≤ T) (hz : xs.length ≤ sizeLine) (r : Vals xs us) (ht : IsTup h' T us.toArray) :
    Inv X pins σ (upd H T (.tup xs)) { s with heap := h', toks := t' } := by
  have nit : ∀ b u, H b = some u → b ∉ ch := fun b u e z => by rw [(hf b z).1] at e; cases e
  have nT : H T = none := I.hok.fresh hT
  have neT : ∀ {b : Addr} {o : Obj}, s.heap.get? b = some o → b ≠ T := fun e z => by subst z; exact Nat.lt_irrefl _ (Nat.lt_of_lt_of_le (Heap.lt_size e) hT)
  refine I.step (g' := s.gens) (d' := s.drawn) (ch := ch) (fun b hb => ?_) (fun b o _ _ hc e _ => k b o hc e) (fun b o _ _ hc e _ => ⟨o.slots, k b o hc e⟩) (fun b o _ e n => by rw [upd_ne (neT e)]; exact n)
    (fun b o hc e => ⟨o, k b o hc e⟩) (fun b xs e => upd_get nT e) (fun b o u e => upd_get nT e) (fun b ps e => ⟨#[], by rw [upd_get nT e]; simp⟩) (fun m hm => ?_) (fun b u e => ?_) I.bare
  · obtain ⟨f0, f1, f2, f3, f4, f5⟩ := hf b hb
    exact ⟨f3, f1, f4, f5⟩
  · obtain ⟨o, es, ep, ho, r⟩ := hm
    exact ⟨o, es, ep, k _ o (fun z => (hf _ z).2.1 rfl) ho, r⟩
  · by_cases z : b = T
    · subst z
      rw [upd_same] at e
      cases e
      exact ⟨hz, us, r, ht⟩
    · rw [upd_ne z] at e
      refine (I.hok b u e).stay (fun c v hc q => k c v ?_ q) (fun c q => upd_get nT q) fun c _ q => upd_get nT q
      rcases hc with z | z
      · rw [z]; exact nit b u e
      · exact nit c _ z
end
noncomputable def Itz (K : PySem.W.Frag) (a b : Addr) : It :=
  ⟨fun i H => ∃ xs ys x y, SqL K H a xs ∧ SqL K H b ys ∧ xs[i]? = some x ∧ ys[i]? = some y,
   fun i H v H' => ∃ p x y, v = .ref p ∧ H p = none ∧ H' = upd H p (.tup [x, y]) ∧ (∀ xs, SqL K H a xs → xs[i]? = some x) ∧ ∀ ys, SqL K H b ys → ys[i]? = some y,
   fun i H => ∃ xs ys, SqL K H a xs ∧ SqL K H b ys ∧ (xs.length ≤ i ∨ ys.length ≤ i)⟩
noncomputable def ZipSt (a b z TI TO i1 i2 : Addr) (i : Nat) (h : Heap) : Prop := IsZip h z TI TO .none ∧ IsPair h TI (.ref i1) (.ref i2) ∧ (∃ u v, IsPair h TO u v) ∧ h.IsListIter i1 a i ∧ h.IsListIter i2 b i
private theorem turn_zip {P : Program} {w : World} {K : PySem.W.Frag} {elts : List Expr} {k : Nat} {pos : Pos} {a b z TI TO i1 i2 : Addr} (D : ZipApart z TI TO i1 i2 a b) : Turn P w K (.Tuple elts k pos) (Itz K a b) [z, TI, TO, i1, i2] z (ZipSt a b z TI TO i1 i2) where
  mem := by simp
  obj := fun i h st b' hb => by
    obtain ⟨h1, h2, ⟨u, v, h3⟩, h4, h5⟩ := st
    simp only [List.mem_cons, List.not_mem_nil, or_false] at hb
    rcases hb with rfl | rfl | rfl | rfl | rfl
    · exact ⟨_, h1, fun v z => by cases z⟩
    · exact ⟨_, h2, fun v z => by cases z⟩
    · exact ⟨_, h3, fun v z => by cases z⟩
    · obtain ⟨o, e, c, d⟩ := h4
      exact ⟨o, e, fun v z => by rw [d] at z; cases z⟩
    · obtain ⟨o, e, c, d⟩ := h5
      exact ⟨o, e, fun v z => by rw [d] at z; cases z⟩
  keep := fun i h h' st kp => by
    obtain ⟨h1, h2, ⟨u, v, h3⟩, h4, h5⟩ := st
    exact ⟨kp z (by simp) _ h1, kp TI (by simp) _ h2, ⟨u, v, kp TO (by simp) _ h3⟩, h4.at fun o e => kp i1 (by simp) o e, h5.at fun o e => kp i2 (by simp) o e⟩
  item := by
    intro X hP hw hK hc i pins s σ H E I hf st hg
    subst hP hw hK
    obtain ⟨xs, ys, x, y, hqa, hqb, hx, hy⟩ := hg
    obtain ⟨ia, ra, pa, za⟩ := I.list hqa
    obtain ⟨ib, rb, pb, zb⟩ := I.list hqb
    obtain ⟨u, hu, ru⟩ := ra.get hx
    obtain ⟨v, hv, rv⟩ := rb.get hy
    obtain ⟨h1, h2, ⟨t1, t2, h3⟩, h4, h5⟩ := st
    have h40 := h4
    have h50 := h5
    obtain ⟨o4, e4, _⟩ := h40
    obtain ⟨o5, e5, _⟩ := h50
    refine wpAny_pyNext_zip_item D h1 h2 h3 h4 h5 pa.isList pb.isList (x := u) (y := v) (by simpa using hu) (by simpa using hv) fun h' g1 g2 g3 g4 g5 g6 g7 => ?_
    refine ⟨_, rfl, wpAny_letOwnedTupleGo_zip g1 fun h'' k1 k2 => ?_⟩
    have nz : s.heap.objs.size ≠ z := fun e => Nat.lt_irrefl _ (by have := Heap.lt_size h1; rw [← e] at this; exact this)
    have kA : ∀ b o, b ∉ [z, TI, TO, i1, i2] → s.heap.get? b = some o → h''.get? b = some o := fun b o hb e => by
      simp only [List.mem_cons, List.not_mem_nil, or_false, not_or] at hb
      exact k2.extBut b o hb.1 (g7 b o hb.1 hb.2.2.1 hb.2.2.2.1 hb.2.2.2.2 e)
    have I2 : Inv X pins σ (upd H s.heap.objs.size (.tup [x, y])) { s with heap := h'' } :=
      turnedT (t' := s.toks) (xs := [x, y]) (us := [u, v]) I kA hf (Nat.le_refl _) (by show 2 ≤ sizeLine; decide) (.cons ru (.cons rv .nil)) ⟨_, k2.extBut _ _ nz g5, rfl, _, rfl⟩
    refine ⟨.ref s.heap.objs.size, _, I2, rfl, ⟨_, x, y, rfl, I.fresh, rfl, fun zs hz => by rw [I.list_inj hz hqa]; exact hx, fun zs hz => by rw [I.list_inj hz hqb]; exact hy⟩, ⟨k1, ?_, ⟨_, _, k2.extBut _ _ D.TOz g2⟩, ?_, ?_⟩, fun b hb => ?_⟩
    · exact k2.extBut _ _ D.TIz (g7 _ _ D.TIz D.TITO D.TIi1 D.TIi2 h2)
    · exact g3.at fun o e => k2.extBut _ o D.i1z e
    · exact g4.at fun o e => k2.extBut _ o D.i2z e
    · rw [upd_ne]
      · exact (hf b hb).1
      · intro e
        simp only [List.mem_cons, List.not_mem_nil, or_false] at hb
        have lt : ∀ {c : Addr} {o : Obj}, s.heap.get? c = some o → c ≠ s.heap.objs.size := fun h => Nat.ne_of_lt (Heap.lt_size h)
        rcases hb with rfl | rfl | rfl | rfl | rfl
        · exact lt h1 e
        · exact lt h2 e
        · exact lt h3 e
        · exact lt e4 e
        · exact lt e5 e
  done := by
    intro X hP hw hK hc i pins s σ H E I hf st hg
    subst hP hw hK
    obtain ⟨xs, ys, hqa, hqb, hend⟩ := hg
    obtain ⟨ia, ra, pa, za⟩ := I.list hqa
    obtain ⟨ib, rb, pb, zb⟩ := I.list hqb
    obtain ⟨h1, h2, ⟨t1, t2, h3⟩, h4, h5⟩ := st
    have la := ra.length
    have lb := rb.length
    refine wpAny_pyNext_zip_end (I.ok.hd hc) D h1 h2 h3 h4 h5 pa.isList pb.isList ?_ fun h' kk => ⟨rfl, turnedL (t' := s.toks) I (fun b o hb e => ?_) hf⟩
    · rcases hend with e | e
      · left; simp; omega
      · right; simp; omega
    · simp only [List.mem_cons, List.not_mem_nil, or_false, not_or] at hb
      exact kk b o hb.1 hb.2.2.1 hb.2.2.2.1 hb.2.2.2.2 e
  self := fun _ _ _ _ _ st h => wpAny_pyIter_zip st.1 h
section
variable {X : Cx} {tg : Expr}
noncomputable def iZip (K : PySem.W.Frag) (ta : TA) : TI := fun σ H R => ta σ H fun vs H1 => ∃ a b, vs = [.ref a, .ref b] ∧ (∃ xs, SqL K H1 a xs) ∧ (∃ ys, SqL K H1 b ys) ∧ R (Itz K a b) H1
private theorem pi_zip {a b : Expr} {ta : TA} {p pos tpos : Pos} {elts : List Expr} {k : Nat} (hg : Gl X "zip") (hm : X.mg "zip" = none) (ha : PA X [a, b] ta) (hs : starEach [a, b] X.env = [(false, eval a X.env), (false, eval b X.env)] := by rfl) (hs2 : starEach [b] X.env = [(false, eval b X.env)] := by rfl) :
    PI X (.Tuple elts k tpos) (.Call (.Name "zip" p) [a, b] [] pos) (iZip X.K ta) := by
  intro pins s σ H R I h
  refine Call_ (ld_blt I hg hm boot_zip (PyProof.Rows.callWith_type1 (thn (ha pos pins s σ H _ I h) fun us s1 ⟨vs, H1, I1, r1, q1⟩ => ?_) (by rw [hs, hs2]) (by rw [hs2]; rfl)))
  obtain ⟨a, b, rfl, ⟨xs, hqa⟩, ⟨ys, hqb⟩, q⟩ := q1
  obtain ⟨u, v, rfl, ru, rv⟩ := vals2 r1
  cases ru
  cases rv
  obtain ⟨ia, ra, pa, za⟩ := I1.list hqa
  obtain ⟨ib, rb, pb, zb⟩ := I1.list hqb
  have lt : ∀ {c : Addr} {its : Array Value}, s1.heap.IsList c its → c < s1.heap.objs.size := fun h => by obtain ⟨o, e, _⟩ := h; exact Heap.lt_size e
  refine call_zip_2 pa.isList pb.isList fun h' q1 q2 q3 q4 q5 q6 q7 => ?_
  refine wpAny_pyIter_zip (s := { s1 with heap := h' }) q1 ⟨_, _, _, _, H1, rfl, I1.kept (t' := s1.toks) q7, turn_zip (zipApart_new (lt pa.isList) (lt pb.isList)), ⟨q1, q2, ⟨_, _, q3⟩, q4, q5⟩, fun c hc => ?_, q⟩
  have hle : s1.heap.objs.size ≤ c := by
    simp only [List.mem_cons, List.not_mem_nil, or_false] at hc
    rcases hc with rfl | rfl | rfl | rfl | rfl
    · exact Nat.le_add_right _ 4
    · exact Nat.le_add_right _ 2
    · exact Nat.le_add_right _ 3
    · exact Nat.le_refl _
    · exact Nat.le_add_right _ 1
  exact I1.fpOk hle (I1.hok.fresh hle)
end
end L3
set_option Elab.async false
set_option linter.all false
set_option maxRecDepth 100000
namespace L3
open PySem PySem.Spec PyProof.Rows L2
section
variable {prog : Program} {w : World} {A : Around} {E : Value → Shared → Prop} {s : Shared}
end
section
variable {prog : Program} {w : World} {A : Around} {E : Value → Shared → Prop} {s : Shared} {a b z TI TO i1 i2 S : Addr} {xs ys : Array Value} {i : Nat} {h h' : Heap}
end
end L3
set_option Elab.async false
set_option linter.all false
set_option maxRecDepth 100000
namespace L3
open PySem PySem.Spec PyProof.Rows L2
section
variable {K : PySem.W.Frag} {a D0 : Addr} {te : TE} {σ : S} {H0 : Hp} {R : Hp → Prop} {xs : List V}
end
end L3
set_option linter.all false
namespace M
namespace Q
open PySem PySem.Spec PyProof.Rows L2 L3
section
variable {X : Cx} {CX : CXT} {k : Nat} {ps : List Str} {sp : Sp} {E : XK} {x : Str} {p pos : Pos} {e a b o tg : Expr} {es : List Expr} {te ta tb to : TE} {t : TA} {st : Stmt} {rest body : List Stmt} {s u : TS}
end
end Q
end M
set_option Elab.async false
set_option linter.all false
set_option maxRecDepth 100000
namespace L3
open PySem PySem.Spec PyProof.Rows L2
section
variable {prog : Program} {w : World} {A : Around} {E : Value → Shared → Prop} {K : PySem.W.Frag} {x C : Addr} {ox : Obj}
end
end L3
namespace L3
open PySem PySem.Spec PyProof.Rows L2
section
variable {M : Model} {A : Around} {E : Value → Shared → Prop} {s : Shared} {base : Heap} {env : Env} {outer : List Env} {L e C : Addr}
end
end L3
namespace L3
open PySem PySem.Spec PyProof.Rows L2
section
variable {X : Cx} {pins : List (Addr × Obj)} {σ : L2.St} {H H' : Hp} {s s' : Shared} {a C : Addr} {tb : Option Addr} {P : Program} {w : World}
end
section
variable {P : Program} {w : World} {K : PySem.W.Frag} {mg : Str → Option Value} {base : Heap} {N : List Str} {qual : Str} {scope : Scope} {f : Addr} {cd : Value} {A : Around} {outer : List Env} {s₀ : Shared} {H₀ : Hp} {E : XK}
end
end L3
namespace L3
open PySem PySem.Spec PyProof.Rows L2
section
variable {X : Cx} {R : L2.St → XK} {x : Str} {C : Addr} {e : Expr} {es : List Expr} {t : TA} {np cpos pos : Pos}
end
section
variable {X : Cx} {R : L2.St → XK} {k : Nat} {ps : List Str} {sp : Sp} {x : Str} {p pos : Pos} {e : Expr} {es : List Expr} {t : TA}
end
section
variable {X : Cx} {pins : List (Addr × Obj)} {σ : L2.St} {H : Hp} {s : Shared}
noncomputable def IsX (a C : Addr) : Heap → Prop := fun h => ∃ ox, PySem.W.InstAt h a ox C none
end
end L3
namespace L3
open PySem PySem.Spec PyProof.Rows L2
section
variable {X : Cx} {pins : List (Addr × Obj)} {σ : L2.St} {H : Hp} {s : Shared}
end
end L3
set_option Elab.async false
set_option linter.all false
set_option maxRecDepth 100000
namespace L3
open PySem PySem.Spec PyProof.Rows L2 PySem.SeqAt
noncomputable instance : DecidableEq D := fun a b => Classical.propDecidable (a = b)
mutual
noncomputable def hashD : D → Int
  | .int i => hashInt i
  | .tup ds => reduceHash (Builtin.Tuple.tupleHashOf (hashDs ds))
  | .non => 0
  | .bl _ => 0
  | .str _ => 0
  | .lst _ => 0
noncomputable def hashDs : List D → List Int
  | [] => []
  | d :: ds => hashD d :: hashDs ds
end
section
variable {prog : Program} {w : World}
end
section
variable {prog : Program} {w : World} {K : Type} [DecidableEq K] {knd : HeapKind prog w K}
end
section
variable {prog : Program} {w : World} {A : Around} {E : Value → Shared → Prop} {s : Shared}
end
noncomputable def entD (x : D × Addr × Value) : DictEntry := ⟨hashD x.1, .ref x.2.1, x.2.2⟩
noncomputable def IsDT (p : Addr) (xs : List (D × Addr × Value)) : Heap → Prop := fun h => (p == sysModules) = false ∧ xs.length ≤ sizeLine ∧ (xs.map (·.1)).Nodup ∧ ∃ o es ep, h.get? p = some o ∧ o.ExactDict ∧ o.data = .dict es ep ∧ es.toList = xs.map entD
section
variable {X : Cx} {o e f : Expr} {es : List Expr} {td : TE} {ta : TA} {apos cpos pos : Pos}
end
end L3
set_option Elab.async false
set_option linter.all false
set_option maxRecDepth 100000
namespace L3
open PySem PySem.Spec PyProof.Rows L2
section
variable {X : Cx} {tg : Expr}
end
section
variable {prog : Program} {w : World} {A : Around} {E : Value → Shared → Prop} {s : Shared}
end
section
variable {X : Cx} {a : Expr} {ta : TA} {p p2 pos pos2 : Pos}
end
end L3
set_option Elab.async false
set_option linter.all false
set_option maxRecDepth 100000
namespace L3
open PySem PySem.Spec PySem.Calls PyProof.Rows L2
private theorem pe_fldO {X : Cx} {e : Expr} {f : Str} {pos : Pos} {ta : TE} (he : PE X e ta) (hb : attributeBase e f X.env (eval e X.env) = eval e X.env) : PE X (.Attribute e f pos) (tFld X.K ta f) := by
  intro pins s σ H Q I h
  refine attr_of hb (thn (he pins s σ H _ I h) fun u s1 hh => ?_)
  obtain ⟨x, H1, I1, rx, a, C, dx, fs, v, ex, ea, c, n, l, q⟩ := hh
  subst ex
  obtain rfl : u = Value.ref a := rx
  exact getattr_ok I1 ea c n l fun u' s2 I2 ru => ⟨v, H1, I2, ru, q⟩
private theorem ps_fldO {X : Cx} {o value : Expr} {f : Str} {pos pos' : Pos} {ta tv : TE} (ha : PE X o ta) (hv : PE X value tv) (hs : swapsWith value (some (.Attribute o f pos')) pos.line X.env = pure false) : PS X (.Assign [.Attribute o f pos'] value pos) (sFld X.K ta tv f) := by
  intro pins s σ H D I h
  refine plainObj_wpAny_Assign_Attribute (thn (hv pins s σ H _ I h) fun u s1 hh => ?_) hs
  obtain ⟨y, H1, I1, ry, q⟩ := hh
  refine thn (ha pins s1 σ H1 _ I1 q) fun ov s2 h2 => ?_
  obtain ⟨x, H2, I2, rx, a, C, dx, fs, ex, ea, c, n, l, q2⟩ := h2
  subst ex
  obtain rfl : ov = Value.ref a := rx
  exact setattr_ok I2 ea c n l ry fun s3 I3 => ⟨σ, _, I3, q2⟩
noncomputable def cxLam (P : Program) (w : World) (K : PySem.W.Frag) (mg : Str → Option Value) (base : Heap) (x y : Str) (qual : Str) (scope : Scope) (f cy : Addr) (cd : Value) (A : Around) (outer : List Env) (s : Shared) (H : Hp) : Cx :=
  { prog := P, w := w, K := K, mg := mg, base := base, A := A.deeper (PySem.W.envX qual scope s.heap.objs.size f cd [(y, cy)]), N := [x, y], s₀ := s, H₀ := H, env := PySem.W.envX qual scope s.heap.objs.size f cd [(y, cy)], outer := outer,
    stack := PySem.W.envX qual scope s.heap.objs.size f cd [(y, cy)] :: outer, ex := [], fn := fun _ => false, calm := true, pn := [], xe := fun _ _ => False }
structure LamScope (x y : Str) (sc : Scope) : Prop where
  kind : sc.kind = .function
  co : sc.isCoroutine = false
  gen : sc.isGenerator = false
  nx : sc.names.lookup x = some .local
  ny : sc.names.lookup y = some .free
  nocell : ∀ z ∈ sc.names, z.2 ≠ .cell
  onefree : ∀ z, sc.names.lookup z = some .free → z = y
section
variable {P : Program} {w : World} {K : PySem.W.Frag} {mg : Str → Option Value} {base : Heap} {A : Around} {outer : List Env} {s : Shared} {H : Hp} {x y qual : Str} {scope : Scope} {f cy c' : Addr} {params : Arguments} {body : Expr} {pm ct u ux : Value} {vx vy : V} {Q : VK}
private theorem lam_run (hr : Room 1 A) (e0 : Env0 P w K mg base A outer s H) (S : LamScope x y scope) (hf : s.heap.get? f = some (PySem.W.kla_obj "<lambda>" qual params body scope [(y, cy)] pm c' ct)) (hcd : s.heap.CodeRec (.ref c') qual)
    (hcell : s.heap.IsCell cy (some u)) (hn : H cy = none) (ry : RelV vy u) (hbind : bindArgs (PySem.W.kla_fn "<lambda>" qual params body scope [(y, cy)] pm (.ref c') ct) ⟨[ux], []⟩ = pure [(x, ux)]) (rx : RelV vx ux)
    (hbody : ∃ t, PE (cxLam P w K mg base x y qual scope f cy (.ref c') A outer s H) body t ∧ t [some vx, some vy] H Q) :
    codeAny (model P w) A (.call (.ref f) ⟨[ux], []⟩) (fun r s' => ∃ v, r = .ok (.ret v) ∧ CE outer P w H s Q v s') s := by
  have lim : s.heap.NoLimit := e0.mod.nolimit.keeps fun b o e => (e0.bs b o e).1
  refine PySem.W.kla_callFunE hr.depth hf rfl S.co S.gen rfl hcd ?_
  rw [hbind]
  refine wpAny_pure (wpAny_newFunctionEnv S.nocell (fun z hz => ?_) (fun h₁ hns hsb => ⟨lim.fresh _ hsb, ?_⟩) S.kind)
  · rw [List.mem_singleton] at hz; subst hz; exact S.nx
  show codeAny _ _ (.expr body (PySem.W.envX qual scope s.heap.objs.size f (.ref c') [(y, cy)])) _ _
  have keep : ∀ b o, s.heap.get? b = some o → h₁.get? b = some o := fun b o e => hsb.extBut b o (Nat.ne_of_lt (Heap.lt_size e)) (Heap.get?_push_of_some _ e)
  obtain ⟨t, ht, hq⟩ := hbody
  have lk : ∀ z c, (PySem.W.envX qual scope s.heap.objs.size f (.ref c') [(y, cy)]).cells.lookup z = some c → z = y ∧ c = cy := fun z c e => by
    have e : List.lookup z [(y, cy)] = some c := e
    rw [List.lookup_cons] at e
    cases hz : z == y with
    | true => rw [hz] at e; cases e; exact ⟨eq_of_beq hz, rfl⟩
    | false => rw [hz] at e; cases e
  have Iv : Inv (cxLam P w K mg base x y qual scope f cy (.ref c') A outer s H) [] [some vx, some vy] H { s with heap := h₁, toks := s.toks + [(x, ux)].length } := by
    refine ⟨⟨e0.mod, S.kind, rfl, rfl, Nat.le_refl _, fun a b c h1 h2 => ?_, fun z hz => ?_, fun _ _ h _ => ?_, fun _ => hr.hd, Around.frames_deeper e0.frames, .inr ⟨rfl, rfl⟩, fun b z => ?_, e0.bs, e0.bsz, fun b _ _ z => ?_, fun b z => ?_, e0.funs, e0.frf⟩,
      rfl, e0.bare, Un.kept keep, ⟨_, hns, fun i z v h1 h2 h3 => ?_⟩, fun z c h => ?_, e0.hok.fresh (Nat.le_refl _), fun z c h => ?_, fun p hp => ?_, e0.hok.kept keep, rfl⟩
    · exact (lk _ _ h1).1.trans (lk _ _ h2).1.symm
    · refine ⟨cy, ?_⟩
      have hz : scope.names.lookup z = some .cell ∨ scope.names.lookup z = some .free := hz
      rcases hz with hz | hz
      · exact absurd rfl (S.nocell _ (PySem.mem_of_lookup hz))
      · rw [S.onefree z hz]; show List.lookup y [(y, cy)] = _; simp
    · cases h
    · cases z
    · cases z
    · cases z
    · match i with
      | 0 =>
        cases h1; cases h2
        exact ⟨ux, rx, .inl ⟨S.nx, by show List.lookup x [(x, ux)] = _; simp⟩⟩
      | 1 =>
        cases h1; cases h2
        exact ⟨u, ry, .inr ⟨.inr S.ny, cy, by show List.lookup y [(y, cy)] = _; simp, hcell.keeps keep⟩⟩
      | n + 2 => cases h1
    · rw [(lk _ _ h).2]; exact ⟨_, hcell.keeps keep⟩
    · rw [(lk _ _ h).2]; exact hn
    · cases hp
  refine PySem.W.kla_codeExpr (wpAny_mono (ht [] _ _ H _ Iv hq) (fun v s' ⟨v', H', J, rv, q⟩ => ⟨v, rfl, v', H', J.os, J.bare, J.base, J.hok, rv, q⟩) fun _ _ z => z.elim)
end
noncomputable def _root_.L2.Cx.in1 (X : Cx) : Cx := { X with A := X.A.in1 }
section
variable {X : Cx} {pins : List (Addr × Obj)} {σ : L2.St} {H : Hp} {s : Shared} {l q It S : Addr} {vs : List V} {R : Result → Shared → Prop}
private theorem inv_in1 (I : Inv X pins σ H s) : Inv X.in1 pins σ H s :=
  ⟨⟨I.ok.mod, I.ok.kind, I.ok.glob, I.ok.blt, I.ok.above, I.ok.inj, I.ok.has, I.ok.cab, I.ok.hd, I.ok.frames, I.ok.stk, I.ok.exf, I.ok.bs, I.ok.bsz, I.ok.noex, I.ok.exfs, I.ok.funs, I.ok.frf⟩, I.os, I.bare, I.base, I.loc, I.cell, I.free, I.freeC, I.pin, I.hok, I.len⟩
private theorem inv_out1 (I : Inv X.in1 pins σ H s) : Inv X pins σ H s :=
  ⟨⟨I.ok.mod, I.ok.kind, I.ok.glob, I.ok.blt, I.ok.above, I.ok.inj, I.ok.has, I.ok.cab, I.ok.hd, I.ok.frames, I.ok.stk, I.ok.exf, I.ok.bs, I.ok.bsz, I.ok.noex, I.ok.exfs, I.ok.funs, I.ok.frf⟩, I.os, I.bare, I.base, I.loc, I.cell, I.free, I.freeC, I.pin, I.hok, I.len⟩
private theorem fp_turn {b : Addr} {h' : Heap} {t' : Nat} (f : FpOk X pins H b) (I : Inv X pins σ H s) (k : ∀ c o, c ≠ b → s.heap.get? c = some o → h'.get? c = some o) : Inv X pins σ H { s with heap := h', toks := t' } :=
  I.turned k f.1 f.2.1 f.2.2.2.1 f.2.2.2.2.1 f.2.2.2.2.2
private theorem fp_pin {b : Addr} {o : Obj} {pl : List (Addr × Obj)} (f : FpOk X pins H b) (I : Inv X (pl ++ pins) σ H s) (e : s.heap.get? b = some o) (d : ∀ v, o.data ≠ .cell v) : Inv X ((b, o) :: pl ++ pins) σ H s := I.pins_of fun p hp => by
  rcases List.mem_cons.mp hp with rfl | hp
  · exact ⟨e, f.1, f.2.1, f.2.2.1, d⟩
  · exact I.pin p (List.mem_append_right _ hp)
private theorem fp_more {b : Addr} {p : Addr × Obj} (f : FpOk X pins H b) (h : p.1 ≠ b) : FpOk X (p :: pins) H b := ⟨f.1, f.2.1, f.2.2.1, f.2.2.2.1, f.2.2.2.2.1, fun r hr => by
  rcases List.mem_append.mp hr with z | z
  · exact f.2.2.2.2.2 r (List.mem_append_left _ z)
  · rcases List.mem_cons.mp z with rfl | z
    · exact h
    · exact f.2.2.2.2.2 r (List.mem_append_right _ z)⟩
noncomputable def KeyOk (X : Cx) (pins : List (Addr × Obj)) (σ : L2.St) (H : Hp) (q : Addr) (vs : List V) (kf : Nat → Int) : Prop :=
  ∀ (i : Nat) (v : V) (u : Value) (pl : List (Addr × Obj)) (s' : Shared), vs[i]? = some v → RelV v u → Inv X.in1 (pl ++ pins) σ H s' → wpAny (model X.prog X.w) X.A.in1 (call (.ref q) [u]) (EP X.in1 (pl ++ pins) σ fun v' H' => v' = .int (kf i) ∧ H' = H) (fun _ _ => False) s'
noncomputable def Least (kf : Nat → Int) (i n : Nat) : Prop := ∀ j, j < n → kf i ≤ kf j ∧ (j < i → kf i < kf j)
private theorem loopName : (toString "min" ++ toString ".loop" : String) = "min.loop" := by
  decide
noncomputable abbrev best (us : Array Value) (c : Nat) : Obj := seqObj "list" us c
noncomputable def Held (vs : List V) (kf : Nat → Int) (j : Nat) (us : Array Value) : Prop := (j = 0 ∧ us = #[]) ∨ ∃ (i : Nat) (v : V) (u : Value) (t : Tok), us = #[u, .int (kf i) t] ∧ vs[i]? = some v ∧ RelV v u ∧ Least kf i j ∧ i < j
noncomputable def MinIs (vs : List V) (kf : Nat → Int) (v : V) : Prop := (vs = [] ∧ v = .non) ∨ ∃ i, vs[i]? = some v ∧ Least kf i vs.length
private theorem Least.more {kf : Nat → Int} {i j : Nat} (h : Least kf i j) (k : ¬ kf j < kf i) (hij : i < j) : Least kf i (j + 1) := fun j' hj' => by
  by_cases e : j' = j
  · subst e; exact ⟨Int.not_lt.mp k, fun z => absurd z (Nat.lt_asymm hij)⟩
  · exact h j' (Nat.lt_of_le_of_ne (Nat.le_of_lt_succ hj') e)
private theorem Least.next {kf : Nat → Int} {i j : Nat} (h : Least kf i j) (k : kf j < kf i) : Least kf j (j + 1) := fun j' hj' => by
  by_cases e : j' = j
  · subst e; exact ⟨Int.le_refl _, fun z => absurd z (Nat.lt_irrefl _)⟩
  · have h1 := (h j' (Nat.lt_of_le_of_ne (Nat.le_of_lt_succ hj') e)).1
    exact ⟨Int.le_of_lt (Int.lt_of_lt_of_le k h1), fun _ => Int.lt_of_lt_of_le k h1⟩
private theorem least_one {kf : Nat → Int} : Least kf 0 1 := fun j' hj' => by
  have e : j' = 0 := Nat.lt_one_iff.mp hj'
  subst e
  exact ⟨Int.le_refl _, fun z => absurd z (Nat.lt_irrefl _)⟩
private theorem min_loop (kf : Nat → Int) (hh : X.A.handled = none) (hl : SqL X.K H l vs) (turn : KeyOk X pins σ H q vs kf) (nSI : S ≠ It) (fI : FpOk X.in1 pins H It) (fS : FpOk X.in1 pins H S) (hlI : l ≠ It)
    (hR : ∀ v u s', MinIs vs kf v → RelV v u → Inv X.in1 pins σ H s' → R (.ok (.ret u)) s') :
    ∀ (r j : Nat) (s : Shared) (us : Array Value) (c : Nat) (oI : Obj), j + r = vs.length → Inv X.in1 ((S, best us c) :: (It, oI) :: pins) σ H s → s.heap.IsListIter It l j → Held vs kf j us →
      codeAny (model X.prog X.w) X.A (.builtin "min.loop" ⟨[.ref It, .ref q, .ref S], [(Str.ofString "default", .none)]⟩) R s := by
  intro r
  induction r with
  | zero =>
    intro j s us c oI hr Iv hit hd
    have hj : vs.length = j := hr.symm
    obtain ⟨its, rvs, pl, _⟩ := Iv.list hl
    have hsz : its.toArray.size = j := by rw [List.size_toArray, ← rvs.length, hj]
    have W := Walks.list (prog := X.prog) (w := X.w) (A := X.A.in1) hh It l hlI its.toArray
    have pS := Iv.pin (S, best us c) (List.mem_append_right _ (.head _))
    refine codeAny_builtin PySem.F.entry_min_loop ?_
    rw [Around.under_plainId PySem.F.plain_min_loop _]
    refine wpAny_bind (wpAny_seqItems pS.1 rfl (wpAny_bind (wpAny_tryCatch (W.done _ _ _ ⟨by rw [hsz]; exact hit, pl.isList⟩ fun h' tk' hk' => ?_))))
    have I1 : Inv X.in1 ((S, best us c) :: pins) σ H { s with heap := h', toks := tk' } := fp_turn (fp_more (p := (S, best us c)) fI nSI) (Iv.pins_of fun p hp => Iv.pin p (List.mem_append_right _ (by
      rcases List.mem_cons.mp hp with rfl | hp
      · exact .head _
      · exact .tail _ (.tail _ hp)))) fun b o hb e => hk' b o (by simpa using hb) e
    have pS1 := I1.pin (S, best us c) (List.mem_append_right _ (.head _))
    have I2 : Inv X.in1 pins σ H { s with heap := h', toks := tk' } := I1.pins_of fun p hp => I1.pin p (List.mem_append_right _ (.tail _ hp))
    rcases hd with ⟨rfl, rfl⟩ | ⟨i, v, u, t, rfl, hv, ru, hb, _⟩
    · exact wpAny_bind (wpAny_rule (wpAny_pure (hR .non .none _ (.inl ⟨List.length_eq_zero_iff.mp hj, rfl⟩) rfl I2)))
    · refine wpAny_bind (wpAny_updateSeq pS1.1 rfl (wpAny_bind (wpAny_letGo (wpAny_pure (hR v u _ (.inr ⟨i, hv, by rw [hj]; exact hb⟩) ru ?_)))))
      exact fp_turn fS I2 fun b o hb e => ((Heap.SameBut.update h' S (Obj.mapSeq fun _ => (#[] : Array Value))).2 b hb).trans e
  | succ r ih =>
    intro j s us c oI hr Iv hit hd
    have hlt : j < vs.length := by rw [← hr]; exact Nat.lt_add_of_pos_right (Nat.succ_pos r)
    have hr' : j + 1 + r = vs.length := by rw [← hr, Nat.add_assoc, Nat.add_comm 1]
    obtain ⟨its, rvs, pl, _⟩ := Iv.list hl
    have hsz : its.toArray.size = vs.length := by rw [List.size_toArray, rvs.length]
    have W := Walks.list (prog := X.prog) (w := X.w) (A := X.A.in1) hh It l hlI its.toArray
    have pS := Iv.pin (S, best us c) (List.mem_append_right _ (.head _))
    refine codeAny_builtin PySem.F.entry_min_loop ?_
    rw [Around.under_plainId PySem.F.plain_min_loop _]
    refine wpAny_bind (wpAny_seqItems pS.1 rfl (wpAny_bind (wpAny_tryCatch (W.item j _ _ _ (by rw [hsz]; exact hlt) ⟨hit, pl.isList⟩ fun u h' tk' hP hst hk' => ?_))))
    obtain ⟨v1, hv1⟩ : ∃ v1, vs[j]? = some v1 := ⟨_, List.getElem?_eq_getElem hlt⟩
    obtain ⟨u', hu', ru⟩ := rvs.get hv1
    have : u' = u := by
      have hP : its[j]? = some u := by simpa using hP
      rw [hu'] at hP; cases hP; rfl
    subst this
    obtain ⟨oI', hoI, hoc, hod⟩ := id hst.1
    have nc : ∀ v, oI'.data ≠ .cell v := fun v z => by rw [hod] at z; cases z
    have I1 : Inv X.in1 ((S, best us c) :: pins) σ H { s with heap := h', toks := tk' } := fp_turn (fp_more (p := (S, best us c)) fI nSI) (Iv.pins_of fun p hp => Iv.pin p (List.mem_append_right _ (by
      rcases List.mem_cons.mp hp with rfl | hp
      · exact .head _
      · exact .tail _ (.tail _ hp)))) fun b o hb e => hk' b o (by simpa using hb) e
    have I2 : Inv X.in1 ([(S, best us c), (It, oI')] ++ pins) σ H { s with heap := h', toks := tk' } := I1.pins_of fun p hp => by
      rcases List.mem_cons.mp hp with rfl | hp
      · exact I1.pin _ (List.mem_append_right _ (.head _))
      · rcases List.mem_cons.mp hp with rfl | hp
        · exact ⟨hoI, fI.1, fI.2.1, fI.2.2.1, nc⟩
        · exact I1.pin p (List.mem_append_right _ (.tail _ hp))
    refine wpAny_bind (wpAny_tryCatch (wpAny_holding (wpAny_mono (turn j v1 u' _ _ hv1 ru I2) (fun x s2 he => ?_) fun _ _ hF => hF.elim)))
    obtain ⟨v', H', I3, r3, rfl, rfl⟩ := he
    obtain ⟨t2, rfl⟩ := (show ∃ t, x = Value.int (kf j) t from r3)
    have pS3 := I3.pin (S, best us c) (List.mem_append_right _ (.head _))
    have pI3 := I3.pin (It, oI') (List.mem_append_right _ (.tail _ (.head _)))
    have step : Least kf j (j + 1) → ∀ s3, s3 = { s2 with heap := s2.heap.update S (Obj.mapSeq fun _ => #[u', .int (kf j) t2]) } → codeAny (model X.prog X.w) X.A (.builtin "min.loop" ⟨[.ref It, .ref q, .ref S], [(Str.ofString "default", .none)]⟩) R s3 := fun le s3 e3 => by
      subst e3
      obtain ⟨c2, hc2⟩ : ∃ c2, (s2.heap.update S (Obj.mapSeq fun _ => #[u', .int (kf j) t2])).get? S = some (best #[u', .int (kf j) t2] c2) := ⟨_, get?_update_seq pS3.1 fun _ => #[u', .int (kf j) t2]⟩
      have sb := Heap.SameBut.update s2.heap S (Obj.mapSeq fun _ => #[u', .int (kf j) t2])
      have I4 : Inv X.in1 ((It, oI') :: pins) σ H' { s2 with heap := s2.heap.update S (Obj.mapSeq fun _ => #[u', .int (kf j) t2]) } := fp_turn (t' := s2.toks) (fp_more (p := (It, oI')) fS (Ne.symm nSI)) (I3.pins_of fun p hp => I3.pin p (List.mem_append_right _ (.tail _ hp))) fun b o hb e => (sb.2 b hb).trans e
      exact ih (j + 1) _ _ c2 oI' hr' (fp_pin (pl := [(It, oI')]) fS I4 hc2 fun _ z => nomatch z) ⟨oI', (sb.2 It (Ne.symm nSI)).trans pI3.1, hoc, hod⟩ (.inr ⟨j, v1, u', t2, rfl, hv1, ru, le, Nat.lt_succ_self _⟩)
    rcases hd with ⟨rfl, rfl⟩ | ⟨i, v, vb, tb, rfl, hv, rv, hb, jp⟩
    · refine wpAny_bind (wpAny_updateSeq pS3.1 rfl ?_)
      rw [loopName]
      exact wpAny_pure ⟨plainId_quiet PySem.F.plain_min_loop _, step least_one _ rfl⟩
    · refine wpAny_bind (wpAny_tryCatch (wpAny_holding (wpAny_bind (CmpOf.ints_lt (prog := X.prog) (w := X.w) (A := X.A.in1) (P := fun i v => ∃ t, v = .int (kf i) t) kf (fun i v h => h) j i _ _ _ _ _ ⟨t2, rfl⟩ ⟨tb, rfl⟩ (wpAny_bind (wpAny_holding (wpAny_truthy_bool (wpAny_bind (wpAny_letGo (wpAny_pure ?_))))))))))
      by_cases hlt2 : kf j < kf i
      · simp only [hlt2, decide_true, if_true]
        refine wpAny_bind (wpAny_updateSeq pS3.1 rfl (wpAny_bind (wpAny_letGo ?_)))
        rw [loopName]
        exact wpAny_pure ⟨plainId_quiet PySem.F.plain_min_loop _, step (hb.next hlt2) _ rfl⟩
      · simp only [hlt2, decide_false, Bool.false_eq_true, if_false]
        refine wpAny_bind (wpAny_letGo ?_)
        rw [loopName]
        exact wpAny_pure ⟨plainId_quiet PySem.F.plain_min_loop _, ih (j + 1) _ _ c oI' hr' I3 ⟨oI', pI3.1, hoc, hod⟩ (.inr ⟨i, v, vb, tb, rfl, hv, rv, hb.more hlt2 jp, Nat.lt_succ_of_lt jp⟩)⟩
private theorem min_args (a v d : Value) : argsOk "min" ⟨[a], [(Str.ofString "key", v), (Str.ofString "default", d)]⟩ := by
  unfold argsOk
  kernel_rfl
private theorem min_run {Q : VK} {E : Value → Shared → Prop} (kf : Nat → Int) (hh : X.A.handled = none) (Iv : Inv X pins σ H s) (hl : SqL X.K H l vs) (turn : KeyOk X pins σ H q vs kf) (hQ : ∀ v, MinIs vs kf v → Q v H) :
    wpAny (model X.prog X.w) X.A (call (.builtin "min") [.ref l] [(Str.ofString "key", .ref q), (Str.ofString "default", .none)]) (EP X pins σ Q) E s := by
  obtain ⟨its, rvs, pl, _⟩ := Iv.list hl
  obtain ⟨ol, hol, _⟩ := id pl.isList
  have hll : l < s.heap.objs.size := Heap.lt_size hol
  refine kmk_tree PySem.F.kind_min PySem.F.plain_min PySem.F.entry_min (min_args _ _ _) ?_
  refine wpAny_bind (wpAny_of_eq (show Builtin.Builtins.bindParams "min" ["key", "default"] 0 ⟨[], [(Str.ofString "key", .ref q), (Str.ofString "default", .none)]⟩ = pure [some (.ref q), some .none] from rfl) ?_)
  refine wpAny_bind (wpAny_pure (wpAny_bind (wpAny_pyIter_list pl.isList (wpAny_bind (wpAny_newList ?_ (Nat.zero_le _))))))
  rw [loopName]
  refine wpAny_pure ⟨plainId_quiet PySem.F.plain_min_loop _, ?_⟩
  generalize hoI : ({ cls := .type "list_iterator", data := .fields #[.ref l, .int 0 0] } : Obj) = oI
  have hS : (s.heap.push oI).objs.size = s.heap.objs.size + 1 := size_push' ..
  generalize hIt : s.heap.objs.size = It at hS hll
  generalize hSs : (s.heap.push oI).objs.size = S at hS
  have I0 := inv_in1 Iv
  have nSI : S ≠ It := by rw [hS]; exact Nat.succ_ne_self _
  have leS : s.heap.objs.size ≤ S := by rw [hS, hIt]; exact Nat.le_succ _
  have gI : ((s.heap.push oI).push (seqObj "list" #[] 0)).get? It = some oI := Heap.get?_push_of_some _ (by rw [← hIt]; exact Heap.get?_push_size _ (by rw [← hoI]; rfl))
  have gS : ((s.heap.push oI).push (seqObj "list" #[] 0)).get? S = some (seqObj "list" #[] 0) := by rw [← hSs]; exact Heap.get?_push_size _ rfl
  have fI : FpOk X.in1 pins H It := I0.fpOk (Nat.le_of_eq hIt) (I0.hok.fresh (Nat.le_of_eq hIt))
  have fS : FpOk X.in1 pins H S := I0.fpOk leS (I0.hok.fresh leS)
  have I1 : Inv X.in1 ([] ++ pins) σ H { s with heap := (s.heap.push oI).push (seqObj "list" #[] 0) } := I0.kept (t' := s.toks) fun b u e => Heap.get?_push_of_some _ (Heap.get?_push_of_some _ e)
  exact min_loop kf hh hl turn nSI fI fS (Nat.ne_of_lt hll) (fun v u s' h1 h2 I6 => ⟨v, H, inv_out1 I6, h2, hQ v h1⟩) vs.length 0 _ #[] 0 oI (Nat.zero_add _) (fp_pin (pl := [(It, oI)]) fS (fp_pin (pl := []) fI I1 gI fun _ z => by rw [← hoI] at z; cases z) gS fun _ z => nomatch z) ⟨oI, gI, by rw [← hoI], by rw [← hoI]; rfl⟩ (.inl ⟨rfl, rfl⟩)
end
noncomputable def CodeX (c : Addr) (q : Str) : Heap → Prop := fun h => h.CodeRec (.ref c) q
noncomputable def TabOk (F : Hp) (pos : Pos) (q : Str) (ps : Array Value) : Prop := TriplesOk ps.toList ∧ (codeAmong pos ps.toList = none ∨ ∃ c, codeAmong pos ps.toList = some (.ref c) ∧ F c = some (.ext (CodeX c q)))
noncomputable def lamPs (pos : Pos) (ps : Array Value) (c : Addr) : Array Value := ps ++ #[rawInt pos.line, rawInt pos.col, .ref c]
noncomputable def LamH (P : Addr) (pos : Pos) (q : Str) (H H' : Hp) : Prop := H' = H ∨ ∃ ps c, H P = some (.tbl ps) ∧ TriplesOk ps.toList ∧ codeAmong pos ps.toList = none ∧ H c = none ∧ c ≠ P ∧ H' = upd (upd H P (.tbl (lamPs pos ps c))) c (.ext (CodeX c q))
structure BMain (mg : Str → Option Value) (base : Heap) : Prop where
  ex : ∃ bm o, mg "__builtins__" = some (.ref bm) ∧ bm ≠ builtinsNs ∧ base.get? bm = some o ∧ o.cls = .type "module" ∧ o.dict = some builtinsNs ∧ o.data = .plain
private theorem LamH.sqL {K : PySem.W.Frag} {P : Addr} {pos : Pos} {q : Str} {H H' : Hp} {a : Addr} {xs : List V} (h : LamH P pos q H H') (x : SqL K H a xs) : SqL K H' a xs := by
  rcases h with rfl | ⟨ps, c, h1, _, _, h3, h4, rfl⟩
  · exact x
  refine x.imp (fun r => ?_) id
  have g : ∀ u, H a = some u → (∀ p, u ≠ .tbl p) → upd (upd H P (.tbl (lamPs pos ps c))) c (.ext (CodeX c q)) a = some u := fun u e n => by
    rw [upd_ne (ne_of_none e h3), upd_ne (fun z => by rw [z, h1] at e; cases e; exact n _ rfl)]; exact e
  rcases r with r | ⟨o, r⟩
  · exact .inl (g _ r fun _ z => nomatch z)
  · exact .inr ⟨o, g _ r fun _ z => nomatch z⟩
private theorem LamH.ins {P : Addr} {pos : Pos} {q : Str} {H H' : Hp} {a C dx : Addr} {fs : List (Str × V)} (h : LamH P pos q H H') (x : H a = some (.ins C dx fs)) : H' a = some (.ins C dx fs) := by
  rcases h with rfl | ⟨ps, c, h1, _, _, h3, h4, rfl⟩
  · exact x
  · rw [upd_ne (ne_of_none x h3), upd_ne (fun z => by rw [z, h1] at x; cases x)]; exact x
section
variable {X : Cx} {pins : List (Addr × Obj)} {σ : L2.St} {H : Hp} {s : Shared} {c P cy : Addr} {params : Arguments} {body : Expr} {scope : Scope} {pos : Pos} {y : Str} {ps : Array Value} {Q : Value → Shared → Prop} {E : Value → Shared → Prop}
private theorem codeX_ok {h : Heap} {c : Addr} {q : Str} (r : h.CodeRec (.ref c) q) : CodeX c q h ∧ (∃ o, h.get? c = some o) ∧ ∀ h1 h2 : Heap, CodeX c q h1 → (∀ o, h1.get? c = some o → h2.get? c = some o) → CodeX c q h2 := by
  refine ⟨r, ?_, fun h1 h2 r1 k => ?_⟩
  · obtain ⟨c', o, vs, t, e, ho, _⟩ := r; cases e; exact ⟨o, ho⟩
  · obtain ⟨c', o, vs, t, e, ho, r2⟩ := r1; cases e; exact ⟨c, o, vs, t, rfl, k o ho, r2⟩
private theorem lam_make (Iv : Inv X pins σ H s) (hcode : X.env.code = .ref c) (C : PySem.W.CodeHd X.base c P) (hP : H P = some (.tbl ps)) (hT : TabOk H pos (X.env.qual ++ "<lambda>") ps) (bm : BMain X.mg X.base) (hcl : closureFor scope X.env = pure [(y, cy)]) (hdef : defaultsOf params X.env = ([], []))
    (h : ∀ f c' ct pm H' s', Inv X pins σ H' s' → LamH P pos (X.env.qual ++ "<lambda>") H H' → H' c' = some (.ext (CodeX c' (X.env.qual ++ "<lambda>"))) → s'.heap.get? f = some (PySem.W.kla_obj "<lambda>" (X.env.qual ++ "<lambda>") params body scope [(y, cy)] pm c' ct) → H' f = none → s.heap.objs.size ≤ f → Q (.ref f) s') :
    wpAny (model X.prog X.w) X.A (eval (.Lambda params body scope pos) X.env) Q E s := by
  have tP : s.heap.get? P = some (PySem.W.tabObj ps) := Iv.hok P _ hP
  obtain ⟨b, ob, b1, b2, b3, b4, b5, b6⟩ := bm.ex
  obtain ⟨o0, es0, ep0, g1, g2, _⟩ := id Iv.mod.glob
  have hgn := (Iv.bs _ _ g1).2
  have hgP : mainGlobals ≠ P := fun z => by rw [z, hP] at hgn; cases hgn
  have hbn := Iv.bs _ _ b3
  have hbP : b ≠ P := fun z => by rw [z, hP] at hbn; cases hbn.2
  have hbG : b ≠ mainGlobals := fun z => by rw [z, g1] at b3; cases b3; rw [g2] at b6; cases b6
  have hB : s.heap.BuiltinsAt X.mg P := ⟨b, ob, b1, b2, hbG, hbP, hbn.1, b4, b5, b6⟩
  have CH := C.keeps Iv.bk
  refine PySem.W.kla_eval hdef ?_
  obtain ⟨hT1, hT2⟩ := hT
  rcases hT2 with hn | ⟨c', hc', hx⟩
  · refine PySem.W.kla_makeFunction (mg := X.mg) hcl Iv.ok.glob (Iv.mod.glob.keeps Iv.bk) hcode CH tP hT1 hn hgP hB fun c' ct h' tk hext hge hlt hrec htab => ?_
    have nc : H c' = none := Iv.hok.fresh hge
    have ncP : c' ≠ P := fun z => by rw [z, hP] at nc; cases nc
    have lP : P < s.heap.objs.size := Heap.lt_size tP
    generalize hf : (PySem.W.kla_obj "<lambda>" (X.env.qual ++ "<lambda>") params body scope [(y, cy)] ((X.mg "__name__").getD .none) c' ct) = fo
    have k1 : ∀ d u, d ≠ P → s.heap.get? d = some u → (h'.push fo).get? d = some u := fun d u hd e => Heap.get?_push_of_some _ (hext d u hd e)
    have rec2 : (h'.push fo).CodeRec (.ref c') (X.env.qual ++ "<lambda>") := by
      obtain ⟨c2, o2, vs2, t2, z1, z2, z3⟩ := hrec
      exact ⟨c2, o2, vs2, t2, z1, Heap.get?_push_of_some _ z2, z3⟩
    have tP2 : (h'.push fo).get? P = some (PySem.W.tabObj (lamPs pos ps c')) := Heap.get?_push_of_some _ htab
    have lst : ∀ d u, H d = some u → u ≠ .tbl ps → upd (upd H P (.tbl (lamPs pos ps c'))) c' (.ext (CodeX c' (X.env.qual ++ "<lambda>"))) d = some u := fun d u e ne => by
      rw [upd_ne (ne_of_none e nc), upd_ne (fun z => by rw [z, hP] at e; cases e; exact ne rfl)]; exact e
    have hu : upd (upd H P (.tbl (lamPs pos ps c'))) c' (.ext (CodeX c' (X.env.qual ++ "<lambda>"))) P = some (.tbl (lamPs pos ps c')) := by rw [upd_ne (Ne.symm ncP), upd_same]
    have un : Un X.fs [] H (upd (upd H P (.tbl (lamPs pos ps c'))) c' (.ext (CodeX c' (X.env.qual ++ "<lambda>")))) s.heap (h'.push fo) := by
      have nP : ∀ d, H d = none → d ≠ P := fun d e z => by rw [z, hP] at e; cases e
      refine ⟨fun d u e n _ _ => k1 d u (nP d n) e, fun d u e n _ _ => ⟨u.slots, k1 d u (nP d n) e⟩, fun d u e n _ => ?_, fun d u e _ => ?_, fun d xs e => lst d _ e (fun z => nomatch z), fun d u xs e => lst d _ e (fun z => nomatch z), fun d q e => ?_⟩
      · rw [upd_ne (Nat.ne_of_lt (Nat.lt_of_lt_of_le (Heap.lt_size e) hge)), upd_ne (nP d n)]; exact n
      · by_cases z : d = P
        · rw [z]; exact ⟨_, tP2⟩
        · exact ⟨u, k1 d u z e⟩
      · by_cases z : d = P
        · rw [z, hP] at e; cases e
          rw [z]; exact ⟨_, hu⟩
        · refine ⟨#[], ?_⟩
          rw [upd_ne (ne_of_none e nc), upd_ne z, e]; simp
    refine h _ c' ct _ _ _ (Iv.un (t' := tk) un fun d u e => ?_) (.inr ⟨ps, c', hP, hT1, hn, nc, ncP, rfl⟩) upd_same (by rw [hf]; exact Heap.get?_push_size _ (by rw [← hf]; rfl)) ?_ (Nat.le_trans hge (Nat.le_of_lt hlt))
    · by_cases z1 : d = c'
      · subst z1
        rw [upd_same] at e; cases e
        exact codeX_ok rec2
      · rw [upd_ne z1] at e
        by_cases z2 : d = P
        · subst z2
          rw [upd_same] at e; cases e
          exact tP2
        · rw [upd_ne z2] at e
          refine (Iv.hok d u e).stay (fun a v ha q => k1 a v ?_ q) (fun a r => lst a _ r (fun z => nomatch z)) fun a xs r => lst a _ r (fun z => nomatch z)
          rcases ha with rfl | ha
          · exact z2
          · intro z; rw [z, hP] at ha; cases ha
    · have ge2 : s.heap.objs.size ≤ h'.objs.size := Nat.le_trans hge (Nat.le_of_lt hlt)
      rw [upd_ne (Nat.ne_of_gt hlt), upd_ne (Nat.ne_of_gt (Nat.lt_of_lt_of_le lP ge2))]
      exact Iv.hok.fresh ge2
  · refine PySem.W.kla_makeFunctionHit (mg := X.mg) hcl Iv.ok.glob (Iv.mod.glob.keeps Iv.bk) hcode CH tP hT1 hc' hB fun ct h' tk hk hsz => ?_
    generalize hf : ({ cls := .type "function", data := .func (PySem.W.kla_fn "<lambda>" (X.env.qual ++ "<lambda>") params body scope [(y, cy)] ((X.mg "__name__").getD .none) (.ref c') ct) } : Obj) = fo
    refine h _ c' ct _ _ _ (Iv.kept (t' := tk) fun d u e => Heap.get?_push_of_some _ (hk d u e)) (.inl rfl) hx (by rw [← hf]; exact Heap.get?_push_size _ rfl) (Iv.hok.fresh hsz) hsz
end
noncomputable def minT (K : PySem.W.Frag) (i : Nat) (fld : Str) (C P : Addr) (pos : Pos) (q : Str) (σ : L2.St) (Q : VK) (v : V) (H1 : Hp) : Prop := ∃ l vs a dx fs b hs ps, ∃ kf : Nat → Int, v = .ref l ∧ SqL K H1 l vs ∧ σ[i]? = some (some (.ref a)) ∧ H1 a = some (.ins C dx fs) ∧ fs.lookup fld = some (.ref b) ∧ SqL K H1 b hs ∧
  (∀ j v, vs[j]? = some v → ∃ n : Int, v = .int n ∧ atI hs n = some (.int (kf j))) ∧ H1 P = some (.tbl ps) ∧ TabOk H1 pos q ps ∧ ∀ r H', MinIs vs kf r → LamH P pos q H1 H' → Q r H'
noncomputable def tMinK (K : PySem.W.Frag) (te : TE) (i : Nat) (fld : Str) (C P : Addr) (pos : Pos) (q : Str) : TE := fun σ H Q => te σ H (minT K i fld C P pos q σ Q)
section
variable {X : Cx} {e : Expr} {te : TE} {i : Nat} {x y fld : Str} {c P cy C : Addr} {params : Arguments} {scope : Scope} {p pos lpos kp1 kp2 np p1 p2 p3 p4 : Pos}
private theorem pe_minKey (he : PE X e te) (hg : Gl X "min") (hm : X.mg "min" = none) (hr : Room 3 X.A) (S : LamScope x y scope) (hcode : X.env.code = .ref c) (CH : PySem.W.CodeHd X.base c P) (bm : BMain X.mg X.base) (hcl : closureFor scope X.env = pure [(y, cy)])
    (hcy : X.env.cells.lookup y = some cy) (hky : X.env.scope.names.lookup y = some .cell) (hdef : defaultsOf params X.env = ([], [])) (hi : X.N[i]? = some y)
    (hbind : ∀ (body : Expr) (pm : Value) (c' : Addr) (ct ux : Value), bindArgs (PySem.W.kla_fn "<lambda>" (X.env.qual ++ "<lambda>") params body scope [(y, cy)] pm (.ref c') ct) ⟨[ux], []⟩ = pure [(x, ux)])
    (CC : Cls X.K C) (NA : NoAttr X.K C fld) (hst : starEach [e] X.env = [(false, eval e X.env)] := by rfl)
    (hxd : (x == ("__debug__" : Str)) = false := by decide) (hxc : (x == ("__classdict__" : Str)) = false := by decide) (hyd : (y == ("__debug__" : Str)) = false := by decide) (hyc : (y == ("__classdict__" : Str)) = false := by decide) 
    (hfb : ∀ env, attributeBase (.Name y p1) fld env (eval (.Name y p1) env) = eval (.Name y p1) env := by intro _; rfl) :
    PE X (.Call (.Name "min" p) [e] [⟨some "key", .Lambda params (.Subscript (.Attribute (.Name y p1) fld p2) (.Name x p3) p4) scope lpos, kp1⟩, ⟨some "default", .Constant .none 0 np, kp2⟩] pos) (tMinK X.K te i fld C P lpos (X.env.qual ++ "<lambda>")) := by
  intro pins s σ H Q I h
  refine wpAny_Call_Name_kw (ld_blt I hg hm (by rfl) ?_ (by decide) (by decide))
  refine callWith_kw (thn ((pa_cons he pa_nil hst) pos pins s σ H (fun ws H1 => match ws with | [v] => minT X.K i fld C P lpos (X.env.qual ++ "<lambda>") σ Q v H1 | _ => False) I h) fun us s1 ⟨vs0, H1, I1, r1, q1⟩ => ?_) (by rw [hst]; rfl) (by rw [hst]; rfl)
  dsimp only at q1
  split at q1
  case h_2 => exact q1.elim
  rename_i v0
  obtain ⟨l, vs, a, dx, fs, b, hs, ps, kf, rfl, hl, ha, hins, hfl, hb, hk, hP, hT, fin⟩ := q1
  cases r1 with
  | cons r0 rn =>
    cases rn
    cases r0
    refine kws_cons (lam_make I1 hcode CH hP hT bm hcl hdef fun f c' ct pm H' s2 I2 lh hx hf hfn hge => ?_)
    refine kws_cons ?_
    refine wpAny_pure (kws_nil ?_)
    have fp : FpOk X pins H' f := I1.fpOk hge hfn
    obtain ⟨fo, hfo⟩ : ∃ fo, fo = PySem.W.kla_obj "<lambda>" (X.env.qual ++ "<lambda>") params (.Subscript (.Attribute (.Name y p1) fld p2) (.Name x p3) p4) scope [(y, cy)] pm c' ct := ⟨_, rfl⟩
    rw [← hfo] at hf
    have I3 : Inv X ((f, fo) :: pins) σ H' s2 := fp_pin (pl := []) fp I2 hf fun _ z => by rw [hfo] at z; cases z
    have key : KeyOk X ((f, fo) :: pins) σ H' f vs kf := by
      intro j v u pl s' hv ru I4
      obtain ⟨n, rfl, hat⟩ := hk j v hv
      have hf4 := (I4.pin (f, fo) (List.mem_append_right _ (List.mem_append_right _ (.head _)))).1
      rw [hfo] at hf4
      have hrec : s'.heap.CodeRec (.ref c') (X.env.qual ++ "<lambda>") := (I4.hok c' _ hx).1
      obtain ⟨m, _, hlo⟩ := I4.loc
      obtain ⟨uy, ry, lk⟩ := hlo i y _ hi ha (.inr (.inl hky))
      have hce : s'.heap.IsCell cy (some uy) := by
        rcases lk with ⟨z, _⟩ | ⟨_, c0, e0, z⟩
        · have z : X.env.scope.names.lookup y = some .local := z
          rw [hky] at z; cases z
        · have e0 : X.env.cells.lookup y = some c0 := e0
          rw [hcy] at e0; cases e0; exact z
      refine wpAny_call (codeAny_mono (lam_run (K := X.K) (mg := X.mg) (base := X.base) (Q := fun v' H2 => v' = .int (kf j) ∧ H2 = H') (⟨hr.hd, by have := hr.dp; show X.A.depth + _ < _; omega, by have := hr.un; show X.A.units + 1 + _ < _; omega⟩ : Room 1 X.A.in1) I4.env0 S hf4 hrec hce (I4.freeC y cy hcy) ry (hbind _ _ _ _ _) ru ?_) fun r s3 ⟨v3, e3, ce⟩ => ?_)
      · refine ⟨_, pe_ix ix_list (pe_fldO (f := fld) (L2.pv 1 rfl (.inr (.inr S.ny)) hyd hyc) (hfb _)) (L2.pv 0 rfl (.inl S.nx) hxd hxc) (fun _ _ => rfl), ?_⟩
        exact ⟨_, rfl, a, C, dx, fs, _, rfl, lh.ins hins, CC, NA, hfl, _, rfl, b, hs, n, _, rfl, rfl, lh.sqL hb, hat, rfl, rfl⟩
      · subst e3
        exact I4.after ce
    refine wpAny_mono (min_run kf hr.hd I3 (lh.sqL hl) key fun v hv => fin v H' hv lh) (fun u s3 ⟨v, H3, J, rv, q⟩ => ⟨v, H3, J.pins_of fun p hp => J.pin p (List.mem_append_right _ (.tail _ hp)), rv, q⟩) fun _ _ z => z
end
end L3
set_option Elab.async false
set_option linter.all false
set_option maxRecDepth 100000
namespace L4
open PySem PySem.Spec PyProof.Rows L2 L3
private theorem ex5 {α β γ δ ε : Type} {A B C : α → β → γ → δ → ε → Prop} {R : Prop} (h : ∃ z f r m p, A z f r m p ∧ B z f r m p ∧ C z f r m p) (k : ∀ z f r m p, A z f r m p → B z f r m p → C z f r m p → R) : R :=
  h.elim fun z h => h.elim fun f h => h.elim fun r h => h.elim fun m h => h.elim fun p h => k z f r m p h.1 h.2.1 h.2.2
private theorem ex6 {α β γ δ ε ζ : Type} {A B C G : α → β → γ → δ → ε → ζ → Prop} {R : Prop} (h : ∃ z f r m d p, A z f r m d p ∧ B z f r m d p ∧ C z f r m d p ∧ G z f r m d p) (k : ∀ z f r m d p, A z f r m d p → B z f r m d p → C z f r m d p → G z f r m d p → R) : R :=
  h.elim fun z h => h.elim fun f h => h.elim fun r h => h.elim fun m h => h.elim fun d h => h.elim fun p h => k z f r m d p h.1 h.2.1 h.2.2.1 h.2.2.2
mutual
noncomputable def Rp (K : PySem.W.Frag) (F : Hp) : D → V → Prop
  | .non, v => v = .non
  | .bl b, v => v = .bl b
  | .int i, v => v = .int i
  | .str x, v => v = .str x
  | .tup ds, v => ∃ a vs, v = .ref a ∧ SqT K F a vs ∧ Rps K F ds vs
  | .lst ds, v => ∃ a vs, v = .ref a ∧ Rd F a (.lst vs) ∧ Rps K F ds vs
noncomputable def Rps (K : PySem.W.Frag) (F : Hp) : List D → List V → Prop
  | [], vs => vs = []
  | d :: ds, vs => ∃ v r, vs = v :: r ∧ Rp K F d v ∧ Rps K F ds r
end
section
variable {K : PySem.W.Frag} {F F' H : Hp}
private theorem rd_same {a : Addr} {u : HO} (e : Same F F') (h : Rd F a u) : Rd F' a u := by
  rcases h with h | ⟨o, h⟩
  · exact .inl (e _ _ h)
  · exact .inr ⟨o, e _ _ h⟩
private theorem sqT_same {a : Addr} {vs : List V} (e : Same F F') (h : SqT K F a vs) : SqT K F' a vs := h.imp (rd_same e) id
mutual
private theorem Rp.same (e : Same F F') : ∀ {d : D} {v : V}, Rp K F d v → Rp K F' d v
  | .non, _, h => by rw [Rp] at *; exact h
  | .bl _, _, h => by rw [Rp] at *; exact h
  | .int _, _, h => by rw [Rp] at *; exact h
  | .str _, _, h => by rw [Rp] at *; exact h
  | .tup ds, _, h => by
    rw [Rp] at *
    obtain ⟨a, vs, h1, h2, h3⟩ := h
    exact ⟨a, vs, h1, sqT_same e h2, Rps.same e h3⟩
  | .lst ds, _, h => by
    rw [Rp] at *
    obtain ⟨a, vs, h1, h2, h3⟩ := h
    exact ⟨a, vs, h1, rd_same e h2, Rps.same e h3⟩
private theorem Rps.same (e : Same F F') : ∀ {d : List D} {v : List V}, Rps K F d v → Rps K F' d v
  | [], _, h => by rw [Rps] at *; exact h
  | d :: ds, _, h => by
    rw [Rps] at *
    obtain ⟨v, r, h1, h2, h3⟩ := h
    exact ⟨v, r, h1, Rp.same e h2, Rps.same e h3⟩
end
private theorem Rps.nil : Rps K F [] [] := by rw [Rps]
private theorem Rps.cons {d : D} {v : V} {ds : List D} {vs : List V} (h : Rp K F d v) (k : Rps K F ds vs) : Rps K F (d :: ds) (v :: vs) := by
  rw [Rps]; exact ⟨v, vs, rfl, h, k⟩
private theorem Rps.length : ∀ {d : List D} {v : List V}, Rps K F d v → d.length = v.length
  | [], v, h => by rw [Rps] at h; subst h; rfl
  | d :: ds, v, h => by
    rw [Rps] at h
    obtain ⟨v, r, rfl, h2, h3⟩ := h
    rw [List.length_cons, List.length_cons, Rps.length h3]
private theorem Rps.get : ∀ {d : List D} {v : List V} {i : Nat} {x : D}, Rps K F d v → d[i]? = some x → ∃ y, v[i]? = some y ∧ Rp K F x y
  | [], v, i, x, h, e => by simp at e
  | d :: ds, v, 0, x, h, e => by
    rw [Rps] at h
    obtain ⟨v, r, rfl, h2, h3⟩ := h
    simp at e; subst e
    exact ⟨v, rfl, h2⟩
  | d :: ds, v, i + 1, x, h, e => by
    rw [Rps] at h
    obtain ⟨v, r, rfl, h2, h3⟩ := h
    obtain ⟨y, h4, h5⟩ := Rps.get (i := i) (x := x) h3 (by simpa using e)
    exact ⟨y, by simpa using h4, h5⟩
private theorem Rps.mem {d : List D} {v : List V} {i : Nat} {y : V} (h : Rps K F d v) (e : v[i]? = some y) : ∃ x, d[i]? = some x ∧ Rp K F x y := by
  have hi : i < d.length := by rw [h.length]; exact (List.getElem?_eq_some_iff.mp e).1
  obtain ⟨y', h1, h2⟩ := h.get (List.getElem?_eq_getElem hi)
  rw [e] at h1
  cases h1
  exact ⟨_, List.getElem?_eq_getElem hi, h2⟩
private theorem Rps.append : ∀ {d e : List D} {v w : List V}, Rps K F d v → Rps K F e w → Rps K F (d ++ e) (v ++ w)
  | [], e, v, w, h, k => by rw [Rps] at h; subst h; exact k
  | d :: ds, e, v, w, h, k => by
    rw [Rps] at h
    obtain ⟨v, r, rfl, h2, h3⟩ := h
    rw [List.cons_append, Rps]
    exact ⟨v, r ++ w, rfl, h2, Rps.append h3 k⟩
private theorem Rps.take : ∀ (n : Nat) {d : List D} {v : List V}, Rps K F d v → Rps K F (d.take n) (v.take n)
  | 0, _, _, _ => .nil
  | n + 1, [], v, h => by rw [Rps] at h; subst h; exact .nil
  | n + 1, d :: ds, v, h => by
    rw [Rps] at h
    obtain ⟨v, r, rfl, h2, h3⟩ := h
    exact .cons h2 (Rps.take n h3)
private theorem Rps.drop : ∀ (n : Nat) {d : List D} {v : List V}, Rps K F d v → Rps K F (d.drop n) (v.drop n)
  | 0, _, _, h => h
  | n + 1, [], v, h => by rw [Rps] at h; subst h; exact .nil
  | n + 1, d :: ds, v, h => by
    rw [Rps] at h
    obtain ⟨v, r, rfl, h2, h3⟩ := h
    exact Rps.drop n h3
private theorem Rps.set {x : D} {y : V} (hx : Rp K F x y) : ∀ (n : Nat) {d : List D} {v : List V}, Rps K F d v → Rps K F (d.set n x) (v.set n y)
  | _, [], v, h => by rw [Rps] at h; subst h; exact .nil
  | 0, d :: ds, v, h => by
    rw [Rps] at h
    obtain ⟨v, r, rfl, h2, h3⟩ := h
    exact .cons hx h3
  | n + 1, d :: ds, v, h => by
    rw [Rps] at h
    obtain ⟨v, r, rfl, h2, h3⟩ := h
    exact .cons h2 (Rps.set hx n h3)
end
inductive U where
  | d (x : D) | adr (p : Addr) | tup (us : List U) | ins (C : Addr) (ns : List Str) (ds : List D)
mutual
noncomputable def RU (K : PySem.W.Frag) (F : Hp) : U → V → Prop
  | .d x, v => Rp K F x v
  | .adr p, v => v = .ref p
  | .ins C ns ds, v => ∃ a dx vs, v = .ref a ∧ F a = some (.ins C dx (ns.zip vs)) ∧ Rps K F ds vs
  | .tup us, v => ∃ a vs, v = .ref a ∧ SqT K F a vs ∧ RUs K F us vs
noncomputable def RUs (K : PySem.W.Frag) (F : Hp) : List U → List V → Prop
  | [], vs => vs = []
  | u :: us, vs => ∃ v r, vs = v :: r ∧ RU K F u v ∧ RUs K F us r
end
section
variable {K : PySem.W.Frag} {F F' H : Hp}
mutual
private theorem RU.same (e : Same F F') : ∀ {u : U} {v : V}, RU K F u v → RU K F' u v
  | .d _, _, h => by rw [RU] at *; exact Rp.same e h
  | .adr _, _, h => by rw [RU] at *; exact h
  | .ins _ _ _, _, h => by
    rw [RU] at *
    obtain ⟨a, dx, vs, h1, h2, h3⟩ := h
    exact ⟨a, dx, vs, h1, e _ _ h2, Rps.same e h3⟩
  | .tup us, _, h => by
    rw [RU] at *
    obtain ⟨a, vs, h1, h2, h3⟩ := h
    exact ⟨a, vs, h1, sqT_same e h2, RUs.same e h3⟩
private theorem RUs.same (e : Same F F') : ∀ {u : List U} {v : List V}, RUs K F u v → RUs K F' u v
  | [], _, h => by rw [RUs] at *; exact h
  | u :: us, _, h => by
    rw [RUs] at *
    obtain ⟨v, r, h1, h2, h3⟩ := h
    exact ⟨v, r, h1, RU.same e h2, RUs.same e h3⟩
end
private theorem RUs.nil : RUs K F [] [] := by rw [RUs]
private theorem RUs.cons {u : U} {v : V} {us : List U} {vs : List V} (h : RU K F u v) (k : RUs K F us vs) : RUs K F (u :: us) (v :: vs) := by
  rw [RUs]; exact ⟨v, vs, rfl, h, k⟩
private theorem RUs.length : ∀ {d : List U} {v : List V}, RUs K F d v → d.length = v.length
  | [], v, h => by rw [RUs] at h; subst h; rfl
  | d :: ds, v, h => by
    rw [RUs] at h
    obtain ⟨v, r, rfl, h2, h3⟩ := h
    rw [List.length_cons, List.length_cons, RUs.length h3]
private theorem RUs.get : ∀ {d : List U} {v : List V} {i : Nat} {x : U}, RUs K F d v → d[i]? = some x → ∃ y, v[i]? = some y ∧ RU K F x y
  | [], v, i, x, h, e => by simp at e
  | d :: ds, v, 0, x, h, e => by
    rw [RUs] at h
    obtain ⟨v, r, rfl, h2, h3⟩ := h
    simp at e; subst e
    exact ⟨v, rfl, h2⟩
  | d :: ds, v, i + 1, x, h, e => by
    rw [RUs] at h
    obtain ⟨v, r, rfl, h2, h3⟩ := h
    obtain ⟨y, h4, h5⟩ := RUs.get (i := i) (x := x) h3 (by simpa using e)
    exact ⟨y, by simpa using h4, h5⟩
private theorem RUs.append : ∀ {d e : List U} {v w : List V}, RUs K F d v → RUs K F e w → RUs K F (d ++ e) (v ++ w)
  | [], e, v, w, h, k => by rw [RUs] at h; subst h; exact k
  | d :: ds, e, v, w, h, k => by
    rw [RUs] at h
    obtain ⟨v, r, rfl, h2, h3⟩ := h
    rw [List.cons_append, RUs]
    exact ⟨v, r ++ w, rfl, h2, RUs.append h3 k⟩
private theorem RUs.ofD : ∀ {ds : List D} {vs : List V}, Rps K F ds vs → RUs K F (ds.map U.d) vs
  | [], vs, h => by rw [Rps] at h; subst h; exact .nil
  | d :: ds, vs, h => by
    rw [Rps] at h
    obtain ⟨v, r, rfl, h2, h3⟩ := h
    exact .cons (by rw [RU]; exact h2) (RUs.ofD h3)
end
section
variable {X : Cx} {pins : List (Addr × Obj)} {σ : L2.St} {H : Hp} {s : Shared}
mutual
private theorem Rp.inj (I : Inv X pins σ H s) : ∀ {d e : D} {v : V}, Rp X.K H d v → Rp X.K H e v → d = e
  | .non, e, v, h, k => by
    rw [Rp] at h; subst h
    cases e <;> rw [Rp] at k <;> first | (obtain ⟨_, _, k, _⟩ := k; cases k; done) | rfl | (cases k; done)
  | .bl _, e, v, h, k => by
    rw [Rp] at h; subst h
    cases e <;> rw [Rp] at k <;> first | (obtain ⟨_, _, k, _⟩ := k; cases k; done) | (cases k; rfl) | (cases k; done)
  | .int _, e, v, h, k => by
    rw [Rp] at h; subst h
    cases e <;> rw [Rp] at k <;> first | (obtain ⟨_, _, k, _⟩ := k; cases k; done) | (cases k; rfl) | (cases k; done)
  | .str _, e, v, h, k => by
    rw [Rp] at h; subst h
    cases e <;> rw [Rp] at k <;> first | (obtain ⟨_, _, k, _⟩ := k; cases k; done) | (cases k; rfl) | (cases k; done)
  | .tup ds, e, v, h, k => by
    rw [Rp] at h
    obtain ⟨a, vs, rfl, h2, h3⟩ := h
    cases e <;> rw [Rp] at k
    case tup es =>
      obtain ⟨b, ws, e1, k2, k3⟩ := k
      cases e1
      have := I.tuple_inj h2 k2
      subst this
      rw [Rps.inj I h3 k3]
    case lst es =>
      obtain ⟨b, ws, e1, k2, k3⟩ := k
      cases e1
      obtain ⟨_, _, ⟨o, q1, q2, _⟩, _⟩ := I.tuple h2
      obtain ⟨_, _, ⟨o', n', p1, p2, _⟩, _⟩ := I.list (.inl k2)
      rw [q1] at p1
      cases p1
      rw [q2] at p2
      simp at p2
    all_goals cases k
  | .lst ds, e, v, h, k => by
    rw [Rp] at h
    obtain ⟨a, vs, rfl, h2, h3⟩ := h
    cases e <;> rw [Rp] at k
    case lst es =>
      obtain ⟨b, ws, e1, k2, k3⟩ := k
      cases e1
      have := I.list_inj (.inl h2) (.inl k2)
      subst this
      rw [Rps.inj I h3 k3]
    case tup es =>
      obtain ⟨b, ws, e1, k2, k3⟩ := k
      cases e1
      obtain ⟨_, _, ⟨o, q1, q2, _⟩, _⟩ := I.tuple k2
      obtain ⟨_, _, ⟨o', n', p1, p2, _⟩, _⟩ := I.list (.inl h2)
      rw [q1] at p1
      cases p1
      rw [q2] at p2
      simp at p2
    all_goals cases k
private theorem Rps.inj (I : Inv X pins σ H s) : ∀ {d e : List D} {v : List V}, Rps X.K H d v → Rps X.K H e v → d = e
  | [], e, v, h, k => by
    rw [Rps] at h; subst h
    cases e with
    | nil => rfl
    | cons => rw [Rps] at k; obtain ⟨_, _, k, _⟩ := k; cases k
  | d :: ds, e, v, h, k => by
    rw [Rps] at h
    obtain ⟨v, r, rfl, h2, h3⟩ := h
    cases e with
    | nil => rw [Rps] at k; cases k
    | cons e es =>
      rw [Rps] at k
      obtain ⟨v', r', k1, k2, k3⟩ := k
      cases k1
      rw [Rp.inj I h2 k2, Rps.inj I h3 k3]
end
private theorem rp_list {a : Addr} {vs : List V} (I : Inv X pins σ H s) (h : Rd H a (.lst vs)) : ∃ its : List Value, Vals vs its ∧ s.heap.IsList a its.toArray := by
  obtain ⟨its, r, p, _⟩ := I.list (.inl h)
  exact ⟨its, r, p.isList⟩
private theorem rp_tuple {a : Addr} {vs : List V} (I : Inv X pins σ H s) (h : SqT X.K H a vs) : ∃ its : List Value, Vals vs its ∧ s.heap.IsTuple a its.toArray := by
  obtain ⟨its, r, p, _⟩ := I.tuple h
  exact ⟨its, r, p⟩
open SeqAt
private theorem eq_items4 {A : Around} {ds es : List D} {vs ws : List V} {us ts : List Value} (hd : Rps X.K H ds vs) (he : Rps X.K H es ws) (r : Vals vs us) (q : Vals ws ts)
    (ih : ∀ (i : Nat) (d e : D), ds[i]? = some d → es[i]? = some e → ∀ x y u v, Rp X.K H d x → Rp X.K H e y → RelV x u → RelV y v → EqAt A s u v (peq d e)) :
    ∀ j (h1 : j < us.toArray.size) (h2 : j < ts.toArray.size), EqAt A s us.toArray[j] ts.toArray[j] (peq (ds.getD j .non) (es.getD j .non)) := by
  intro j h1 h2
  have l1 : ds.length = us.length := hd.length.trans r.length
  have l2 : es.length = ts.length := he.length.trans q.length
  have h1' : j < ds.length := by rw [l1]; simpa using h1
  have h2' : j < es.length := by rw [l2]; simpa using h2
  have e1 : ds[j]? = some ds[j] := List.getElem?_eq_getElem h1'
  have e2 : es[j]? = some es[j] := List.getElem?_eq_getElem h2'
  obtain ⟨x, hx, rx⟩ := hd.get e1
  obtain ⟨y, hy, ry⟩ := he.get e2
  obtain ⟨u, hu, ru⟩ := r.get hx
  obtain ⟨v, hv, rv⟩ := q.get hy
  have g1 : us.toArray[j] = u := by
    have : us[j]? = some us[j] := List.getElem?_eq_getElem (by simpa using h1)
    rw [this] at hu
    simpa using hu
  have g2 : ts.toArray[j] = v := by
    have : ts[j]? = some ts[j] := List.getElem?_eq_getElem (by simpa using h2)
    rw [this] at hv
    simpa using hv
  rw [g1, g2, List.getD_eq_getElem?_getD, List.getD_eq_getElem?_getD, e1, e2]
  exact ih j _ _ e1 e2 x y u v rx ry ru rv
private theorem deep4 {n : Nat} (I : Inv X pins σ H s) : ∀ (A : Around) (d e : D) (x y : V) (u v : Value), dep d ≤ n → A.units + n < cLine → Rp X.K H d x → Rp X.K H e y → RelV x u → RelV y v →
    EqAt A s u v (peq d e) ∧ RcAt A s u v (peq d e) ∧ RcNeAt A s u v (!peq d e) := by
  induction n with
  | zero =>
    intro A d e x y u v hn hu hd he ru rv
    cases d with
    | tup ds => rw [dep] at hn; omega
    | lst ds => rw [dep] at hn; omega
    | non =>
      rw [Rp] at hd; subst hd; cases ru
      cases e with
      | non => rw [Rp] at he; subst he; cases rv; simp only [peq]; exact ⟨EqAt.same _, RcAt.none_none, RcNeAt.none_none⟩
      | bl b => rw [Rp] at he; subst he; cases rv; simp only [peq]; exact ⟨EqAt.none_bool _, RcAt.none_bool _, RcNeAt.none_bool _⟩
      | int b => rw [Rp] at he; subst he; obtain ⟨t, rfl⟩ := rv; simp only [peq]; exact ⟨EqAt.none_int _ _, RcAt.none_int _ _, RcNeAt.none_int _ _⟩
      | str b => rw [Rp] at he; subst he; obtain ⟨t, rfl⟩ := rv; simp only [peq]; exact ⟨EqAt.none_str _ _, RcAt.none_str _ _, RcNeAt.none_str _ _⟩
      | tup es =>
        rw [Rp] at he; obtain ⟨a, vs, rfl, h2, _⟩ := he; cases rv
        obtain ⟨its, _, ht⟩ := rp_tuple I h2
        simp only [peq]; exact ⟨EqAt.none_tuple ht (Nat.lt_of_le_of_lt (Nat.le_add_right _ _) hu), RcAt.none_tuple ht (Nat.lt_of_le_of_lt (Nat.le_add_right _ _) hu), RcNeAt.none_tuple ht (Nat.lt_of_le_of_lt (Nat.le_add_right _ _) hu)⟩
      | lst es =>
        rw [Rp] at he; obtain ⟨a, vs, rfl, h2, _⟩ := he; cases rv
        obtain ⟨its, _, ht⟩ := rp_list I h2
        simp only [peq]; exact ⟨EqAt.none_list ht (Nat.lt_of_le_of_lt (Nat.le_add_right _ _) hu), RcAt.none_list ht (Nat.lt_of_le_of_lt (Nat.le_add_right _ _) hu), RcNeAt.none_list ht (Nat.lt_of_le_of_lt (Nat.le_add_right _ _) hu)⟩
    | bl c =>
      rw [Rp] at hd; subst hd; cases ru
      cases e with
      | non => rw [Rp] at he; subst he; cases rv; simp only [peq]; exact ⟨EqAt.bool_none _, RcAt.bool_none _, RcNeAt.bool_none _⟩
      | bl b => rw [Rp] at he; subst he; cases rv; simp only [peq]; exact ⟨EqAt.bool_bool _ _, RcAt.bool_bool _ _, RcNeAt.bool_bool _ _⟩
      | int b => rw [Rp] at he; subst he; obtain ⟨t, rfl⟩ := rv; simp only [peq]; exact ⟨EqAt.bool_int _ _ _, RcAt.bool_int _ _ _, RcNeAt.bool_int _ _ _⟩
      | str b => rw [Rp] at he; subst he; obtain ⟨t, rfl⟩ := rv; simp only [peq]; exact ⟨EqAt.bool_str _ _ _, RcAt.bool_str _ _ _, RcNeAt.bool_str _ _ _⟩
      | tup es =>
        rw [Rp] at he; obtain ⟨a, vs, rfl, h2, _⟩ := he; cases rv
        obtain ⟨its, _, ht⟩ := rp_tuple I h2
        simp only [peq]; exact ⟨EqAt.bool_tuple _ ht (Nat.lt_of_le_of_lt (Nat.le_add_right _ _) hu), RcAt.bool_tuple _ ht (Nat.lt_of_le_of_lt (Nat.le_add_right _ _) hu), RcNeAt.bool_tuple _ ht (Nat.lt_of_le_of_lt (Nat.le_add_right _ _) hu)⟩
      | lst es =>
        rw [Rp] at he; obtain ⟨a, vs, rfl, h2, _⟩ := he; cases rv
        obtain ⟨its, _, ht⟩ := rp_list I h2
        simp only [peq]; exact ⟨EqAt.bool_list _ ht (Nat.lt_of_le_of_lt (Nat.le_add_right _ _) hu), RcAt.bool_list _ ht (Nat.lt_of_le_of_lt (Nat.le_add_right _ _) hu), RcNeAt.bool_list _ ht (Nat.lt_of_le_of_lt (Nat.le_add_right _ _) hu)⟩
    | int c =>
      rw [Rp] at hd; subst hd; obtain ⟨t', rfl⟩ := ru
      cases e with
      | non => rw [Rp] at he; subst he; cases rv; simp only [peq]; exact ⟨EqAt.int_none _ _, RcAt.int_none _ _, RcNeAt.int_none _ _⟩
      | bl b => rw [Rp] at he; subst he; cases rv; simp only [peq]; exact ⟨EqAt.int_bool _ _ _, RcAt.int_bool _ _ _, RcNeAt.int_bool _ _ _⟩
      | int b => rw [Rp] at he; subst he; obtain ⟨t, rfl⟩ := rv; simp only [peq]; exact ⟨EqAt.int_int _ _ _ _, RcAt.int_int _ _ _ _, RcNeAt.int_int _ _ _ _⟩
      | str b => rw [Rp] at he; subst he; obtain ⟨t, rfl⟩ := rv; simp only [peq]; exact ⟨EqAt.int_str _ _ _ _, RcAt.int_str _ _ _ _, RcNeAt.int_str _ _ _ _⟩
      | tup es =>
        rw [Rp] at he; obtain ⟨a, vs, rfl, h2, _⟩ := he; cases rv
        obtain ⟨its, _, ht⟩ := rp_tuple I h2
        simp only [peq]; exact ⟨EqAt.int_tuple _ _ ht (Nat.lt_of_le_of_lt (Nat.le_add_right _ _) hu), RcAt.int_tuple _ _ ht (Nat.lt_of_le_of_lt (Nat.le_add_right _ _) hu), RcNeAt.int_tuple _ _ ht (Nat.lt_of_le_of_lt (Nat.le_add_right _ _) hu)⟩
      | lst es =>
        rw [Rp] at he; obtain ⟨a, vs, rfl, h2, _⟩ := he; cases rv
        obtain ⟨its, _, ht⟩ := rp_list I h2
        simp only [peq]; exact ⟨EqAt.int_list _ _ ht (Nat.lt_of_le_of_lt (Nat.le_add_right _ _) hu), RcAt.int_list _ _ ht (Nat.lt_of_le_of_lt (Nat.le_add_right _ _) hu), RcNeAt.int_list _ _ ht (Nat.lt_of_le_of_lt (Nat.le_add_right _ _) hu)⟩
    | str c =>
      rw [Rp] at hd; subst hd; obtain ⟨t', rfl⟩ := ru
      cases e with
      | non => rw [Rp] at he; subst he; cases rv; simp only [peq]; exact ⟨EqAt.str_none _ _, RcAt.str_none _ _, RcNeAt.str_none _ _⟩
      | bl b => rw [Rp] at he; subst he; cases rv; simp only [peq]; exact ⟨EqAt.str_bool _ _ _, RcAt.str_bool _ _ _, RcNeAt.str_bool _ _ _⟩
      | int b => rw [Rp] at he; subst he; obtain ⟨t, rfl⟩ := rv; simp only [peq]; exact ⟨EqAt.str_int _ _ _ _, RcAt.str_int _ _ _ _, RcNeAt.str_int _ _ _ _⟩
      | str b => rw [Rp] at he; subst he; obtain ⟨t, rfl⟩ := rv; simp only [peq]; exact ⟨EqAt.str_str _ _ _ _, RcAt.str_str _ _ _ _, RcNeAt.str_str _ _ _ _⟩
      | tup es =>
        rw [Rp] at he; obtain ⟨a, vs, rfl, h2, _⟩ := he; cases rv
        obtain ⟨its, _, ht⟩ := rp_tuple I h2
        simp only [peq]; exact ⟨EqAt.str_tuple _ _ ht (Nat.lt_of_le_of_lt (Nat.le_add_right _ _) hu), RcAt.str_tuple _ _ ht (Nat.lt_of_le_of_lt (Nat.le_add_right _ _) hu), RcNeAt.str_tuple _ _ ht (Nat.lt_of_le_of_lt (Nat.le_add_right _ _) hu)⟩
      | lst es =>
        rw [Rp] at he; obtain ⟨a, vs, rfl, h2, _⟩ := he; cases rv
        obtain ⟨its, _, ht⟩ := rp_list I h2
        simp only [peq]; exact ⟨EqAt.str_list _ _ ht (Nat.lt_of_le_of_lt (Nat.le_add_right _ _) hu), RcAt.str_list _ _ ht (Nat.lt_of_le_of_lt (Nat.le_add_right _ _) hu), RcNeAt.str_list _ _ ht (Nat.lt_of_le_of_lt (Nat.le_add_right _ _) hu)⟩
  | succ n ih =>
    intro A d e x y u v hn hu hd he ru rv
    by_cases hz : dep d ≤ n
    · exact ih A d e x y u v hz (by omega) hd he ru rv
    cases d with
    | non => simp only [dep] at hz; omega
    | bl _ => simp only [dep] at hz; omega
    | int _ => simp only [dep] at hz; omega
    | str _ => simp only [dep] at hz; omega
    | tup ds =>
      rw [dep] at hn
      have hd0 := hd
      rw [Rp] at hd; obtain ⟨a, vs, rfl, h2, hs⟩ := hd; cases ru
      obtain ⟨its, rI, ht⟩ := rp_tuple I h2
      cases e with
      | non => rw [Rp] at he; subst he; cases rv; simp only [peq]; exact ⟨EqAt.tuple_none ht (Nat.lt_of_le_of_lt (Nat.le_add_right _ _) hu), RcAt.tuple_none ht (Nat.lt_of_le_of_lt (Nat.le_add_right _ _) hu), RcNeAt.tuple_none ht (Nat.lt_of_le_of_lt (Nat.le_add_right _ _) hu)⟩
      | bl b => rw [Rp] at he; subst he; cases rv; simp only [peq]; exact ⟨EqAt.tuple_bool _ ht (Nat.lt_of_le_of_lt (Nat.le_add_right _ _) hu), RcAt.tuple_bool _ ht (Nat.lt_of_le_of_lt (Nat.le_add_right _ _) hu), RcNeAt.tuple_bool _ ht (Nat.lt_of_le_of_lt (Nat.le_add_right _ _) hu)⟩
      | int b => rw [Rp] at he; subst he; obtain ⟨t, rfl⟩ := rv; simp only [peq]; exact ⟨EqAt.tuple_int _ _ ht (Nat.lt_of_le_of_lt (Nat.le_add_right _ _) hu), RcAt.tuple_int _ _ ht (Nat.lt_of_le_of_lt (Nat.le_add_right _ _) hu), RcNeAt.tuple_int _ _ ht (Nat.lt_of_le_of_lt (Nat.le_add_right _ _) hu)⟩
      | str b => rw [Rp] at he; subst he; obtain ⟨t, rfl⟩ := rv; simp only [peq]; exact ⟨EqAt.tuple_str _ _ ht (Nat.lt_of_le_of_lt (Nat.le_add_right _ _) hu), RcAt.tuple_str _ _ ht (Nat.lt_of_le_of_lt (Nat.le_add_right _ _) hu), RcNeAt.tuple_str _ _ ht (Nat.lt_of_le_of_lt (Nat.le_add_right _ _) hu)⟩
      | lst es =>
        rw [Rp] at he; obtain ⟨b, ws, rfl, k2, _⟩ := he; cases rv
        obtain ⟨jts, _, hl⟩ := rp_list I k2
        simp only [peq]; exact ⟨EqAt.tuple_list ht hl (by omega), RcAt.tuple_list ht hl (by omega), RcNeAt.tuple_list ht hl (by omega)⟩
      | tup es =>
        have he0 := he
        rw [Rp] at he; obtain ⟨b, ws, rfl, k2, ks⟩ := he; cases rv
        obtain ⟨jts, rJ, hj⟩ := rp_tuple I k2
        have items := eq_items4 (A := A.in1) (s := s) hs ks rI rJ fun i d e e1 e2 x y u v h1 h2 h3 h4 => (ih A.in1 d e x y u v (by have := dep_le e1; omega) (by rw [in1_units]; omega) h1 h2 h3 h4).1
        have rc := RcAt.tuples ht hj (by omega) items
        rw [seq_bool (hs.length.trans rI.length) (ks.length.trans rJ.length)] at rc
        have rn := RcNeAt.tuples ht hj (by omega) items
        rw [seq_bool (hs.length.trans rI.length) (ks.length.trans rJ.length)] at rn
        simp only [peq]
        refine ⟨?_, rc, rn⟩
        by_cases ab : a = b
        · subst ab
          have := Rp.inj I hd0 he0
          injection this with this
          subst this
          rw [peqs_refl]
          exact EqAt.same _
        · exact EqAt.of_refs ab rc
    | lst ds =>
      rw [dep] at hn
      have hd0 := hd
      rw [Rp] at hd; obtain ⟨a, vs, rfl, h2, hs⟩ := hd; cases ru
      obtain ⟨its, rI, ht⟩ := rp_list I h2
      cases e with
      | non => rw [Rp] at he; subst he; cases rv; simp only [peq]; exact ⟨EqAt.list_none ht (Nat.lt_of_le_of_lt (Nat.le_add_right _ _) hu), RcAt.list_none ht (Nat.lt_of_le_of_lt (Nat.le_add_right _ _) hu), RcNeAt.list_none ht (Nat.lt_of_le_of_lt (Nat.le_add_right _ _) hu)⟩
      | bl b => rw [Rp] at he; subst he; cases rv; simp only [peq]; exact ⟨EqAt.list_bool _ ht (Nat.lt_of_le_of_lt (Nat.le_add_right _ _) hu), RcAt.list_bool _ ht (Nat.lt_of_le_of_lt (Nat.le_add_right _ _) hu), RcNeAt.list_bool _ ht (Nat.lt_of_le_of_lt (Nat.le_add_right _ _) hu)⟩
      | int b => rw [Rp] at he; subst he; obtain ⟨t, rfl⟩ := rv; simp only [peq]; exact ⟨EqAt.list_int _ _ ht (Nat.lt_of_le_of_lt (Nat.le_add_right _ _) hu), RcAt.list_int _ _ ht (Nat.lt_of_le_of_lt (Nat.le_add_right _ _) hu), RcNeAt.list_int _ _ ht (Nat.lt_of_le_of_lt (Nat.le_add_right _ _) hu)⟩
      | str b => rw [Rp] at he; subst he; obtain ⟨t, rfl⟩ := rv; simp only [peq]; exact ⟨EqAt.list_str _ _ ht (Nat.lt_of_le_of_lt (Nat.le_add_right _ _) hu), RcAt.list_str _ _ ht (Nat.lt_of_le_of_lt (Nat.le_add_right _ _) hu), RcNeAt.list_str _ _ ht (Nat.lt_of_le_of_lt (Nat.le_add_right _ _) hu)⟩
      | tup es =>
        rw [Rp] at he; obtain ⟨b, ws, rfl, k2, _⟩ := he; cases rv
        obtain ⟨jts, _, hl⟩ := rp_tuple I k2
        simp only [peq]; exact ⟨EqAt.list_tuple ht hl (by omega), RcAt.list_tuple ht hl (by omega), RcNeAt.list_tuple ht hl (by omega)⟩
      | lst es =>
        have he0 := he
        rw [Rp] at he; obtain ⟨b, ws, rfl, k2, ks⟩ := he; cases rv
        obtain ⟨jts, rJ, hj⟩ := rp_list I k2
        have l1 := hs.length.trans rI.length
        have l2 := ks.length.trans rJ.length
        have items := eq_items4 (A := A.in1) (s := s) hs ks rI rJ fun i d e e1 e2 x y u v h1 h2 h3 h4 => (ih A.in1 d e x y u v (by have := dep_le e1; omega) (by rw [in1_units]; omega) h1 h2 h3 h4).1
        have key : RcAt A s (.ref a) (.ref b) (peqs ds es) ∧ RcNeAt A s (.ref a) (.ref b) (!peqs ds es) := by
          by_cases hl : ds.length = es.length
          · have hz : its.toArray.size = jts.toArray.size := by simp only [List.size_toArray]; omega
            have e1 : its.toArray.size = ds.length := by simp [l1]
            have q1 := RcAt.lists ht hj hz (by omega) items
            have q2 := RcNeAt.lists ht hj hz (by omega) items
            rw [e1] at q1 q2
            rw [peqs_all ds es hl]
            exact ⟨q1, q2⟩
          · have hz : (its.toArray.size != jts.toArray.size) = true := by
              rw [bne_iff_ne]
              simp only [List.size_toArray]
              omega
            rw [peqs_len ds es hl]
            exact ⟨RcAt.lists_lengths ht hj hz (by omega), RcNeAt.lists_lengths ht hj hz (by omega)⟩
        simp only [peq]
        refine ⟨?_, key.1, key.2⟩
        by_cases ab : a = b
        · subst ab
          have := Rp.inj I hd0 he0
          injection this with this
          subst this
          rw [peqs_refl]
          exact EqAt.same _
        · exact EqAt.of_refs ab key.1
end
end L4
set_option Elab.async false
set_option linter.all false
set_option maxRecDepth 100000
namespace L4
open PySem PySem.Spec PyProof.Rows L2 L3
inductive Ent where
  | un | sh (d : D) | ow (ds : List D) | rf (p : Addr) | ut (u : U)
inductive MO where
  | lst (ds : List D) | dct (kvs : List (Key × D)) | xc (C : Addr) | op (φ : HO → Prop) | own (us : List U) | tk (kvs : List (D × D)) | tab (pos : Pos) (q : Str)
noncomputable abbrev Rho := List Ent
noncomputable abbrev Mm := Addr → Option MO
noncomputable def mset (M : Mm) (p : Addr) (o : MO) : Mm := fun q => if q = p then some o else M q
private theorem mset_same {M : Mm} {p : Addr} {o : MO} : mset M p o p = some o := by unfold mset; rw [if_pos rfl]
private theorem mset_ne {M : Mm} {p q : Addr} {o : MO} (h : q ≠ p) : mset M p o q = M q := by unfold mset; rw [if_neg h]
noncomputable def KVp (K : PySem.W.Frag) (F : Hp) (kvs : List (Key × D)) (ws : List (Key × V)) : Prop := Paired (fun (p : Key × D) (q : Key × V) => p.1 = q.1 ∧ Rp K F p.2 q.2) kvs ws
mutual
noncomputable def kOk : D → Bool
  | .int _ => true
  | .tup ds => kOks ds
  | .non => false
  | .bl _ => false
  | .str _ => false
  | .lst _ => false
noncomputable def kOks : List D → Bool
  | [] => true
  | d :: ds => kOk d && kOks ds
end
noncomputable def TKp (K : PySem.W.Frag) (F : Hp) (kvs : List (D × D)) (xs : List (D × Addr × Value)) : Prop := Paired (fun (q : D × D) (x : D × Addr × Value) => q.1 = x.1 ∧ (kOk q.1 = true ∧ dep q.1 ≤ 8) ∧ Rp K F q.1 (.ref x.2.1) ∧ ∃ v, RelV v x.2.2 ∧ Rp K F q.2 v) kvs xs
private theorem TKp.same {K : PySem.W.Frag} {F F' : Hp} (e : Same F F') {kvs : List (D × D)} {xs : List (D × Addr × Value)} (h : TKp K F kvs xs) : TKp K F' kvs xs :=
  Paired.mapP h fun _ _ z => ⟨z.1, z.2.1, Rp.same e z.2.2.1, z.2.2.2.elim fun v q => ⟨v, q.1, Rp.same e q.2⟩⟩
noncomputable def MOk (K : PySem.W.Frag) (F H : Hp) (p : Addr) : MO → Prop
  | .lst ds => ∃ vs, H p = some (.lst vs) ∧ Rps K F ds vs
  | .dct kvs => ∃ ws, H p = some (.dK ws) ∧ KVp K F kvs ws
  | .xc C => H p = some (.ext (IsX p C))
  | .op φ => ∃ o, H p = some o ∧ φ o
  | .own us => ∃ vs, H p = some (.lst vs) ∧ RUs K F us vs
  | .tk kvs => ∃ xs, H p = some (.ext (IsDT p xs)) ∧ TKp K F kvs xs
  | .tab pos q => ∃ ps, H p = some (.tbl ps) ∧ TabOk F pos q ps
structure AgM (K : PySem.W.Frag) (Z F : Hp) (M : Mm) (H : Hp) : Prop where
  sm : Same F H
  zz : ∀ p o, Z p = some o → H p = some o ∧ F p = none ∧ M p = none
  mo : ∀ p o, M p = some o → F p = none ∧ MOk K F H p o
noncomputable def EOk (K : PySem.W.Frag) (Z F : Hp) (M : Mm) (H : Hp) : Ent → Option V → Prop
  | .un, _ => True
  | .sh d, o => ∃ v, o = some v ∧ Rp K F d v
  | .rf p, o => o = some (.ref p)
  | .ut u, o => ∃ v, o = some v ∧ RU K F u v
  | .ow ds, o => ∃ p vs, o = some (.ref p) ∧ H p = some (.lst vs) ∧ F p = none ∧ M p = none ∧ Z p = none ∧ Rps K F ds vs
structure Ag (K : PySem.W.Frag) (Z F : Hp) (M : Mm) (H : Hp) (ρ : Rho) (σ : L2.St) : Prop where
  m : AgM K Z F M H
  len : ρ.length = σ.length
  en : ∀ (i : Nat) (e : Ent), ρ[i]? = some e → EOk K Z F M H e (σ[i]?).join
  di : ∀ (i j : Nat) (ds es : List D) (p : Addr), i ≠ j → ρ[i]? = some (.ow ds) → ρ[j]? = some (.ow es) → σ[i]? = some (some (.ref p)) → σ[j]? ≠ some (some (.ref p))
private theorem KVp.same {K : PySem.W.Frag} {F F' : Hp} (e : Same F F') {kvs : List (Key × D)} {ws : List (Key × V)} (h : KVp K F kvs ws) : KVp K F' kvs ws := Paired.mapP h fun _ _ z => ⟨z.1, Rp.same e z.2⟩
private theorem MOk.same {K : PySem.W.Frag} {F F' H H' : Hp} {p : Addr} {o : MO} (e : Same F F') (h : H' p = H p) (k : MOk K F H p o) : MOk K F' H' p o := by
  cases o with
  | lst ds => obtain ⟨vs, a, b⟩ := k; exact ⟨vs, h.trans a, Rps.same e b⟩
  | dct kvs => obtain ⟨vs, a, b⟩ := k; exact ⟨vs, h.trans a, KVp.same e b⟩
  | xc C => exact h.trans k
  | op φ => obtain ⟨o, a, b⟩ := k; exact ⟨o, h.trans a, b⟩
  | own us => obtain ⟨vs, a, b⟩ := k; exact ⟨vs, h.trans a, RUs.same e b⟩
  | tk kvs => obtain ⟨vs, a, b⟩ := k; exact ⟨vs, h.trans a, TKp.same e b⟩
  | tab pos q =>
    obtain ⟨ps, a, b1, b2⟩ := k
    refine ⟨ps, h.trans a, b1, ?_⟩
    rcases b2 with b2 | ⟨c, b3, b4⟩
    · exact .inl b2
    · exact .inr ⟨c, b3, e _ _ b4⟩
private theorem MOk.there {K : PySem.W.Frag} {F H : Hp} {p : Addr} {o : MO} (k : MOk K F H p o) : ∃ u, H p = some u := by
  cases o with
  | lst ds => obtain ⟨vs, a, b⟩ := k; exact ⟨_, a⟩
  | dct kvs => obtain ⟨vs, a, b⟩ := k; exact ⟨_, a⟩
  | xc C => exact ⟨_, k⟩
  | op φ => obtain ⟨o, a, b⟩ := k; exact ⟨o, a⟩
  | own us => obtain ⟨vs, a, b⟩ := k; exact ⟨_, a⟩
  | tk kvs => obtain ⟨vs, a, b⟩ := k; exact ⟨_, a⟩
  | tab pos q => obtain ⟨ps, a, b⟩ := k; exact ⟨_, a⟩
section
variable {K : PySem.W.Frag} {Z F F' H H' : Hp} {M : Mm} {ρ : Rho} {σ : L2.St}
private theorem AgM.grow (a : AgM K Z F M H) (hF : Same F F') (hH : Same H H') (sm : Same F' H') (new : ∀ p, F p = none → H p ≠ none → F' p = none) : AgM K Z F' M H' := by
  refine ⟨sm, fun p o h => ?_, fun p o h => ?_⟩
  · obtain ⟨z1, z2, z3⟩ := a.zz p o h
    exact ⟨hH _ _ z1, new p z2 (by rw [z1]; simp), z3⟩
  obtain ⟨n, k⟩ := a.mo p o h
  obtain ⟨u, hu⟩ := k.there
  refine ⟨new p n (by rw [hu]; simp), k.same hF ?_⟩
  rw [hu]; exact hH _ _ hu
private theorem Ag.grow (a : Ag K Z F M H ρ σ) (hF : Same F F') (hH : Same H H') (sm : Same F' H') (new : ∀ p, F p = none → H p ≠ none → F' p = none) : Ag K Z F' M H' ρ σ := by
  refine ⟨a.m.grow hF hH sm new, a.len, fun i e h => ?_, a.di⟩
  have := a.en i e h
  cases e with
  | un => trivial
  | sh d => obtain ⟨v, h1, h2⟩ := this; exact ⟨v, h1, Rp.same hF h2⟩
  | rf p => exact this
  | ut u => obtain ⟨v, h1, h2⟩ := this; exact ⟨v, h1, RU.same hF h2⟩
  | ow ds => obtain ⟨p, vs, h1, h2, h3, h4, h6, h5⟩ := this; exact ⟨p, vs, h1, hH _ _ h2, new p h3 (by rw [h2]; simp), h4, h6, Rps.same hF h5⟩
private theorem same_upd {p : Addr} {o : HO} (sm : Same F H) (hp : H p = none) : Same (upd F p o) (upd H p o) := fun b u e => by
  by_cases hb : b = p
  · subst hb; rw [upd_same] at *; exact e
  · rw [upd_ne hb] at *; exact sm b u e
private theorem sub_none {p : Addr} (sm : Same F H) (hp : H p = none) : F p = none := by
  cases e : F p with
  | none => rfl
  | some u => rw [sm _ _ e] at hp; cases hp
private theorem Ag.new {p : Addr} {o : HO} (a : Ag K Z F M H ρ σ) (hp : H p = none) : Ag K Z (upd F p o) M (upd H p o) ρ σ :=
  a.grow (Same.new (sub_none a.m.sm hp)) (Same.new hp) (same_upd a.m.sm hp) fun q h1 h2 => by
    have : q ≠ p := fun z => h2 (z ▸ hp)
    rw [upd_ne this]; exact h1
private theorem Ag.newO {p : Addr} {o : HO} (a : Ag K Z F M H ρ σ) (hp : H p = none) : Ag K Z F M (upd H p o) ρ σ :=
  a.grow (Same.refl _) (Same.new hp) (a.m.sm.trans (Same.new hp)) fun q h1 _ => h1
private theorem Ag.put {i : Nat} {e : Ent} {o : Option V} (a : Ag K Z F M H ρ σ) (h : EOk K Z F M H e o) (hd : ∀ (ds : List D) (p : Addr), e = .ow ds → o = some (.ref p) → ∀ (j : Nat) (es : List D), j ≠ i → ρ[j]? = some (.ow es) → σ[j]? ≠ some (some (.ref p))) : Ag K Z F M H (ρ.set i e) (σ.set i o) := by
  refine ⟨a.m, by rw [List.length_set, List.length_set, a.len], fun j e' q => ?_, fun j k ds es p ne q1 q2 q3 => ?_⟩
  · by_cases hj : j = i
    · subst hj
      have hl : j < ρ.length := by
        have := (List.getElem?_eq_some_iff.mp q).1
        rwa [List.length_set] at this
      rw [List.getElem?_set_self hl] at q
      cases q
      rw [List.getElem?_set_self (by rw [← a.len]; exact hl)]
      exact h
    · rw [List.getElem?_set_ne (Ne.symm hj)] at q ⊢
      exact a.en j e' q
  · have hl : ∀ {j : Nat} {x : Ent}, (ρ.set i e)[j]? = some x → j < ρ.length := fun q => by
      have := (List.getElem?_eq_some_iff.mp q).1
      rwa [List.length_set] at this
    by_cases hj : j = i
    · subst hj
      have hk : k ≠ j := Ne.symm ne
      rw [List.getElem?_set_self (hl q1)] at q1
      cases q1
      have hl3 : j < σ.length := by
        have := (List.getElem?_eq_some_iff.mp q3).1
        rwa [List.length_set] at this
      rw [List.getElem?_set_self hl3] at q3
      rw [List.getElem?_set_ne (Ne.symm hk)] at q2 ⊢
      injection q3 with q3
      exact hd ds p rfl q3 k es hk q2
    · by_cases hk : k = i
      · subst hk
        rw [List.getElem?_set_self (hl q2)] at q2
        cases q2
        rw [List.getElem?_set_ne (Ne.symm hj)] at q1 q3
        intro q4
        rw [List.getElem?_set_self (by
          have := (List.getElem?_eq_some_iff.mp q4).1
          rw [List.length_set] at this
          exact this)] at q4
        injection q4 with q4
        exact hd es p rfl q4 j ds hj q1 q3
      · rw [List.getElem?_set_ne (Ne.symm hj)] at q1 q3
        rw [List.getElem?_set_ne (Ne.symm hk)] at q2 ⊢
        exact a.di j k ds es p ne q1 q2 q3
private theorem Ag.set {i : Nat} {d : D} {v : V} (a : Ag K Z F M H ρ σ) (h : Rp K F d v) : Ag K Z F M H (ρ.set i (.sh d)) (σ.set i (some v)) := a.put ⟨v, rfl, h⟩ fun _ _ z => nomatch z
private theorem Ag.setU {i : Nat} {u : U} {v : V} (a : Ag K Z F M H ρ σ) (h : RU K F u v) : Ag K Z F M H (ρ.set i (.ut u)) (σ.set i (some v)) := a.put ⟨v, rfl, h⟩ fun _ _ z => nomatch z
private theorem Ag.setO {i : Nat} {ds : List D} {p : Addr} {vs : List V} (a : Ag K Z F M H ρ σ) (h1 : H p = some (.lst vs)) (h2 : F p = none) (h3 : M p = none) (hz : Z p = none) (h4 : Rps K F ds vs) (h5 : ∀ (j : Nat) (es : List D), ρ[j]? = some (.ow es) → σ[j]? ≠ some (some (.ref p))) : Ag K Z F M H (ρ.set i (.ow ds)) (σ.set i (some (.ref p))) :=
  a.put ⟨p, vs, rfl, h1, h2, h3, hz, h4⟩ fun _ q _ z j es _ hj => by cases z; exact h5 j es hj
private theorem set_id {α : Type} : ∀ {l : List α} {i : Nat} {x : α}, l[i]? = some x → l.set i x = l
  | [], _, _, h => by simp at h
  | _ :: _, 0, _, h => by simp at h; subst h; rfl
  | _ :: l, i + 1, _, h => by rw [List.set_cons_succ, set_id (by simpa using h)]
private theorem Ag.fz {i : Nat} {ds : List D} (a : Ag K Z F M H ρ σ) (h : ρ[i]? = some (.ow ds)) : ∃ F' v, σ[i]? = some (some v) ∧ Same F F' ∧ Rp K F' (.lst ds) v ∧ Ag K Z F' M H (ρ.set i (.sh (.lst ds))) σ := by
  have hi := a.en i _ h
  obtain ⟨p, vs, h1, h2, h3, h4, h6, h5⟩ := hi
  have hs : σ[i]? = some (some (.ref p)) := by
    cases q : σ[i]? with
    | none => rw [q] at h1; cases h1
    | some o => rw [q] at h1; simp at h1; rw [h1]
  have s1 : Same F (upd F p (.lst vs)) := Same.new h3
  have r : Rp K (upd F p (.lst vs)) (.lst ds) (.ref p) := by rw [Rp]; exact ⟨p, vs, rfl, .inl upd_same, Rps.same s1 h5⟩
  refine ⟨upd F p (.lst vs), .ref p, hs, s1, r, ?_⟩
  have s2 : Same (upd F p (.lst vs)) H := fun b u e => by
    by_cases hb : b = p
    · subst hb; rw [upd_same] at e; cases e; exact h2
    · rw [upd_ne hb] at e; exact a.m.sm b u e
  have nm : ∀ q o, M q = some o → q ≠ p := fun q o e z => by rw [z, h4] at e; cases e
  have e2 : σ = σ.set i (some (.ref p)) := (set_id hs).symm
  have hi' : i < ρ.length := (List.getElem?_eq_some_iff.mp h).1
  refine ⟨⟨s2, fun q o e => ?_, fun q o e => ?_⟩, by rw [List.length_set]; exact a.len, fun j e q => ?_, fun j k es fs q ne q1 q2 q3 => ?_⟩
  · obtain ⟨z1, z2, z3⟩ := a.m.zz q o e
    have : q ≠ p := fun z => by rw [z, h6] at e; cases e
    exact ⟨z1, by rw [upd_ne this]; exact z2, z3⟩
  · obtain ⟨z1, z2⟩ := a.m.mo q o e
    exact ⟨by rw [upd_ne (nm q o e)]; exact z1, z2.same s1 rfl⟩
  · by_cases hj : j = i
    · subst hj
      rw [List.getElem?_set_self hi'] at q
      cases q
      exact ⟨.ref p, by rw [hs]; rfl, r⟩
    · rw [List.getElem?_set_ne (Ne.symm hj)] at q
      have := a.en j e q
      cases e with
      | un => trivial
      | sh d => obtain ⟨v, g1, g2⟩ := this; exact ⟨v, g1, Rp.same s1 g2⟩
      | rf p => exact this
      | ut u => obtain ⟨v, g1, g2⟩ := this; exact ⟨v, g1, RU.same s1 g2⟩
      | ow es =>
        obtain ⟨q', ws, g1, g2, g3, g4, g6, g5⟩ := this
        have hne : q' ≠ p := fun z => by
          subst z
          have hj' : σ[j]? = some (some (.ref q')) := by
            cases y : σ[j]? with
            | none => rw [y] at g1; cases g1
            | some o => rw [y] at g1; simp at g1; rw [g1]
          exact a.di i j ds es q' (Ne.symm hj) h q hs hj'
        exact ⟨q', ws, g1, g2, by rw [upd_ne hne]; exact g3, g4, g6, Rps.same s1 g5⟩
  · have n1 : j ≠ i := fun z => by subst z; rw [List.getElem?_set_self hi'] at q1; cases q1
    have n2 : k ≠ i := fun z => by subst z; rw [List.getElem?_set_self hi'] at q2; cases q2
    rw [List.getElem?_set_ne (Ne.symm n1)] at q1
    rw [List.getElem?_set_ne (Ne.symm n2)] at q2
    exact a.di j k es fs q ne q1 q2 q3
end
end L4
set_option Elab.async false
set_option linter.all false
set_option maxRecDepth 100000
namespace L4
open PySem PySem.Spec PyProof.Rows L2 L3
noncomputable abbrev WE := Rho → Mm → (D → Rho → Mm → Prop) → Prop
noncomputable abbrev WT := Rho → Mm → (Bool → Rho → Mm → Prop) → Prop
noncomputable abbrev WA := Rho → Mm → (List D → Rho → Mm → Prop) → Prop
noncomputable abbrev WN := Rho → Mm → (List D → Rho → Mm → Prop) → Prop
noncomputable abbrev WG := D → Rho → Mm → (Rho → Mm → Prop) → Prop
noncomputable abbrev WGs := List D → Rho → Mm → (Rho → Mm → Prop) → Prop
structure WEnds where
  nx : Rho → Mm → Prop
  rt : U → Mm → Prop
  bk : Rho → Mm → Prop := fun _ _ => False
  ct : Rho → Mm → Prop := fun _ _ => False
noncomputable abbrev WS := WEnds → Rho → Mm → Prop
noncomputable def lf (K : PySem.W.Frag) (f : WE) : TE := fun σ H Q => ∃ Z F ρ M P, Ag K Z F M H ρ σ ∧ f ρ M P ∧ ∀ v H' F' d ρ' M', Same F F' → Ag K Z F' M' H' ρ' σ → Rp K F' d v → P d ρ' M' → Q v H'
noncomputable def lfT (K : PySem.W.Frag) (f : WT) : TT := fun σ H Q => ∃ Z F ρ M P, Ag K Z F M H ρ σ ∧ f ρ M P ∧ ∀ b H' F' ρ' M', Same F F' → Ag K Z F' M' H' ρ' σ → P b ρ' M' → Q b H'
noncomputable def lfA (K : PySem.W.Frag) (f : WA) : TA := fun σ H Q => ∃ Z F ρ M P, Ag K Z F M H ρ σ ∧ f ρ M P ∧ ∀ vs H' F' ds ρ' M', Same F F' → Ag K Z F' M' H' ρ' σ → Rps K F' ds vs → P ds ρ' M' → Q vs H'
noncomputable def lfN (K : PySem.W.Frag) (f : WN) : TE := fun σ H Q => ∃ Z F ρ M P, Ag K Z F M H ρ σ ∧ f ρ M P ∧ ∀ p vs H' F' ds ρ' M', Same F F' → Ag K Z F' M' H' ρ' σ → H' p = some (.lst vs) → F' p = none → M' p = none → Z p = none → (∀ (j : Nat) (es : List D), ρ'[j]? = some (.ow es) → σ[j]? ≠ some (some (.ref p))) → Rps K F' ds vs → P ds ρ' M' → Q (.ref p) H'
noncomputable def lfG (K : PySem.W.Frag) (f : WG) : TG := fun v σ H Q => ∃ Z F ρ M d P, Ag K Z F M H ρ σ ∧ Rp K F d v ∧ f d ρ M P ∧ ∀ σ' H' F' ρ' M', Same F F' → Ag K Z F' M' H' ρ' σ' → P ρ' M' → Q σ' H'
noncomputable def lfGs (K : PySem.W.Frag) (f : WGs) : TGs := fun vs σ H Q => ∃ Z F ρ M ds P, Ag K Z F M H ρ σ ∧ Rps K F ds vs ∧ f ds ρ M P ∧ ∀ σ' H' F' ρ' M', Same F F' → Ag K Z F' M' H' ρ' σ' → P ρ' M' → Q σ' H'
structure EndsOk (K : PySem.W.Frag) (Z F : Hp) (E : WEnds) (D' : Ends) : Prop where
  nx : ∀ σ' H' F' ρ' M', Same F F' → Ag K Z F' M' H' ρ' σ' → E.nx ρ' M' → D'.nx σ' H'
  bk : ∀ σ' H' F' ρ' M', Same F F' → Ag K Z F' M' H' ρ' σ' → E.bk ρ' M' → D'.bk σ' H'
  ct : ∀ σ' H' F' ρ' M', Same F F' → Ag K Z F' M' H' ρ' σ' → E.ct ρ' M' → D'.ct σ' H'
  rt : ∀ v H' F' u M', Same F F' → AgM K Z F' M' H' → RU K F' u v → E.rt u M' → D'.rt v H'
noncomputable def lfS (K : PySem.W.Frag) (f : WS) : TS := fun D' σ H => ∃ Z F ρ M E, Ag K Z F M H ρ σ ∧ f E ρ M ∧ EndsOk K Z F E D'
structure JE (X : Cx) (e : Expr) (f : WE) : Prop where
  h : PE X e (lf X.K f)
structure JT (X : Cx) (e : Expr) (f : WT) : Prop where
  h : PT X e (lfT X.K f)
structure JW (X : Cx) (e : Expr) (f : WT) : Prop where
  h : PW X e (lfT X.K f)
structure JA (X : Cx) (es : List Expr) (f : WA) : Prop where
  h : PA X es (lfA X.K f)
structure JN (X : Cx) (e : Expr) (f : WN) : Prop where
  h : PE X e (lfN X.K f)
structure JG (X : Cx) (e : Expr) (f : WG) : Prop where
  h : PG X e (lfG X.K f)
structure JGs (X : Cx) (es : List Expr) (f : WGs) : Prop where
  h : PGs X es (lfGs X.K f)
structure JS (X : Cx) (st : Stmt) (f : WS) : Prop where
  h : PS X st (lfS X.K f)
structure JSs (X : Cx) (st : List Stmt) (f : WS) : Prop where
  h : PSs X st (lfS X.K f)
private theorem imE {X : Cx} {e : Expr} {t t' : TE} (h : PE X e t) (k : ∀ σ H Q, t' σ H Q → t σ H Q) : PE X e t' := fun pins s σ H Q I q => h pins s σ H Q I (k σ H Q q)
private theorem imT {X : Cx} {e : Expr} {t t' : TT} (h : PT X e t) (k : ∀ σ H Q, t' σ H Q → t σ H Q) : PT X e t' := fun pins s σ H Q I q => h pins s σ H Q I (k σ H Q q)
private theorem imW {X : Cx} {e : Expr} {t t' : TT} (h : PW X e t) (k : ∀ σ H Q, t' σ H Q → t σ H Q) : PW X e t' := fun w pins s σ H Q I q => h w pins s σ H Q I (k σ H Q q)
private theorem imA {X : Cx} {e : List Expr} {t t' : TA} (h : PA X e t) (k : ∀ σ H Q, t' σ H Q → t σ H Q) : PA X e t' := fun pos pins s σ H Q I q => h pos pins s σ H Q I (k σ H Q q)
private theorem imS {X : Cx} {st : Stmt} {t t' : TS} (h : PS X st t) (k : ∀ D' σ H, t' D' σ H → t D' σ H) : PS X st t' := fun pins s σ H D' I q => h pins s σ H D' I (k D' σ H q)
private theorem imSs {X : Cx} {st : List Stmt} {t t' : TS} (h : PSs X st t) (k : ∀ D' σ H, t' D' σ H → t D' σ H) : PSs X st t' := fun pins s σ H D' I q => h pins s σ H D' I (k D' σ H q)
private theorem imG {X : Cx} {e : Expr} {t t' : TG} (h : PG X e t) (k : ∀ v σ H Q, t' v σ H Q → t v σ H Q) : PG X e t' := fun pins s σ H v u Q I r q => h pins s σ H v u Q I r (k v σ H Q q)
private theorem imGs {X : Cx} {e : List Expr} {t t' : TGs} (h : PGs X e t) (k : ∀ v σ H Q, t' v σ H Q → t v σ H Q) : PGs X e t' := fun pins s σ H v u Q I r q => h pins s σ H v u Q I r (k v σ H Q q)
inductive Gw (F H : Hp) : Hp → Hp → Prop where
  | rf : Gw F H F H
  | nw {p : Addr} {o : HO} (hp : H p = none) : Gw F H (upd F p o) (upd H p o)
private theorem Gw.same {F H F' H' : Hp} (sm : Same F H) (g : Gw F H F' H') : Same F F' := by
  cases g with
  | rf => exact Same.refl _
  | nw hp => exact Same.new (sub_none sm hp)
private theorem Gw.ag {K : PySem.W.Frag} {Z F H F' H' : Hp} {M : Mm} {ρ : Rho} {σ : L2.St} (a : Ag K Z F M H ρ σ) (g : Gw F H F' H') : Ag K Z F' M H' ρ σ := by
  cases g with
  | rf => exact a
  | nw hp => exact a.new hp
section
variable {X : Cx} {a b c e : Expr} {es rest : List Expr} {pos : Pos} {fa fb fe : WE} {ft fu : WT} {fl : WA} {fn : WN}
noncomputable def wV (i : Nat) : WE := fun ρ M P => match ρ[i]? with
  | some (.sh d) => P d ρ M
  | some (.ow ds) => P (.lst ds) (ρ.set i (.sh (.lst ds))) M
  | _ => False
private theorem je_of_var {i : Nat} (h : PE X e (tVar i)) : JE X e (wV i) := ⟨imE h fun σ H Q hh => ex5 hh fun Z F ρ M P ag hf k => by
  unfold wV at hf
  split at hf
  · rename_i d hd
    obtain ⟨v, h1, h2⟩ := ag.en i _ hd
    refine ⟨v, ?_, k v H F d ρ M (Same.refl _) ag h2 hf⟩
    cases q : σ[i]? with
    | none => rw [q] at h1; cases h1
    | some o => rw [q] at h1; simp at h1; rw [h1]
  · rename_i ds hd
    obtain ⟨F', v, h1, h2, h3, h4⟩ := ag.fz hd
    exact ⟨v, h1, k v H F' _ _ M h2 h4 h3 hf⟩
  · exact hf.elim⟩
private theorem jv (i : Nat) {x : Str} (hN : X.N[i]? = some x := by rfl) (hv : Vis X.env.scope x := by first | exact Or.inl rfl | exact Or.inr (Or.inl rfl) | exact Or.inr (Or.inr rfl)) (hd : (x == ("__debug__" : Str)) = false := by decide) (hcd : (x == ("__classdict__" : Str)) = false := by decide) : JE X (.Name x pos) (wV i) := je_of_var (L2.pv i hN hv hd hcd)
noncomputable def wC (d : D) : WE := fun ρ M P => P d ρ M
private theorem je_of_c {d : D} {v : V} (h : PE X e (tC v)) (r : ∀ F, Rp X.K F d v) : JE X e (wC d) := ⟨imE h fun σ H Q hh => ex5 hh fun Z F ρ M P ag hf k => k v H F d ρ M (Same.refl _) ag (r F) hf⟩
private theorem j_int {i : Int} {j : Nat} : JE X (.Constant (.int i) j pos) (wC (.int i)) := je_of_c pe_int fun F => by rw [Rp]
private theorem j_bl {i : Bool} {j : Nat} : JE X (.Constant (.bool i) j pos) (wC (.bl i)) := je_of_c pe_bl fun F => by rw [Rp]
private theorem j_str {i : Str} {j : Nat} : JE X (.Constant (.str i) j pos) (wC (.str i)) := je_of_c pe_str fun F => by rw [Rp]
private theorem j_non {j : Nat} : JE X (.Constant .none j pos) (wC .non) := je_of_c pe_non fun F => by rw [Rp]
noncomputable def OpW (X : Cx) (r : R2) (R : D → D → (D → Prop) → Prop) : Prop := ∀ (x y : D) (v u : V) (F H : Hp) (Q : VK) (P : D → Prop), Same F H → Rp X.K F x v → Rp X.K F y u → R x y P → (∀ d w F' H', Gw F H F' H' → Rp X.K F' d w → P d → Q w H') → r v u H Q
noncomputable def UnW (X : Cx) (r : V → Hp → VK → Prop) (R : D → (D → Prop) → Prop) : Prop := ∀ (x : D) (v : V) (F H : Hp) (Q : VK) (P : D → Prop), Same F H → Rp X.K F x v → R x P → (∀ d w F' H', Gw F H F' H' → Rp X.K F' d w → P d → Q w H') → r v H Q
noncomputable def CaW (X : Cx) (r : List V → Hp → VK → Prop) (R : List D → (D → Prop) → Prop) : Prop := ∀ (xs : List D) (vs : List V) (F H : Hp) (Q : VK) (P : D → Prop), Same F H → Rps X.K F xs vs → R xs P → (∀ d w F' H', Gw F H F' H' → Rp X.K F' d w → P d → Q w H') → r vs H Q
noncomputable def wOp (R : D → D → (D → Prop) → Prop) (fa fb : WE) : WE := fun ρ M P => fa ρ M fun x ρ1 M1 => fb ρ1 M1 fun y ρ2 M2 => R x y fun d => P d ρ2 M2
noncomputable def wUn (R : D → (D → Prop) → Prop) (fa : WE) : WE := fun ρ M P => fa ρ M fun x ρ1 M1 => R x fun d => P d ρ1 M1
noncomputable def wCall (R : List D → (D → Prop) → Prop) (fl : WA) : WE := fun ρ M P => fl ρ M fun xs ρ1 M1 => R xs fun d => P d ρ1 M1
private theorem of_op {r : R2} {R : D → D → (D → Prop) → Prop} (w : OpW X r R) {fa fb : WE} : ∀ σ H Q, lf X.K (wOp R fa fb) σ H Q → tOp r (lf X.K fa) (lf X.K fb) σ H Q := fun σ H Q hh => ex5 hh fun Z F ρ M P ag hf k =>
  ⟨Z, F, ρ, M, _, ag, hf, fun v H1 F1 d1 ρ1 M1 s1 ag1 r1 h1 => ⟨Z, F1, ρ1, M1, _, ag1, h1, fun u H2 F2 d2 ρ2 M2 s2 ag2 r2 h2 =>
    w d1 d2 v u F2 H2 Q _ ag2.m.sm (r1.same s2) r2 h2 fun d w F' H' g rp hp => k w H' F' d ρ2 M2 (s1.trans (s2.trans (g.same ag2.m.sm))) (g.ag ag2) rp hp⟩⟩
private theorem of_un {r : V → Hp → VK → Prop} {R : D → (D → Prop) → Prop} (w : UnW X r R) {fa : WE} : ∀ σ H Q, lf X.K (wUn R fa) σ H Q → tUn r (lf X.K fa) σ H Q := fun σ H Q hh => ex5 hh fun Z F ρ M P ag hf k =>
  ⟨Z, F, ρ, M, _, ag, hf, fun v H1 F1 d1 ρ1 M1 s1 ag1 r1 h1 => w d1 v F1 H1 Q _ ag1.m.sm r1 h1 fun d w F' H' g rp hp => k w H' F' d ρ1 M1 (s1.trans (g.same ag1.m.sm)) (g.ag ag1) rp hp⟩
private theorem of_call {r : List V → Hp → VK → Prop} {R : List D → (D → Prop) → Prop} (w : CaW X r R) {fl : WA} : ∀ σ H Q, lf X.K (wCall R fl) σ H Q → tCB r (lfA X.K fl) σ H Q := fun σ H Q hh => ex5 hh fun Z F ρ M P ag hf k =>
  ⟨Z, F, ρ, M, _, ag, hf, fun v H1 F1 d1 ρ1 M1 s1 ag1 r1 h1 => w d1 v F1 H1 Q _ ag1.m.sm r1 h1 fun d w F' H' g rp hp => k w H' F' d ρ1 M1 (s1.trans (g.same ag1.m.sm)) (g.ag ag1) rp hp⟩
private theorem j_op {op : Operator} {r : R2} {R : D → D → (D → Prop) → Prop} (o : OpR X (binaryOp op) r) (w : OpW X r R) (ha : JE X a fa) (hb : JE X b fb) : JE X (.BinOp a op b pos) (wOp R fa fb) := ⟨imE (pe_op o ha.h hb.h) (of_op w)⟩
private theorem j_un {op : UnaryOp} {r : V → Hp → VK → Prop} {R : D → (D → Prop) → Prop} (o : UnR X (unaryOp op) r) (w : UnW X r R) (ha : JE X a fa) : JE X (.UnaryOp op a pos) (wUn R fa) := ⟨imE (pe_un o ha.h) (of_un w)⟩
private theorem j_cmp {op : CmpOp} {r : R2} {R : D → D → (D → Prop) → Prop} (o : OpR X (compareOp op) r) (w : OpW X r R) (ha : JE X a fa) (hb : JE X b fb) (hm : behindInMarks op b = false) : JE X (.Compare a [op] [b] pos) (wOp R fa fb) := ⟨imE (pe_cmpR o ha.h hb.h hm) (of_op w)⟩
private theorem j_ix {r : R2} {R : D → D → (D → Prop) → Prop} (o : IxR X r) (w : OpW X r R) (ha : JE X a fa) (hb : JE X b fb) (hs : PlainIx b) : JE X (.Subscript a b pos) (wOp R fa fb) := ⟨imE (pe_ix o ha.h hb.h hs) (of_op w)⟩
noncomputable def RI (C : Int → Int → Prop) (g : Int → Int → D) : D → D → (D → Prop) → Prop := fun x y P => match x, y with
  | .int i, .int j => C i j ∧ P (g i j)
  | _, _ => False
noncomputable def RI0 (g : Int → Int → D) : D → D → (D → Prop) → Prop := fun x y P => match x, y with
  | .int i, .int j => P (g i j)
  | _, _ => False
noncomputable def dI : V → D → Prop := fun v d => match v, d with
  | .int i, .int j => i = j
  | .bl i, .bl j => i = j
  | _, _ => False
private theorem dI.rp {K : PySem.W.Frag} {F : Hp} {v : V} {d : D} (h : dI v d) : Rp K F d v := by
  unfold dI at h
  split at h
  · subst h; rw [Rp]
  · subst h; rw [Rp]
  · exact h.elim
private theorem w_I {C : Int → Int → Prop} {g : Int → Int → V} {g' : Int → Int → D} (e : ∀ i j, dI (g i j) (g' i j)) : OpW X (rI C g) (RI C g') := by
  intro x y v u F H Q P sm rx ry h k
  unfold RI at h
  split at h
  · rename_i i j
    rw [Rp] at rx ry
    exact ⟨i, j, rx, ry, h.1, k _ _ F H .rf (e i j).rp h.2⟩
  · exact h.elim
private theorem w_I0 {g : Int → Int → V} {g' : Int → Int → D} (e : ∀ i j, dI (g i j) (g' i j)) : OpW X (rI0 g) (RI0 g') := by
  intro x y v u F H Q P sm rx ry h k
  unfold RI0 at h
  split at h
  · rename_i i j
    rw [Rp] at rx ry
    exact ⟨i, j, rx, ry, k _ _ F H .rf (e i j).rp h⟩
  · exact h.elim
noncomputable def CM (i j : Int) : Prop := CMul i j ∨ CMulS i j
private theorem op_mulA : OpR X (binaryOp .Mult) (rI CM fun i j => .int (i * j)) := by
  intro pins s σ H x y u v Q I rx ry h
  obtain ⟨i, j, h1, h2, h3, h4⟩ := h
  rcases h3 with h3 | h3
  · exact op_mul pins s σ H x y u v Q I rx ry ⟨i, j, h1, h2, h3, h4⟩
  · exact op_mulS pins s σ H x y u v Q I rx ry ⟨i, j, h1, h2, h3, h4⟩
private theorem j_add (ha : JE X a fa) (hb : JE X b fb) : JE X (.BinOp a .Add b pos) (wOp (RI0 fun i j => .int (i + j)) fa fb) := j_op op_add (w_I0 fun _ _ => rfl) ha hb
private theorem j_sub (ha : JE X a fa) (hb : JE X b fb) : JE X (.BinOp a .Sub b pos) (wOp (RI0 fun i j => .int (i - j)) fa fb) := j_op op_sub (w_I0 fun _ _ => rfl) ha hb
private theorem j_mul (ha : JE X a fa) (hb : JE X b fb) : JE X (.BinOp a .Mult b pos) (wOp (RI CM fun i j => .int (i * j)) fa fb) := j_op op_mulA (w_I fun _ _ => rfl) ha hb
private theorem j_fdiv (ha : JE X a fa) (hb : JE X b fb) : JE X (.BinOp a .FloorDiv b pos) (wOp (RI CDivS fun i j => .int (i.fdiv j)) fa fb) := j_op op_fdivS (w_I fun _ _ => rfl) ha hb
private theorem j_mod (ha : JE X a fa) (hb : JE X b fb) : JE X (.BinOp a .Mod b pos) (wOp (RI (fun _ j => j ≠ 0) fun i j => .int (i.fmod j)) fa fb) := j_op op_modN (w_I fun _ _ => rfl) ha hb
private theorem j_pow (ha : JE X a fa) (hb : JE X b fb) : JE X (.BinOp a .Pow b pos) (wOp (RI CPow fun i j => .int (i ^ j.toNat)) fa fb) := j_op op_pow (w_I fun _ _ => rfl) ha hb
private theorem j_lt (ha : JE X a fa) (hb : JE X b fb) : JE X (.Compare a [.Lt] [b] pos) (wOp (RI0 fun i j => .bl (decide (i < j))) fa fb) := j_cmp op_lt (w_I0 fun _ _ => rfl) ha hb (nomark _)
end
end L4
set_option Elab.async false
set_option linter.all false
set_option maxRecDepth 100000
namespace L4
open PySem PySem.Spec PyProof.Rows L2 L3
section
variable {X : Cx} {a b c e : Expr} {es rest : List Expr} {pos : Pos} {fa fb fe : WE} {ft fu : WT} {fl : WA} {fn : WN}
noncomputable def RE : D → D → (D → Prop) → Prop := fun x y P => dep x ≤ 60 ∧ P (.bl (peq x y))
noncomputable def RNe : D → D → (D → Prop) → Prop := fun x y P => dep x ≤ 60 ∧ P (.bl (!peq x y))
noncomputable def rEq4 (K : PySem.W.Frag) : R2 := fun x y H Q => ∃ d e, Rp K H d x ∧ Rp K H e y ∧ dep d ≤ 60 ∧ Q (.bl (peq d e)) H
noncomputable def rNe4 (K : PySem.W.Frag) : R2 := fun x y H Q => ∃ d e, Rp K H d x ∧ Rp K H e y ∧ dep d ≤ 60 ∧ Q (.bl (!peq d e)) H
private theorem op_eq4 (hu : X.A.units + 60 < cLine) : OpR X (compareOp .Eq) (rEq4 X.K) := by
  intro pins s σ H x y u v Q I rx ry h
  obtain ⟨d, e, hd, he, hn, q⟩ := h
  exact (deep4 I X.A d e x y u v hn hu hd he rx ry).2.1 _ _ _ _ ⟨.bl (peq d e), H, I, rfl, q⟩
private theorem op_ne4 (hu : X.A.units + 60 < cLine) : OpR X (compareOp .NotEq) (rNe4 X.K) := by
  intro pins s σ H x y u v Q I rx ry h
  obtain ⟨d, e, hd, he, hn, q⟩ := h
  exact (deep4 I X.A d e x y u v hn hu hd he rx ry).2.2 _ _ _ _ ⟨.bl (!peq d e), H, I, rfl, q⟩
private theorem w_eq : OpW X (rEq4 X.K) RE := fun x y v u F H Q P sm rx ry h k => ⟨x, y, rx.same sm, ry.same sm, h.1, k _ _ F H .rf (by rw [Rp]) h.2⟩
private theorem w_ne : OpW X (rNe4 X.K) RNe := fun x y v u F H Q P sm rx ry h k => ⟨x, y, rx.same sm, ry.same sm, h.1, k _ _ F H .rf (by rw [Rp]) h.2⟩
noncomputable def isN : D → Bool
  | .non => true
  | _ => false
noncomputable def RNo (g : Bool → Bool) : D → D → (D → Prop) → Prop := fun x y P => match y with
  | .non => P (.bl (g (isN x)))
  | _ => False
private theorem isN_rp {F : Hp} {x : D} {v : V} (h : Rp X.K F x v) : decide (v = .non) = isN x := by
  cases x <;> rw [Rp] at h
  case non => subst h; rfl
  case bl => subst h; rfl
  case int => subst h; rfl
  case str => subst h; rfl
  case tup => obtain ⟨_, _, rfl, _⟩ := h; rfl
  case lst => obtain ⟨_, _, rfl, _⟩ := h; rfl
private theorem w_isN : OpW X (fun x y H Q => y = .non ∧ Q (.bl (decide (x = .non))) H) (RNo id) := fun x y v u F H Q P sm rx ry h k => by
  unfold RNo at h
  split at h
  · rw [Rp] at ry
    refine ⟨ry, k _ _ F H .rf ?_ h⟩
    rw [Rp, isN_rp rx]; rfl
  · exact h.elim
private theorem w_notN : OpW X (fun x y H Q => y = .non ∧ Q (.bl (!decide (x = .non))) H) (RNo not) := fun x y v u F H Q P sm rx ry h k => by
  unfold RNo at h
  split at h
  · rw [Rp] at ry
    refine ⟨ry, k _ _ F H .rf ?_ h⟩
    rw [Rp, isN_rp rx]
  · exact h.elim
noncomputable def RNeg : D → (D → Prop) → Prop := fun x P => match x with
  | .int i => P (.int (-i))
  | _ => False
private theorem j_neg (ha : JE X a fa) : JE X (.UnaryOp .USub a pos) (wUn RNeg fa) := j_un un_neg (fun x v F H Q P sm rx h k => by
  unfold RNeg at h
  split at h
  · rw [Rp] at rx
    exact ⟨_, rx, k _ _ F H .rf (by rw [Rp]) h⟩
  · exact h.elim) ha
noncomputable def wB (f : WE) : WT := fun ρ M P => f ρ M fun d ρ1 M1 => match d with
  | .bl k => P k ρ1 M1
  | _ => False
private theorem of_B {fa : WE} : ∀ σ H Q, lfT X.K (wB fa) σ H Q → tB (lf X.K fa) σ H Q := fun σ H Q hh => ex5 hh fun Z F ρ M P ag hf k => ⟨Z, F, ρ, M, _, ag, hf, fun v H' F' d ρ' M' s' ag' r h => by
  split at h
  · rw [Rp] at r
    exact ⟨_, r, k _ H' F' ρ' M' s' ag' h⟩
  · exact h.elim⟩
private theorem jt (ha : JE X a fa) (he : ∀ whole, isTrue a X.env whole = (do let v ← whole; standAt a.pos; holding [v] (truthy v)) := by intro _; rfl) : JT X a (wB fa) := ⟨imT (pt_val ha.h he) of_B⟩
private theorem jt_cmp {op : CmpOp} {r : R2} {R : D → D → (D → Prop) → Prop} (o : OpR X (compareOp op) r) (w : OpW X r R) (ha : JE X a fa) (hb : JE X b fb) (hm : behindInMarks op b = false) : JT X (.Compare a [op] [b] pos) (wB (wOp R fa fb)) :=
  ⟨imT (pt_cmpR o ha.h hb.h hm) fun σ H Q h => of_op w σ H _ (by
    obtain ⟨Z, F, ρ, M, P, ag, hf, k⟩ := h
    refine ⟨Z, F, ρ, M, _, ag, hf, fun v H' F' d ρ' M' s' ag' r h => ?_⟩
    split at h
    · rw [Rp] at r
      exact ⟨_, r, k _ H' F' ρ' M' s' ag' h⟩
    · exact h.elim)⟩
private theorem jt_lt (ha : JE X a fa) (hb : JE X b fb) : JT X (.Compare a [.Lt] [b] pos) (wB (wOp (RI0 fun i j => .bl (decide (i < j))) fa fb)) := jt_cmp op_lt (w_I0 fun _ _ => rfl) ha hb (nomark _)
private theorem jt_gt (ha : JE X a fa) (hb : JE X b fb) : JT X (.Compare a [.Gt] [b] pos) (wB (wOp (RI0 fun i j => .bl (decide (j < i))) fa fb)) := jt_cmp op_gt (w_I0 fun _ _ => rfl) ha hb (nomark _)
private theorem jt_eq {k : Nat} (hr : Room k X.A) (ha : JE X a fa) (hb : JE X b fb) : JT X (.Compare a [.Eq] [b] pos) (wB (wOp RE fa fb)) := jt_cmp (op_eq4 (Room.u60 hr)) w_eq ha hb (nomark _)
private theorem jt_ne {k : Nat} (hr : Room k X.A) (ha : JE X a fa) (hb : JE X b fb) : JT X (.Compare a [.NotEq] [b] pos) (wB (wOp RNe fa fb)) := jt_cmp (op_ne4 (Room.u60 hr)) w_ne ha hb (nomark _)
private theorem jt_isN (ha : JE X a fa) (hb : JE X b fb) : JT X (.Compare a [.Is] [b] pos) (wB (wOp (RNo id) fa fb)) := jt_cmp op_isN w_isN ha hb (nomark _)
private theorem jt_notN (ha : JE X a fa) (hb : JE X b fb) : JT X (.Compare a [.IsNot] [b] pos) (wB (wOp (RNo not) fa fb)) := jt_cmp op_notN w_notN ha hb (nomark _)
noncomputable def wNot (f : WT) : WT := fun ρ M P => f ρ M fun b ρ1 M1 => P (!b) ρ1 M1
noncomputable def wOr (f g : WT) : WT := fun ρ M P => f ρ M fun b ρ1 M1 => if b = true then P true ρ1 M1 else g ρ1 M1 P
private theorem jt_not (ha : JT X a ft) : JT X (.UnaryOp .Not a pos) (wNot ft) := ⟨imT (pt_not ha.h) fun σ H Q hh => ex5 hh fun Z F ρ M P ag hf k => ⟨Z, F, ρ, M, _, ag, hf, fun b H' F' ρ' M' s' ag' h => k _ H' F' ρ' M' s' ag' h⟩⟩
private theorem jw_or1 (ha : JT X a ft) : JW X (.BoolOp .Or [a] pos) ft := ⟨pw_or1 ha.h⟩
private theorem jw_or (ha : JT X a ft) (hb : JW X (.BoolOp .Or (b :: rest) pos) fu) : JW X (.BoolOp .Or (a :: b :: rest) pos) (wOr ft fu) := ⟨imW (pw_or ha.h hb.h) fun σ H Q hh => ex5 hh fun Z F ρ M P ag hf k => ⟨Z, F, ρ, M, _, ag, hf, fun b H' F' ρ' M' s' ag' h => by
  cases b with
  | true => rw [if_pos rfl] at h ⊢; exact k _ H' F' ρ' M' s' ag' h
  | false => rw [if_neg Bool.false_ne_true] at h ⊢; exact ⟨Z, F', ρ', M', P, ag', h, fun b H2 F2 ρ2 M2 s2 => k b H2 F2 ρ2 M2 (s'.trans s2)⟩⟩⟩
private theorem JW.jt (h : JW X e ft) : JT X e ft := ⟨h.h.pt⟩
end
end L4
set_option Elab.async false
set_option linter.all false
set_option maxRecDepth 100000
namespace L4
open PySem PySem.Spec PyProof.Rows L2 L3
section
variable {X : Cx} {a b c e : Expr} {es rest : List Expr} {pos : Pos} {fa fb fe : WE} {ft fu : WT} {fl : WA} {fn : WN}
noncomputable def wNil : WA := fun ρ M P => P [] ρ M
noncomputable def wCons (f : WE) (g : WA) : WA := fun ρ M P => f ρ M fun d ρ1 M1 => g ρ1 M1 fun ds ρ2 M2 => P (d :: ds) ρ2 M2
private theorem ja_nil : JA X [] wNil := ⟨imA pa_nil fun σ H Q hh => ex5 hh fun Z F ρ M P ag hf k => k [] H F [] ρ M (Same.refl _) ag .nil hf⟩
private theorem ja_cons (ha : JE X e fe) (hr : JA X es fl) (hs : starEach (e :: es) X.env = (false, eval e X.env) :: starEach es X.env := by rfl) : JA X (e :: es) (wCons fe fl) := ⟨imA (pa_cons ha.h hr.h hs) fun σ H Q hh => ex5 hh fun Z F ρ M P ag hf k =>
  ⟨Z, F, ρ, M, _, ag, hf, fun v H1 F1 d1 ρ1 M1 s1 ag1 r1 h1 => ⟨Z, F1, ρ1, M1, _, ag1, h1, fun vs H2 F2 ds ρ2 M2 s2 ag2 r2 h2 => k _ H2 F2 _ ρ2 M2 (s1.trans s2) ag2 (.cons (r1.same s2) r2) h2⟩⟩⟩
noncomputable def wTup (f : WA) : WE := fun ρ M P => f ρ M fun ds ρ1 M1 => ds.length ≤ sizeLine ∧ P (.tup ds) ρ1 M1
private theorem j_tup {x1} (h : JA X es fl) : JE X (.Tuple es x1 pos) (wTup fl) := ⟨imE (pe_tup h.h) fun σ H Q hh => ex5 hh fun Z F ρ M P ag hf k => ⟨Z, F, ρ, M, _, ag, hf, fun vs H1 F1 ds ρ1 M1 s1 ag1 r1 h1 => by
  refine ⟨by rw [← r1.length]; exact h1.1, fun p hp => ?_⟩
  have s2 : Same F1 (upd F1 p (.tup vs)) := Same.new (sub_none ag1.m.sm hp)
  exact k _ _ (upd F1 p (.tup vs)) _ ρ1 M1 (s1.trans s2) (ag1.new hp) (by rw [Rp]; exact ⟨p, vs, rfl, SqT.of upd_same, r1.same s2⟩) h1.2⟩⟩
private theorem newN {Z F H : Hp} {M : Mm} {ρ : Rho} {σ : L2.St} {p : Addr} {vs : List V} {ds : List D} {K : PySem.W.Frag} (ag : Ag K Z F M H ρ σ) (hp : H p = none) (r : Rps K F ds vs) :
    Ag K Z F M (upd H p (.lst vs)) ρ σ ∧ upd H p (.lst vs) p = some (.lst vs) ∧ F p = none ∧ M p = none ∧ Z p = none ∧ (∀ (j : Nat) (es : List D), ρ[j]? = some (.ow es) → σ[j]? ≠ some (some (.ref p))) ∧ Rps K F ds vs := by
  refine ⟨ag.newO hp, upd_same, sub_none ag.m.sm hp, ?_, ?_, fun j es h z => ?_, r⟩
  · cases q : M p with
    | none => rfl
    | some o =>
      obtain ⟨_, k⟩ := ag.m.mo p o q
      obtain ⟨u, hu⟩ := k.there
      rw [hp] at hu; cases hu
  · cases q : Z p with
    | none => rfl
    | some o => have := (ag.m.zz p o q).1; rw [hp] at this; cases this
  · obtain ⟨q, ws, h1, h2, _⟩ := ag.en j _ h
    rw [z] at h1
    cases h1
    rw [hp] at h2; cases h2
noncomputable def wLst (f : WA) : WN := fun ρ M P => f ρ M fun ds ρ1 M1 => ds.length ≤ sizeLine ∧ P ds ρ1 M1
private theorem jn_lst (h : JA X es fl) : JN X (.List es pos) (wLst fl) := ⟨imE (pe_lst h.h) fun σ H Q hh => ex5 hh fun Z F ρ M P ag hf k => ⟨Z, F, ρ, M, _, ag, hf, fun vs H1 F1 ds ρ1 M1 s1 ag1 r1 h1 => by
  refine ⟨by rw [← r1.length]; exact h1.1, fun p hp => ?_⟩
  obtain ⟨n1, n2, n3, n4, nz, n5, n6⟩ := newN ag1 hp r1
  exact k p vs _ F1 ds ρ1 M1 s1 n1 n2 n3 n4 nz n5 n6 h1.2⟩⟩
noncomputable def wFz (f : WN) : WE := fun ρ M P => f ρ M fun ds ρ1 M1 => P (.lst ds) ρ1 M1
private theorem fz_new {Z F H : Hp} {M : Mm} {ρ : Rho} {σ : L2.St} {p : Addr} {vs : List V} {K : PySem.W.Frag} (ag : Ag K Z F M H ρ σ) (n2 : H p = some (.lst vs)) (n3 : F p = none) (n4 : M p = none) (nz : Z p = none) (n5 : ∀ (j : Nat) (es : List D), ρ[j]? = some (.ow es) → σ[j]? ≠ some (some (.ref p))) :
    Ag K Z (upd F p (.lst vs)) M H ρ σ := by
  have s1 : Same F (upd F p (.lst vs)) := Same.new n3
  refine ⟨⟨fun b u e => ?_, fun q o e => ?_, fun q o e => ?_⟩, ag.len, fun i e h => ?_, ag.di⟩
  · by_cases hb : b = p
    · subst hb; rw [upd_same] at e; cases e; exact n2
    · rw [upd_ne hb] at e; exact ag.m.sm b u e
  · obtain ⟨z1, z2, z3⟩ := ag.m.zz q o e
    have : q ≠ p := fun z => by rw [z, nz] at e; cases e
    exact ⟨z1, by rw [upd_ne this]; exact z2, z3⟩
  · obtain ⟨z1, z2⟩ := ag.m.mo q o e
    have : q ≠ p := fun z => by rw [z, n4] at e; cases e
    exact ⟨by rw [upd_ne this]; exact z1, z2.same s1 rfl⟩
  · have := ag.en i e h
    cases e with
    | un => trivial
    | sh d => obtain ⟨v, h1, h2⟩ := this; exact ⟨v, h1, Rp.same s1 h2⟩
    | rf p => exact this
    | ut u => obtain ⟨v, h1, h2⟩ := this; exact ⟨v, h1, RU.same s1 h2⟩
    | ow es =>
      obtain ⟨q, ws, h1, h2, h3, h4, h6, h5⟩ := this
      have hne : q ≠ p := fun z => by
        subst z
        have hj' : σ[i]? = some (some (.ref q)) := by
          cases y : σ[i]? with
          | none => rw [y] at h1; cases h1
          | some o => rw [y] at h1; simp at h1; rw [h1]
        exact n5 i es h hj'
      exact ⟨q, ws, h1, h2, by rw [upd_ne hne]; exact h3, h4, h6, Rps.same s1 h5⟩
private theorem j_fz (h : JN X e fn) : JE X e (wFz fn) := ⟨imE h.h fun σ H Q hh => ex5 hh fun Z F ρ M P ag hf k => ⟨Z, F, ρ, M, _, ag, hf, fun p vs H1 F1 ds ρ1 M1 s1 ag1 n2 n3 n4 nz n5 r1 h1 => by
  have s2 : Same F1 (upd F1 p (.lst vs)) := Same.new n3
  exact k _ H1 (upd F1 p (.lst vs)) _ ρ1 M1 (s1.trans s2) (fz_new ag1 n2 n3 n4 nz n5) (by rw [Rp]; exact ⟨p, vs, rfl, .inl upd_same, r1.same s2⟩) h1⟩⟩
private theorem at_rps {K : PySem.W.Frag} {F : Hp} {ds : List D} {vs : List V} {i : Int} {d : D} (r : Rps K F ds vs) (h : atI ds i = some d) : ∃ v, atI vs i = some v ∧ Rp K F d v := by
  unfold atI at h ⊢
  rw [r.length] at h
  cases e : ixN vs.length i with
  | none => rw [e] at h; cases h
  | some j =>
    rw [e] at h
    exact r.get h
noncomputable def RIx : D → D → (D → Prop) → Prop := fun x y P => match x, y with
  | .tup ds, .int i => (match atI ds i with
    | some d => P d
    | none => False)
  | .lst ds, .int i => (match atI ds i with
    | some d => P d
    | none => False)
  | _, _ => False
private theorem w_ix : OpW X (rIx X.K) RIx := by
  intro x y v u F H Q P sm rx ry h k
  unfold RIx at h
  split at h
  · rename_i ds i
    rw [Rp] at rx
    rw [Rp] at ry
    obtain ⟨p, vs, rfl, h1, h2⟩ := rx
    split at h
    · rename_i d hd
      obtain ⟨w, h3, h4⟩ := at_rps h2 hd
      exact .inr (.inl ⟨p, vs, i, w, rfl, ry, sqT_same sm h1, h3, k d w F H .rf h4 h⟩)
    · exact h.elim
  · rename_i ds i
    rw [Rp] at rx
    rw [Rp] at ry
    obtain ⟨p, vs, rfl, h1, h2⟩ := rx
    split at h
    · rename_i d hd
      obtain ⟨w, h3, h4⟩ := at_rps h2 hd
      exact .inl ⟨p, vs, i, w, rfl, ry, .inl (rd_same sm h1), h3, k d w F H .rf h4 h⟩
    · exact h.elim
  · exact h.elim
private theorem j_at (ha : JE X a fa) (hb : JE X b fb) (hs : PlainIx b := by intro _ _; rfl) : JE X (.Subscript a b pos) (wOp RIx fa fb) := j_ix ix_seq w_ix ha hb hs
section
variable {x : Str} {p : Pos} {id T : String} {r : List V → Hp → VK → Prop} {R : List D → (D → Prop) → Prop}
private theorem j_callB (hc : CallR X (.builtin id) r) (w : CaW X r R) (hg : Gl X x) (hm : X.mg x = none) (hv : bootBuiltins x = some (.builtin id)) (ha : JA X (e :: es) fl) (hn : x ≠ "__name__" := by decide) (hdb : (x == ("__debug__" : Str)) = false := by decide)
    (he : starEach (e :: es) X.env = (false, eval e X.env) :: starEach es X.env := by rfl) (hpl : (backTo pos (starEach es X.env)).any (·.1) = false := by rfl) : JE X (.Call (.Name x p) (e :: es) [] pos) (wCall R fl) := ⟨imE (pe_callB hc hg hm hv ha.h hn hdb he hpl) (of_call w)⟩
end
noncomputable def RLen : List D → (D → Prop) → Prop := fun xs P => match xs with
  | [.lst ds] => P (.int ds.length)
  | [.tup ds] => P (.int ds.length)
  | _ => False
private theorem rps1 {K : PySem.W.Frag} {F : Hp} {d : D} {vs : List V} (h : Rps K F [d] vs) : ∃ v, vs = [v] ∧ Rp K F d v := by
  rw [Rps] at h
  obtain ⟨v, r, rfl, h1, h2⟩ := h
  rw [Rps] at h2
  subst h2
  exact ⟨v, rfl, h1⟩
private theorem rps2 {K : PySem.W.Frag} {F : Hp} {d e : D} {vs : List V} (h : Rps K F [d, e] vs) : ∃ v u, vs = [v, u] ∧ Rp K F d v ∧ Rp K F e u := by
  rw [Rps] at h
  obtain ⟨v, r, rfl, h1, h2⟩ := h
  obtain ⟨u, rfl, h3⟩ := rps1 h2
  exact ⟨v, u, rfl, h1, h3⟩
private theorem w_len : CaW X (fun xs H Q => ∃ p ys, xs = [.ref p] ∧ (SqL X.K H p ys ∨ SqT X.K H p ys) ∧ Q (.int ys.length) H) RLen := by
  intro xs vs F H Q P sm rs h k
  unfold RLen at h
  split at h
  · rename_i ds
    obtain ⟨v, rfl, r⟩ := rps1 rs
    rw [Rp] at r
    obtain ⟨p, ws, rfl, h1, h2⟩ := r
    refine ⟨p, ws, rfl, .inl (.inl (rd_same sm h1)), k _ _ F H .rf ?_ h⟩
    rw [Rp, h2.length]
  · rename_i ds
    obtain ⟨v, rfl, r⟩ := rps1 rs
    rw [Rp] at r
    obtain ⟨p, ws, rfl, h1, h2⟩ := r
    refine ⟨p, ws, rfl, .inr (sqT_same sm h1), k _ _ F H .rf ?_ h⟩
    rw [Rp, h2.length]
  · exact h.elim
noncomputable def RAbs : List D → (D → Prop) → Prop := fun xs P => match xs with
  | [.int i] => P (.int (if i < 0 then -i else i))
  | _ => False
private theorem w_abs : CaW X (fun xs H Q => ∃ i, xs = [.int i] ∧ Q (.int (if i < 0 then -i else i)) H) RAbs := by
  intro xs vs F H Q P sm rs h k
  unfold RAbs at h
  split at h
  · obtain ⟨v, rfl, r⟩ := rps1 rs
    rw [Rp] at r
    subst r
    exact ⟨_, rfl, k _ _ F H .rf (by rw [Rp]) h⟩
  · exact h.elim
inductive Ty where
  | int | bool | str | list | tuple | dict
end
end L4
set_option Elab.async false
set_option linter.all false
set_option maxRecDepth 100000
namespace L4
open PySem PySem.Spec PyProof.Rows L2 L3
noncomputable def Zof (F : Hp) (M : Mm) (H : Hp) : Hp := fun p => if (F p).isNone = true ∧ (M p).isNone = true then H p else none
private theorem zof_some {F H : Hp} {M : Mm} {p : Addr} {o : HO} (h : Zof F M H p = some o) : H p = some o ∧ F p = none ∧ M p = none := by
  unfold Zof at h
  split at h
  · rename_i c
    exact ⟨h, Option.isNone_iff_eq_none.mp c.1, Option.isNone_iff_eq_none.mp c.2⟩
  · cases h
private theorem zof_of {F H : Hp} {M : Mm} {p : Addr} {o : HO} (h1 : H p = some o) (h2 : F p = none) (h3 : M p = none) : Zof F M H p = some o := by
  unfold Zof
  rw [if_pos ⟨by rw [h2]; rfl, by rw [h3]; rfl⟩]
  exact h1
section
variable {K : PySem.W.Frag} {Z F F' H H' : Hp} {M M' : Mm} {ρ : Rho} {σ : L2.St}
private theorem AgM.inner (a : AgM K Z F M H) : AgM K (Zof F M H) F M H := ⟨a.sm, fun _ _ h => zof_some h, a.mo⟩
private theorem AgM.back (a : AgM K Z F M H) (b : AgM K (Zof F M H) F' M' H') : AgM K Z F' M' H' := ⟨b.sm, fun p o h => by
  obtain ⟨z1, z2, z3⟩ := a.zz p o h
  exact b.zz p o (zof_of z1 z2 z3), b.mo⟩
private theorem Ag.back (a : Ag K Z F M H ρ σ) (s : Same F F') (b : AgM K (Zof F M H) F' M' H') : Ag K Z F' M' H' ρ σ := by
  refine ⟨a.m.back b, a.len, fun i e h => ?_, a.di⟩
  have := a.en i e h
  cases e with
  | un => trivial
  | sh d => obtain ⟨v, h1, h2⟩ := this; exact ⟨v, h1, Rp.same s h2⟩
  | rf p => exact this
  | ut u => obtain ⟨v, h1, h2⟩ := this; exact ⟨v, h1, RU.same s h2⟩
  | ow ds =>
    obtain ⟨p, vs, h1, h2, h3, h4, h5, h6⟩ := this
    obtain ⟨z1, z2, z3⟩ := b.zz p _ (zof_of h2 h3 h4)
    exact ⟨p, vs, h1, z1, z2, z3, h5, Rps.same s h6⟩
end
noncomputable abbrev WF := List D → Mm → (D → Mm → Prop) → Prop
noncomputable def spW (K : PySem.W.Frag) (g : WF) : Sp := fun vs H Q _ => ∃ Z F M ds P, AgM K Z F M H ∧ Rps K F ds vs ∧ g ds M P ∧ ∀ v H' F' d M', Same F F' → AgM K Z F' M' H' → Rp K F' d v → P d M' → Q v H'
noncomputable def wFn (g : WF) (fl : WA) : WE := fun ρ M P => fl ρ M fun ds ρ1 M1 => g ds M1 fun d M2 => P d ρ1 M2
section
variable {X : Cx} {a b c e : Expr} {es rest : List Expr} {pos p : Pos} {fa fb fe : WE} {ft fu : WT} {fl : WA} {fn : WN} {st : Stmt} {sts : List Stmt} {fs gs : WS} {x : Str}
private theorem j_h {g : WF} {k : Nat} {ps : List Str} (F : Has X.prog X.w X.K X.mg X.base CX0 k x ps (spW X.K g)) (hr : Room k X.A) (hg : Gl X x) (ha : JA X (e :: es) fl) (hdb : (x == ("__debug__" : Str)) = false := by decide) (he : starEach (e :: es) X.env = (false, eval e X.env) :: starEach es X.env := by rfl) (hpl : (backTo pos (starEach es X.env)).any (·.1) = false := by rfl) :
    JE X (.Call (.Name x p) (e :: es) [] pos) (wFn g fl) := ⟨imE (pe_h F hr hg pass0 ha.h hdb he hpl) fun σ H Q hh => ex5 hh fun Z F ρ M P ag hf k => ⟨Z, F, ρ, M, _, ag, hf, fun vs H1 F1 ds ρ1 M1 s1 ag1 r1 h1 => by
  show spW X.K g (vs ++ []) H1 Q E0
  rw [List.append_nil]
  exact ⟨_, F1, M1, ds, _, ag1.m.inner, r1, h1, fun v H' F' d M' s' m' r h => k v H' F' d ρ1 M' (s1.trans s') (ag1.back s' m') r h⟩⟩⟩
private theorem EndsOk.mono {K : PySem.W.Frag} {Z F F' : Hp} {E : WEnds} {D' : Ends} (h : EndsOk K Z F E D') (s : Same F F') : EndsOk K Z F' E D' :=
  ⟨fun σ' H' G ρ' M' t => h.nx σ' H' G ρ' M' (s.trans t), fun σ' H' G ρ' M' t => h.bk σ' H' G ρ' M' (s.trans t), fun σ' H' G ρ' M' t => h.ct σ' H' G ρ' M' (s.trans t), fun v H' G d M' t => h.rt v H' G d M' (s.trans t)⟩
noncomputable def wNext : WS := fun E ρ M => E.nx ρ M
noncomputable def wSeq (f g : WS) : WS := fun E ρ M => f ⟨fun ρ1 M1 => g E ρ1 M1, E.rt, E.bk, E.ct⟩ ρ M
private theorem jss_nil : JSs X [] wNext := ⟨imSs pss_nil fun D' σ H hh => ex5 hh fun Z F ρ M E ag hf k => k.nx σ H F ρ M (Same.refl _) ag hf⟩
private theorem jss_one (h : JS X st fs) : JSs X [st] fs := ⟨pss_one h.h⟩
private theorem jss_cons (h : JS X st fs) (h2 : JSs X sts gs) : JSs X (st :: sts) (wSeq fs gs) := ⟨imSs (pss_cons h.h h2.h) fun D' σ H hh => ex5 hh fun Z F ρ M E ag hf k =>
  ⟨Z, F, ρ, M, _, ag, hf, ⟨fun σ' H' F' ρ' M' s' ag' h => ⟨Z, F', ρ', M', E, ag', h, k.mono s'⟩, k.bk, k.ct, k.rt⟩⟩⟩
noncomputable def wNever : WS := fun _ _ _ => False
private theorem js_never : JS X st wNever := ⟨imS ps_never fun D' σ H hh => ex5 hh fun Z F ρ M E ag hf k => hf⟩
noncomputable def wRet (f : WE) : WS := fun E ρ M => f ρ M fun d _ M1 => E.rt (.d d) M1
private theorem js_ret (h : JE X e fe) : JS X (.Return (some e) pos) (wRet fe) := ⟨imS (ps_ret h.h) fun D' σ H hh => ex5 hh fun Z F ρ M E ag hf k => ⟨Z, F, ρ, M, _, ag, hf, fun v H' F' d ρ' M' s' ag' r h => k.rt v H' F' (.d d) M' s' ag'.m (by rw [RU]; exact r) h⟩⟩
noncomputable def wIf (c : WT) (f g : WS) : WS := fun E ρ M => c ρ M fun b ρ1 M1 => if b = true then f E ρ1 M1 else g E ρ1 M1
private theorem js_if {sa sb : List Stmt} (hc : JT X c ft) (ha : JSs X sa fs) (hb : JSs X sb gs) : JS X (.If c sa sb pos) (wIf ft fs gs) := ⟨imS (ps_if hc.h ha.h hb.h) fun D' σ H hh => ex5 hh fun Z F ρ M E ag hf k => ⟨Z, F, ρ, M, _, ag, hf, fun b H' F' ρ' M' s' ag' h => by
  cases b with
  | true => rw [if_pos rfl] at h ⊢; exact ⟨Z, F', ρ', M', E, ag', h, k.mono s'⟩
  | false => rw [if_neg Bool.false_ne_true] at h ⊢; exact ⟨Z, F', ρ', M', E, ag', h, k.mono s'⟩⟩⟩
section
variable {i : Nat} {pos' : Pos}
noncomputable def wSet (i : Nat) (f : WE) : WS := fun E ρ M => f ρ M fun d ρ1 M1 => E.nx (ρ1.set i (.sh d)) M1
private theorem js_set (hN : X.N.Nodup) (hi : X.N[i]? = some x) (hx : Loc X.env.scope x) (he : JE X e fe) (hs : swapsWith e (some (.Name x pos')) pos.line X.env = pure false := by rfl) (hf : X.fn x = true ∨ X.env.scope.names.lookup x = some .local := by first | exact .inl rfl | exact .inr rfl | assumption) :
    JS X (.Assign [.Name x pos'] e pos) (wSet i fe) := ⟨imS (ps_set hN hi hx he.h hs hf) fun D' σ H hh => ex5 hh fun Z F ρ M E ag hf k => ⟨Z, F, ρ, M, _, ag, hf, fun v H' F' d ρ' M' s' ag' r h => k.nx _ H' F' _ M' s' (ag'.set r) h⟩⟩
noncomputable def wSetN (i : Nat) (f : WN) : WS := fun E ρ M => f ρ M fun ds ρ1 M1 => E.nx (ρ1.set i (.ow ds)) M1
private theorem js_setN (hN : X.N.Nodup) (hi : X.N[i]? = some x) (hx : Loc X.env.scope x) (he : JN X e fn) (hs : swapsWith e (some (.Name x pos')) pos.line X.env = pure false := by rfl) (hf : X.fn x = true ∨ X.env.scope.names.lookup x = some .local := by first | exact .inl rfl | exact .inr rfl | assumption) :
    JS X (.Assign [.Name x pos'] e pos) (wSetN i fn) := ⟨imS (ps_set hN hi hx he.h hs hf) fun D' σ H hh => ex5 hh fun Z F ρ M E ag hf k => ⟨Z, F, ρ, M, _, ag, hf, fun p vs H' F' ds ρ' M' s' ag' n2 n3 n4 nz n5 r h => k.nx _ H' F' _ M' s' (ag'.setO n2 n3 n4 nz r n5) h⟩⟩
end
private theorem ow_get {K : PySem.W.Frag} {Z F H : Hp} {M : Mm} {ρ : Rho} {σ : L2.St} {i : Nat} {ds : List D} (ag : Ag K Z F M H ρ σ) (h : ρ[i]? = some (.ow ds)) : ∃ p vs, σ[i]? = some (some (.ref p)) ∧ H p = some (.lst vs) ∧ F p = none ∧ M p = none ∧ Z p = none ∧ Rps K F ds vs := by
  obtain ⟨p, vs, h1, h2⟩ := ag.en i _ h
  refine ⟨p, vs, ?_, h2⟩
  cases y : σ[i]? with
  | none => rw [y] at h1; cases h1
  | some o => rw [y] at h1; simp at h1; rw [h1]
private theorem Ag.chg {K : PySem.W.Frag} {Z F H : Hp} {M : Mm} {ρ : Rho} {σ : L2.St} {i : Nat} {ds es : List D} {p : Addr} {vs ws : List V} (ag : Ag K Z F M H ρ σ) (h : ρ[i]? = some (.ow ds)) (hs : σ[i]? = some (some (.ref p))) (h2 : H p = some (.lst vs)) (h3 : F p = none) (h4 : M p = none) (h5 : Z p = none) (r : Rps K F es ws) :
    Ag K Z F M (upd H p (.lst ws)) (ρ.set i (.ow es)) σ := by
  have hi : i < ρ.length := (List.getElem?_eq_some_iff.mp h).1
  have ne : ∀ {q : Addr} {u : HO}, F q = some u → q ≠ p := fun e z => by rw [z, h3] at e; cases e
  refine ⟨⟨fun q u e => by rw [upd_ne (ne e)]; exact ag.m.sm q u e, fun q o e => ?_, fun q o e => ?_⟩, by rw [List.length_set]; exact ag.len, fun j e q => ?_, fun j k ds' es' q n q1 q2 q3 => ?_⟩
  · obtain ⟨z1, z2, z3⟩ := ag.m.zz q o e
    have : q ≠ p := fun z => by rw [z, h5] at e; cases e
    exact ⟨by rw [upd_ne this]; exact z1, z2, z3⟩
  · obtain ⟨z1, z2⟩ := ag.m.mo q o e
    have : q ≠ p := fun z => by rw [z, h4] at e; cases e
    exact ⟨z1, z2.same (Same.refl _) (upd_ne this)⟩
  · by_cases hj : j = i
    · subst hj
      rw [List.getElem?_set_self hi] at q
      cases q
      exact ⟨p, ws, by rw [hs]; rfl, upd_same, h3, h4, h5, r⟩
    · rw [List.getElem?_set_ne (Ne.symm hj)] at q
      have := ag.en j e q
      cases e with
      | un => trivial
      | sh d => exact this
      | rf p => exact this
      | ut u => exact this
      | ow ds' =>
        obtain ⟨q', us, g1, g2, g3⟩ := this
        have hne : q' ≠ p := fun z => by
          subst z
          have hj' : σ[j]? = some (some (.ref q')) := by
            cases y : σ[j]? with
            | none => rw [y] at g1; cases g1
            | some o => rw [y] at g1; simp at g1; rw [g1]
          exact ag.di i j ds ds' q' (Ne.symm hj) h q hs hj'
        exact ⟨q', us, g1, by rw [upd_ne hne]; exact g2, g3⟩
  · have key : ∀ {j : Nat} {ds' : List D}, (ρ.set i (.ow es))[j]? = some (.ow ds') → ∃ ds'', ρ[j]? = some (.ow ds'') := fun {j ds'} q => by
      by_cases hj : j = i
      · subst hj; exact ⟨ds, h⟩
      · rw [List.getElem?_set_ne (Ne.symm hj)] at q; exact ⟨ds', q⟩
    obtain ⟨d1, e1⟩ := key q1
    obtain ⟨d2, e2⟩ := key q2
    exact ag.di j k d1 d2 q n e1 e2 q3
noncomputable def isOw : Option Ent → Prop
  | some (.ow _) => True
  | _ => False
private theorem isOw_of {o : Option Ent} (h : isOw o) : ∃ ds, o = some (.ow ds) := by
  unfold isOw at h
  split at h
  · exact ⟨_, rfl⟩
  · exact h.elim
noncomputable def wApp (i : Nat) (f : WE) : WS := fun E ρ M => isOw ρ[i]? ∧ f ρ M fun d ρ1 M1 => match ρ1[i]? with
  | some (.ow ds) => ds.length < sizeLine ∧ E.nx (ρ1.set i (.ow (ds ++ [d]))) M1
  | _ => False
private theorem js_app {i : Nat} (hh : PS X st (tDrop (tBM X.K "list" rAppend (tVar i) (lfA X.K (wCons fe wNil))))) : JS X st (wApp i fe) := ⟨imS hh fun D' σ H hh => ex5 hh fun Z F ρ M E ag hf k => by
  obtain ⟨ho, hf⟩ := hf
  obtain ⟨ds0, ho⟩ := isOw_of ho
  obtain ⟨p, vs, h1, h2, h3, h4, h5, h6⟩ := ow_get ag ho
  refine ⟨.ref p, h1, .inl ⟨rfl, vs, SqL.of h2⟩, Z, F, ρ, M, fun es ρ1 M1 => match es with
    | [d] => (match ρ1[i]? with
      | some (.ow ds) => ds.length < sizeLine ∧ E.nx (ρ1.set i (.ow (ds ++ [d]))) M1
      | _ => False)
    | _ => False, ag, hf, fun ws H1 F1 es ρ1 M1 s1 ag1 r1 hh => ?_⟩
  dsimp only at hh
  split at hh
  · rename_i d
    split at hh
    · rename_i ds hd
      obtain ⟨v, rfl, rv⟩ := rps1 r1
      obtain ⟨p', us, g1, g2, g3, g4, g5, g6⟩ := ow_get ag1 hd
      rw [h1] at g1
      cases g1
      refine ⟨p, us, v, rfl, rfl, g2, by rw [← g6.length]; exact hh.1, k.nx σ _ F1 _ M1 s1 (ag1.chg hd h1 g2 g3 g4 g5 (g6.append (.cons rv .nil))) hh.2⟩
    · exact hh.elim
  · exact hh.elim⟩
noncomputable def wSetIx (i : Nat) (fk fe : WE) : WS := fun E ρ M => fe ρ M fun d ρ1 M1 => isOw ρ1[i]? ∧ fk ρ1 M1 fun k ρ2 M2 => match ρ2[i]?, k with
  | some (.ow ds), .int j => (match ixN ds.length j with
    | some n => E.nx (ρ2.set i (.ow (ds.set n d))) M2
    | none => False)
  | _, _ => False
private theorem js_setIx {i : Nat} {fk : WE} (hh : PS X st (tAsg (lf X.K fe) (gSub (tVar i) (lf X.K fk) rSetL))) : JS X st (wSetIx i fk fe) := ⟨imS hh fun D' σ H hh => ex5 hh fun Z F ρ M E ag hf k => by
  refine ⟨Z, F, ρ, M, _, ag, hf, fun v H1 F1 d ρ1 M1 s1 ag1 r1 h1 => ?_⟩
  obtain ⟨ho, h1⟩ := h1
  obtain ⟨ds0, ho⟩ := isOw_of ho
  obtain ⟨p, vs, e1, e2, e3, e4, e5, e6⟩ := ow_get ag1 ho
  refine ⟨.ref p, e1, Z, F1, ρ1, M1, _, ag1, h1, fun u H2 F2 dk ρ2 M2 s2 ag2 r2 h2 => ?_⟩
  split at h2
  · rename_i ds j hd
    rw [Rp] at r2
    split at h2
    · rename_i n hn
      obtain ⟨p', us, g1, g2, g3, g4, g5, g6⟩ := ow_get ag2 hd
      rw [e1] at g1
      cases g1
      refine ⟨p, us, j, n, rfl, r2, g2, by rw [← g6.length]; exact hn, k.nx σ _ F2 _ M2 (s1.trans s2) (ag2.chg hd e1 g2 g3 g4 g5 (g6.set (r1.same s2) n)) h2⟩
    · exact h2.elim
  · exact h2.elim⟩
noncomputable def wAtO (i : Nat) (fk : WE) : WE := fun ρ M P => isOw ρ[i]? ∧ fk ρ M fun k ρ1 M1 => match ρ1[i]?, k with
  | some (.ow ds), .int j => (match atI ds j with
    | some d => P d ρ1 M1
    | none => False)
  | _, _ => False
private theorem j_atO {i : Nat} {fk : WE} (hh : PE X e (tOp (rIx X.K) (tVar i) (lf X.K fk))) : JE X e (wAtO i fk) := ⟨imE hh fun σ H Q hh => ex5 hh fun Z F ρ M P ag hf k => by
  obtain ⟨ho, hf⟩ := hf
  obtain ⟨ds0, ho⟩ := isOw_of ho
  obtain ⟨p, vs, e1, e2, e3, e4, e5, e6⟩ := ow_get ag ho
  refine ⟨.ref p, e1, Z, F, ρ, M, _, ag, hf, fun u H2 F2 dk ρ2 M2 s2 ag2 r2 h2 => ?_⟩
  split at h2
  · rename_i ds j hd
    rw [Rp] at r2
    split at h2
    · rename_i d hn
      obtain ⟨p', us, g1, g2, g3, g4, g5, g6⟩ := ow_get ag2 hd
      rw [e1] at g1
      cases g1
      obtain ⟨w, a1, a2⟩ := at_rps g6 hn
      exact .inl ⟨p, us, j, w, rfl, r2, SqL.of g2, a1, k w H2 F2 d ρ2 M2 s2 ag2 a2 h2⟩
    · exact h2.elim
  · exact h2.elim⟩
end
end L4
set_option Elab.async false
set_option linter.all false
set_option maxRecDepth 100000
namespace L4
open PySem PySem.Spec PyProof.Rows L2 L3
structure ItOk (K : PySem.W.Frag) (J : It) (F : Hp) (ds : List D) : Prop where
  go : ∀ i F' H, i < ds.length → Same F F' → Same F' H → J.go i H
  stop : ∀ F' H, Same F F' → Same F' H → J.stop ds.length H
  yld : ∀ (i : Nat) d F' H x H', ds[i]? = some d → Same F F' → Same F' H → J.yld i H x H' → ∃ F'', Gw F' H F'' H' ∧ Rp K F'' d x
noncomputable abbrev WI := Rho → Mm → (List D → Rho → Mm → Prop) → Prop
noncomputable def lfI (K : PySem.W.Frag) (f : WI) : TI := fun σ H R => ∃ Z F ρ M P, Ag K Z F M H ρ σ ∧ f ρ M P ∧ ∀ J H' F' ds ρ' M', Same F F' → Ag K Z F' M' H' ρ' σ → ItOk K J F' ds → P ds ρ' M' → R J H'
structure JI (X : Cx) (tg iter : Expr) (f : WI) : Prop where
  h : PI X tg iter (lfI X.K f)
private theorem imI {X : Cx} {tg iter : Expr} {t t' : TI} (h : PI X tg iter t) (k : ∀ σ H R, t' σ H R → t σ H R) : PI X tg iter t' := fun pins s σ H R I q => h pins s σ H R I (k σ H R q)
section
variable {X : Cx} {a b c e tg iter : Expr} {es rest : List Expr} {pos p : Pos} {fa fb fe : WE} {ft fu : WT} {fl : WA} {fn : WN} {st : Stmt} {sts : List Stmt} {fs gs : WS} {x : Str} {fi : WI} {fg : WG}
noncomputable def wIL (f : WE) : WI := fun ρ M P => f ρ M fun d ρ1 M1 => match d with
  | .lst ds => P ds ρ1 M1
  | _ => False
private theorem ji_list (ha : JE X a fa) : JI X tg a (wIL fa) := ⟨imI (pi_list ha.h) fun σ H R hh => ex5 hh fun Z F ρ M P ag hf k => ⟨Z, F, ρ, M, _, ag, hf, fun v H1 F1 d ρ1 M1 s1 ag1 r1 h1 => by
  split at h1
  · rename_i ds
    rw [Rp] at r1
    obtain ⟨q, vs, rfl, g1, g2⟩ := r1
    refine ⟨q, rfl, ⟨vs, .inl (rd_same ag1.m.sm g1)⟩, k _ H1 F1 ds ρ1 M1 s1 ag1 ⟨fun i F' H hi s s' => ?_, fun F' H s s' => ?_, fun i d F' H x H' hd s s' y => ?_⟩ h1⟩
    · exact ⟨vs, _, .inl (rd_same s' (rd_same s g1)), List.getElem?_eq_getElem (by rw [← g2.length]; exact hi)⟩
    · exact ⟨vs, .inl (rd_same s' (rd_same s g1)), by rw [g2.length]; exact Nat.le_refl _⟩
    · obtain ⟨rfl, y⟩ := y
      obtain ⟨w, h2, h3⟩ := g2.get hd
      have := y vs (.inl (rd_same s' (rd_same s g1)))
      rw [h2] at this
      cases this
      exact ⟨F', .rf, h3.same s⟩
  · exact h1.elim⟩⟩
noncomputable def rngD (lo : Int) (n : Nat) : List D := (List.range n).map fun (k : Nat) => D.int (lo + (k : Int))
private theorem it_rng {K : PySem.W.Frag} {F : Hp} (lo : Int) (n : Nat) : ItOk K (Itr lo n) F (rngD lo n) := by
  have hl : (rngD lo n).length = n := by unfold rngD; simp
  refine ⟨fun i F' H hi _ _ => ?_, fun F' H _ _ => ?_, fun i d F' H x H' hd s s' y => ?_⟩
  · show i < n
    omega
  · show n ≤ _
    omega
  · obtain ⟨rfl, rfl⟩ := y
    refine ⟨F', .rf, ?_⟩
    unfold rngD at hd
    rw [List.getElem?_map] at hd
    cases q : (List.range n)[i]? with
    | none => rw [q] at hd; cases hd
    | some j =>
      rw [q] at hd
      obtain ⟨hj, e⟩ := List.getElem?_eq_some_iff.mp q
      simp at e
      subst e
      simp at hd
      subst hd
      rw [Rp]
noncomputable def wIR1 (f : WA) : WI := fun ρ M P => f ρ M fun ds ρ1 M1 => match ds with
  | [.int j] => (-(2 ^ 62) ≤ j ∧ j < 2 ^ 62) ∧ P (rngD 0 j.toNat) ρ1 M1
  | _ => False
noncomputable def wIR2 (f : WA) : WI := fun ρ M P => f ρ M fun ds ρ1 M1 => match ds with
  | [.int i, .int j] => (-(2 ^ 62) ≤ i ∧ i < 2 ^ 62 ∧ -(2 ^ 62) ≤ j ∧ j < 2 ^ 62) ∧ P (rngD i (j - i).toNat) ρ1 M1
  | _ => False
private theorem ji_rng1 (hg : Gl X "range") (hm : X.mg "range" = none) (ha : JA X [a] fl) (hs : starEach [a] X.env = [(false, eval a X.env)] := by rfl) : JI X tg (.Call (.Name "range" p) [a] [] pos) (wIR1 fl) := ⟨imI (pi_range1 hg hm ha.h hs) fun σ H R hh => ex5 hh fun Z F ρ M P ag hf k => ⟨Z, F, ρ, M, _, ag, hf, fun vs H1 F1 ds ρ1 M1 s1 ag1 r1 h1 => by
  split at h1
  · rename_i j
    obtain ⟨v, rfl, rv⟩ := rps1 r1
    rw [Rp] at rv
    subst rv
    exact ⟨j, rfl, h1.1.1, h1.1.2, k _ H1 F1 _ ρ1 M1 s1 ag1 (it_rng 0 _) h1.2⟩
  · exact h1.elim⟩⟩
private theorem ji_rng2 (hg : Gl X "range") (hm : X.mg "range" = none) (ha : JA X [a, b] fl) (hs : starEach [a, b] X.env = [(false, eval a X.env), (false, eval b X.env)] := by rfl) (hs2 : starEach [b] X.env = [(false, eval b X.env)] := by rfl) : JI X tg (.Call (.Name "range" p) [a, b] [] pos) (wIR2 fl) := ⟨imI (pi_range2 hg hm ha.h hs hs2) fun σ H R hh => ex5 hh fun Z F ρ M P ag hf k => ⟨Z, F, ρ, M, _, ag, hf, fun vs H1 F1 ds ρ1 M1 s1 ag1 r1 h1 => by
  split at h1
  · rename_i i j
    obtain ⟨v, u, rfl, rv, ru⟩ := rps2 r1
    rw [Rp] at rv ru
    subst rv ru
    exact ⟨i, j, rfl, h1.1, k _ H1 F1 _ ρ1 M1 s1 ag1 (it_rng i _) h1.2⟩
  · exact h1.elim⟩⟩
noncomputable def zipD : List D → List D → List D
  | x :: xs, y :: ys => .tup [x, y] :: zipD xs ys
  | _, _ => []
private theorem zipD_len : ∀ (xs ys : List D), (zipD xs ys).length = min xs.length ys.length
  | [], _ => by simp [zipD]
  | _ :: _, [] => by simp [zipD]
  | x :: xs, y :: ys => by rw [zipD, List.length_cons, zipD_len xs ys]; simp
private theorem zipD_get : ∀ {xs ys : List D} {i : Nat} {d : D}, (zipD xs ys)[i]? = some d → ∃ x y, xs[i]? = some x ∧ ys[i]? = some y ∧ d = .tup [x, y]
  | [], _, _, _, h => by simp [zipD] at h
  | _ :: _, [], _, _, h => by simp [zipD] at h
  | x :: xs, y :: ys, 0, d, h => by simp [zipD] at h; exact ⟨x, y, rfl, rfl, h.symm⟩
  | x :: xs, y :: ys, i + 1, d, h => by
    rw [zipD, List.getElem?_cons_succ] at h
    obtain ⟨a, b, h1, h2, h3⟩ := zipD_get h
    exact ⟨a, b, by simpa using h1, by simpa using h2, h3⟩
noncomputable def wIZ (f : WA) : WI := fun ρ M P => f ρ M fun ds ρ1 M1 => match ds with
  | [.lst xs, .lst ys] => P (zipD xs ys) ρ1 M1
  | _ => False
private theorem ji_zip {tpos : Pos} {elts : List Expr} {k : Nat} (hg : Gl X "zip") (hm : X.mg "zip" = none) (ha : JA X [a, b] fl) (hs : starEach [a, b] X.env = [(false, eval a X.env), (false, eval b X.env)] := by rfl) (hs2 : starEach [b] X.env = [(false, eval b X.env)] := by rfl) : JI X (.Tuple elts k tpos) (.Call (.Name "zip" p) [a, b] [] pos) (wIZ fl) := ⟨imI (pi_zip hg hm ha.h hs hs2) fun σ H R hh => ex5 hh fun Z F ρ M P ag hf k => ⟨Z, F, ρ, M, _, ag, hf, fun vs H1 F1 ds ρ1 M1 s1 ag1 r1 h1 => by
  split at h1
  · rename_i xs ys
    obtain ⟨v, u, rfl, rv, ru⟩ := rps2 r1
    rw [Rp] at rv ru
    obtain ⟨q, vs, rfl, g1, g2⟩ := rv
    obtain ⟨q', us, rfl, g3, g4⟩ := ru
    refine ⟨q, q', rfl, ⟨vs, .inl (rd_same ag1.m.sm g1)⟩, ⟨us, .inl (rd_same ag1.m.sm g3)⟩, k _ H1 F1 _ ρ1 M1 s1 ag1 ⟨fun i F' H hi s s' => ?_, fun F' H s s' => ?_, fun i d F' H x H' hd s s' y => ?_⟩ h1⟩
    · rw [zipD_len, g2.length, g4.length] at hi
      exact ⟨vs, us, _, _, .inl (rd_same s' (rd_same s g1)), .inl (rd_same s' (rd_same s g3)), List.getElem?_eq_getElem (by omega), List.getElem?_eq_getElem (by omega)⟩
    · refine ⟨vs, us, .inl (rd_same s' (rd_same s g1)), .inl (rd_same s' (rd_same s g3)), ?_⟩
      rw [zipD_len, g2.length, g4.length]
      omega
    · obtain ⟨p, w1, w2, rfl, hp, rfl, y1, y2⟩ := y
      obtain ⟨d1, d2, e1, e2, rfl⟩ := zipD_get hd
      obtain ⟨z1, f1, f2⟩ := g2.get e1
      obtain ⟨z2, f3, f4⟩ := g4.get e2
      have q1 := y1 vs (.inl (rd_same s' (rd_same s g1)))
      have q2 := y2 us (.inl (rd_same s' (rd_same s g3)))
      rw [f1] at q1
      cases q1
      rw [f3] at q2
      cases q2
      have hF : F' p = none := sub_none s' hp
      have sn : Same F' (upd F' p (.tup [w1, w2])) := Same.new hF
      refine ⟨_, .nw hp, ?_⟩
      rw [Rp]
      exact ⟨p, _, rfl, SqT.of upd_same, .cons ((f2.same s).same sn) (.cons ((f4.same s).same sn) .nil)⟩
  · exact h1.elim⟩⟩
noncomputable def gN (i : Nat) : WG := fun d ρ M P => P (ρ.set i (.sh d)) M
private theorem jg_name {i : Nat} (hN : X.N.Nodup) (hi : X.N[i]? = some x) (hx : Loc X.env.scope x) (hf : X.fn x = true ∨ X.env.scope.names.lookup x = some .local := by first | exact .inl rfl | exact .inr rfl | assumption) : JG X (.Name x pos) (gN i) := ⟨imG (pg_name hN hi hx hf) fun v σ H Q hh => ex6 hh fun Z F ρ M d P ag r hf k => k _ H F _ M (Same.refl _) (ag.set r) hf⟩
noncomputable def gNil4 : WGs := fun ds ρ M P => match ds with
  | [] => P ρ M
  | _ => False
noncomputable def gCons4 (g : WG) (h : WGs) : WGs := fun ds ρ M P => match ds with
  | d :: r => g d ρ M fun ρ1 M1 => h r ρ1 M1 P
  | _ => False
private theorem jgs_nil : JGs X [] gNil4 := ⟨imGs pgs_nil fun vs σ H Q hh => ex6 hh fun Z F ρ M ds P ag r hf k => by
  unfold gNil4 at hf
  split at hf
  · rw [Rps] at r
    exact ⟨r, k σ H F ρ M (Same.refl _) ag hf⟩
  · exact hf.elim⟩
private theorem jgs_cons {fh : WGs} (h1 : JG X e fg) (h2 : JGs X es fh) (hs : (assignEach (e :: es) X.env).map (·.2) = assign e X.env :: (assignEach es X.env).map (·.2) := by rfl) : JGs X (e :: es) (gCons4 fg fh) := ⟨imGs (pgs_cons h1.h h2.h hs) fun vs σ H Q hh => ex6 hh fun Z F ρ M ds P ag r hf k => by
  unfold gCons4 at hf
  split at hf
  · rw [Rps] at r
    obtain ⟨v, vr, rfl, r1, r2⟩ := r
    exact ⟨v, vr, rfl, Z, F, ρ, M, _, _, ag, r1, hf, fun σ' H' F' ρ' M' s' ag' h => ⟨Z, F', ρ', M', _, P, ag', r2.same s', h, fun σ2 H2 F2 ρ2 M2 s2 => k σ2 H2 F2 ρ2 M2 (s'.trans s2)⟩⟩
  · exact hf.elim⟩
noncomputable def gTup4 (n : Nat) (g : WGs) : WG := fun d ρ M P => match d with
  | .tup ds => ds.length = n ∧ g ds ρ M P
  | _ => False
private theorem jg_tup {fh : WGs} {k n : Nat} (hc : X.calm = true) (h : JGs X es fh) (hn : (assignEach es X.env).length = n := by rfl) (hst : (assignEach es X.env).findIdx? (·.1) = none := by rfl) : JG X (.Tuple es k pos) (gTup4 n fh) := ⟨imG (pg_tup hc h.h hn hst) fun v σ H Q hh => ex6 hh fun Z F ρ M d P ag r hf k => by
  unfold gTup4 at hf
  split at hf
  · rw [Rp] at r
    obtain ⟨q, vs, rfl, g1, g2⟩ := r
    exact ⟨q, vs, rfl, sqT_same ag.m.sm g1, by rw [← g2.length]; exact hf.1, Z, F, ρ, M, _, P, ag, g2, hf.2, k⟩
  · exact hf.elim⟩
noncomputable def wAsg (f : WE) (g : WG) : WS := fun E ρ M => f ρ M fun d ρ1 M1 => g d ρ1 M1 E.nx
private theorem js_asg (he : JE X e fe) (hg : JG X tg fg) (hs : swapsWithSole [tg] e pos.line X.env = pure false := by rfl) (hw : swappedStores [tg] e X.env = pure none := by rfl) (h1 : (assignEach [tg] X.env).map (·.2) = [assign tg X.env] := by rfl) : JS X (.Assign [tg] e pos) (wAsg fe fg) := ⟨imS (ps_asg he.h hg.h hs hw h1) fun D' σ H hh => ex5 hh fun Z F ρ M E ag hf k =>
  ⟨Z, F, ρ, M, _, ag, hf, fun v H1 F1 d ρ1 M1 s1 ag1 r1 h1 => ⟨Z, F1, ρ1, M1, d, _, ag1, r1, h1, fun σ' H' F' ρ' M' s' ag' h => k.nx σ' H' F' ρ' M' (s1.trans s') ag' h⟩⟩⟩
noncomputable def wPar (i j : Nat) (f : WA) : WS := fun E ρ M => f ρ M fun ds ρ1 M1 => match ds with
  | [d, e] => E.nx ((ρ1.set i (.sh d)).set j (.sh e)) M1
  | _ => False
private theorem js_par {i j : Nat} (hh : PS X st (tPar i j (lfA X.K fl))) : JS X st (wPar i j fl) := ⟨imS hh fun D' σ H hh => ex5 hh fun Z F ρ M E ag hf k =>
  ⟨Z, F, ρ, M, _, ag, hf, fun vs H1 F1 ds ρ1 M1 s1 ag1 r1 h1 => by
    split at h1
    · obtain ⟨v, u, rfl, rv, ru⟩ := rps2 r1
      exact ⟨v, u, rfl, k.nx _ H1 F1 _ M1 s1 ((ag1.set rv).set ru) h1⟩
    · exact h1.elim⟩⟩
noncomputable def wFor (f : WI) (g : WG) (b : WS) : WS := fun E ρ M => f ρ M fun ds ρ1 M1 => ∃ I : Nat → Rho → Mm → Prop, I 0 ρ1 M1 ∧ (∀ (i : Nat) d ρ2 M2, ds[i]? = some d → I i ρ2 M2 → g d ρ2 M2 fun ρ3 M3 => b ⟨I (i + 1), E.rt, E.nx, I (i + 1)⟩ ρ3 M3) ∧ ∀ ρ2 M2, I ds.length ρ2 M2 → E.nx ρ2 M2
private theorem js_for {body : List Stmt} (hp : PassesOwn (model X.prog X.w) X.A X.env X.xe) (hc : X.calm = true) (hi : JI X tg iter fi) (hg : JG X tg fg) (hb : JSs X body fs) (hs : ∀ x, foldedSetIterable iter X.env x = pure x := by intro _; rfl) : JS X (.For tg iter body [] pos) (wFor fi fg fs) := ⟨imS (ps_for hp hc hi.h hg.h hb.h hs) fun D' σ H hh => ex5 hh fun Z F ρ M E ag hf k => ⟨Z, F, ρ, M, _, ag, hf, fun J H1 F1 ds ρ1 M1 s1 ag1 it h1 => by
  obtain ⟨In, i0, step, fin⟩ := h1
  refine ⟨fun i m σ' H' => m = ds.length - i ∧ i ≤ ds.length ∧ ∃ F' ρ' M', Same F1 F' ∧ Ag X.K Z F' M' H' ρ' σ' ∧ In i ρ' M', ⟨_, rfl, Nat.zero_le _, F1, ρ1, M1, Same.refl _, ag1, i0⟩, ?_⟩
  rintro i m σ2 H2 ⟨rfl, hi, F2, ρ2, M2, s2, ag2, h2⟩
  by_cases hl : i < ds.length
  · have e : ds[i]? = some ds[i] := List.getElem?_eq_getElem hl
    refine .inr ⟨it.go i F2 H2 hl s2 ag2.m.sm, fun σ' H' => ∃ F' ρ' M', Same F1 F' ∧ Ag X.K Z F' M' H' ρ' σ' ∧ In (i + 1) ρ' M', fun σ' H' q => ⟨ds.length - (i + 1), by omega, rfl, hl, q⟩, fun x H' y => ?_⟩
    obtain ⟨F3, gw, r3⟩ := it.yld i _ F2 H2 x H' e s2 ag2.m.sm y
    have s3 := gw.same ag2.m.sm
    refine ⟨Z, F3, ρ2, M2, _, _, gw.ag ag2, r3, step i _ ρ2 M2 e h2, fun σ4 H4 F4 ρ4 M4 s4 ag4 h4 => ⟨Z, F4, ρ4, M4, _, ag4, h4, ?_⟩⟩
    have s14 := s2.trans (s3.trans s4)
    refine ⟨fun σ' H' F' ρ' M' t a q => ⟨F', ρ', M', s14.trans t, a, q⟩, fun σ' H' F' ρ' M' t a q => k.nx σ' H' F' ρ' M' (s1.trans (s14.trans t)) a q, fun σ' H' F' ρ' M' t a q => ⟨F', ρ', M', s14.trans t, a, q⟩, fun v H' F' d M' t a r q => k.rt v H' F' d M' (s1.trans (s14.trans t)) a r q⟩
  · have : i = ds.length := by omega
    subst this
    exact .inl ⟨it.stop F2 H2 s2 ag2.m.sm, k.nx σ2 H2 F2 ρ2 M2 (s1.trans s2) ag2 (fin ρ2 M2 h2)⟩⟩⟩
noncomputable def wWhile (c : WT) (b : WS) : WS := fun E ρ M => ∃ W : Nat → Rho → Mm → Prop, (∃ m, W m ρ M) ∧ ∀ m ρ M, W m ρ M → c ρ M fun k ρ1 M1 => if k = true then b ⟨fun ρ2 M2 => ∃ m', m' < m ∧ W m' ρ2 M2, E.rt, E.nx, fun ρ2 M2 => ∃ m', m' < m ∧ W m' ρ2 M2⟩ ρ1 M1 else E.nx ρ1 M1
private theorem js_while {body : List Stmt} (hp : PassesOwn (model X.prog X.w) X.A X.env X.xe) (hc : JT X c ft) (hb : JSs X body fs) : JS X (.While c body [] pos) (wWhile ft fs) := ⟨imS (ps_while hp hc.h hb.h) fun D' σ H hh => ex5 hh fun Z F ρ M E ag hf k => by
  obtain ⟨W, ⟨m0, w0⟩, turn⟩ := hf
  refine ⟨fun m σ' H' => ∃ F' ρ' M', Same F F' ∧ Ag X.K Z F' M' H' ρ' σ' ∧ W m ρ' M', ⟨m0, F, ρ, M, Same.refl _, ag, w0⟩, ?_⟩
  rintro m σ1 H1 ⟨F1, ρ1, M1, s1, ag1, w1⟩
  refine ⟨Z, F1, ρ1, M1, _, ag1, turn m ρ1 M1 w1, fun b H2 F2 ρ2 M2 s2 ag2 h2 => ?_⟩
  cases b with
  | false => rw [if_neg Bool.false_ne_true] at h2 ⊢; exact k.nx σ1 H2 F2 ρ2 M2 (s1.trans s2) ag2 h2
  | true =>
    rw [if_pos rfl] at h2 ⊢
    refine ⟨fun σ' H' => ∃ m', m' < m ∧ ∃ F' ρ' M', Same F F' ∧ Ag X.K Z F' M' H' ρ' σ' ∧ W m' ρ' M', fun _ _ h => h, Z, F2, ρ2, M2, _, ag2, h2, ?_⟩
    have s02 := s1.trans s2
    exact ⟨fun σ' H' F' ρ' M' t a ⟨m', hm, q⟩ => ⟨m', hm, F', ρ', M', s02.trans t, a, q⟩, fun σ' H' F' ρ' M' t a q => k.nx σ' H' F' ρ' M' (s02.trans t) a q, fun σ' H' F' ρ' M' t a ⟨m', hm, q⟩ => ⟨m', hm, F', ρ', M', s02.trans t, a, q⟩, fun v H' F' d M' t a r q => k.rt v H' F' d M' (s02.trans t) a r q⟩⟩
end
noncomputable def iniR (src : List (Option Nat)) (ρ : Rho) : Rho := src.map fun o => match o with
  | none => .un
  | some j => (match ρ[j]? with
    | some (.sh d) => .sh d
    | some (.rf p) => .rf p
    | some (.ut u) => .ut u
    | _ => .un)
private theorem ag_ini {K : PySem.W.Frag} {Z F H : Hp} {M : Mm} {ρ : Rho} {σ : L2.St} (src : List (Option Nat)) (ag : Ag K Z F M H ρ σ) : Ag K (Zof F M H) F M H (iniR src ρ) (ini src σ) := by
  refine ⟨ag.m.inner, by unfold iniR ini; rw [List.length_map, List.length_map], fun i e h => ?_, fun i j ds es p n h1 h2 h3 => ?_⟩
  · unfold iniR at h
    rw [List.getElem?_map] at h
    unfold ini
    rw [List.getElem?_map]
    cases q : src[i]? with
    | none => rw [q] at h; cases h
    | some o =>
      rw [q] at h
      cases o with
      | none => cases h; trivial
      | some j =>
        simp only [Option.map_some, Option.some.injEq] at h
        simp only [Option.map_some, Option.bind_some, Option.join_some]
        cases q2 : ρ[j]? with
        | none => rw [q2] at h; subst h; trivial
        | some en =>
          rw [q2] at h
          have hen := ag.en j en q2
          cases en with
          | un => subst h; trivial
          | sh d => subst h; exact hen
          | rf p => subst h; exact hen
          | ut u => subst h; exact hen
          | ow ds => subst h; trivial
  · exfalso
    unfold iniR at h1
    rw [List.getElem?_map] at h1
    cases q : src[i]? with
    | none => rw [q] at h1; cases h1
    | some o =>
      rw [q] at h1
      cases o with
      | none => cases h1
      | some j =>
        simp only [Option.map_some, Option.some.injEq] at h1
        split at h1 <;> cases h1
noncomputable def clr (ρ : Rho) : Rho := ρ.map fun e => match e with
  | .ow _ => .un
  | e => e
private theorem ag_clr {K : PySem.W.Frag} {Z Z' F H : Hp} {M : Mm} {ρ : Rho} {σ : L2.St} (ag : Ag K Z F M H ρ σ) (m : AgM K Z' F M H) : Ag K Z' F M H (clr ρ) σ := by
  have key : ∀ {i : Nat} {e : Ent}, (clr ρ)[i]? = some e → (e = .un ∨ ρ[i]? = some e) ∧ ∀ ds, e ≠ .ow ds := fun {i e} h => by
    unfold clr at h
    rw [List.getElem?_map] at h
    cases q : ρ[i]? with
    | none => rw [q] at h; cases h
    | some en =>
      rw [q] at h
      cases en with
      | un => cases h; exact ⟨.inl rfl, fun _ z => nomatch z⟩
      | sh d => cases h; exact ⟨.inr rfl, fun _ z => nomatch z⟩
      | rf p => cases h; exact ⟨.inr rfl, fun _ z => nomatch z⟩
      | ut u => cases h; exact ⟨.inr rfl, fun _ z => nomatch z⟩
      | ow ds => cases h; exact ⟨.inl rfl, fun _ z => nomatch z⟩
  refine ⟨m, by unfold clr; rw [List.length_map]; exact ag.len, fun i e h => ?_, fun i j ds es p n h1 _ _ => absurd rfl ((key h1).2 ds)⟩
  obtain ⟨h1, h2⟩ := key h
  rcases h1 with rfl | h1
  · trivial
  · have := ag.en i e h1
    cases e with
    | un => trivial
    | sh d => exact this
    | rf p => exact this
    | ut u => exact this
    | ow ds => exact absurd rfl (h2 ds)
noncomputable def wComp (fi : WI) (g : WG) (c : WT) (f : WE) (src : List (Option Nat)) : WN := fun ρ M P => fi ρ M fun ds ρ1 M1 => ∃ I : Nat → List D → Rho → Mm → Prop, I 0 [] (iniR src ρ1) M1 ∧
  (∀ (i : Nat) d out ρ2 M2, ds[i]? = some d → I i out ρ2 M2 → g d ρ2 M2 fun ρ3 M3 => c ρ3 M3 fun b ρ4 M4 => if b = true then f ρ4 M4 fun y ρ5 M5 => out.length < sizeLine ∧ I (i + 1) (out ++ [y]) (clr ρ5) M5 else I (i + 1) out (clr ρ4) M4) ∧
  ∀ out ρ2 M2, I ds.length out ρ2 M2 → P out ρ1 M2
noncomputable def wYes : WT := fun ρ M P => P true ρ M
private theorem of_yes {K : PySem.W.Frag} : ∀ σ H Q, lfT K wYes σ H Q → tYes σ H Q := fun σ H Q hh => ex5 hh fun Z F ρ M P ag hf k => k true H F ρ M (Same.refl _) ag hf
noncomputable abbrev lfX {α : Type} (K : PySem.W.Frag) (R : Hp → α → V → Prop) (f : Rho → Mm → (α → Rho → Mm → Prop) → Prop) : TE := fun σ H Q => ∃ Z F ρ M P, Ag K Z F M H ρ σ ∧ f ρ M P ∧ ∀ v H' F' d ρ' M', Same F F' → Ag K Z F' M' H' ρ' σ → R F' d v → P d ρ' M' → Q v H'
noncomputable abbrev lfNX {α : Type} (K : PySem.W.Frag) (RL : Hp → List α → List V → Prop) (f : Rho → Mm → (List α → Rho → Mm → Prop) → Prop) : TE := fun σ H Q => ∃ Z F ρ M P, Ag K Z F M H ρ σ ∧ f ρ M P ∧ ∀ p vs H' F' ds ρ' M', Same F F' → Ag K Z F' M' H' ρ' σ → H' p = some (.lst vs) → F' p = none → M' p = none → Z p = none → (∀ (j : Nat) (es : List D), ρ'[j]? = some (.ow es) → σ[j]? ≠ some (some (.ref p))) → RL F' ds vs → P ds ρ' M' → Q (.ref p) H'
noncomputable abbrev wCompX {α : Type} (fi : WI) (g : WG) (c : WT) (f : Rho → Mm → (α → Rho → Mm → Prop) → Prop) (src : List (Option Nat)) : Rho → Mm → (List α → Rho → Mm → Prop) → Prop := fun ρ M P => fi ρ M fun ds ρ1 M1 => ∃ I : Nat → List α → Rho → Mm → Prop, I 0 [] (iniR src ρ1) M1 ∧
  (∀ (i : Nat) d out ρ2 M2, ds[i]? = some d → I i out ρ2 M2 → g d ρ2 M2 fun ρ3 M3 => c ρ3 M3 fun b ρ4 M4 => if b = true then f ρ4 M4 fun y ρ5 M5 => out.length < sizeLine ∧ I (i + 1) (out ++ [y]) (clr ρ5) M5 else I (i + 1) out (clr ρ4) M4) ∧
  ∀ out ρ2 M2, I ds.length out ρ2 M2 → P out ρ1 M2
private theorem of_compX {α : Type} {K : PySem.W.Frag} {R : Hp → α → V → Prop} {RL : Hp → List α → List V → Prop} (rn : ∀ F, RL F [] []) (rs : ∀ {F F' out ws}, Same F F' → RL F out ws → RL F' out ws) (rl : ∀ {F out ws}, RL F out ws → out.length = ws.length) (rc : ∀ {F out ws d v}, RL F out ws → R F d v → RL F (out ++ [d]) (ws ++ [v]))
    {fi : WI} {fg : WG} {fc : WT} {fe : Rho → Mm → (α → Rho → Mm → Prop) → Prop} {src : List (Option Nat)} {g : TG} {tc : TT} {te : TE} (hg : ∀ v σ H Q, lfG K fg v σ H Q → g v σ H Q) (hc : ∀ σ H Q, lfT K fc σ H Q → tc σ H Q) (he : ∀ σ H Q, lfX K R fe σ H Q → te σ H Q) :
    ∀ σ H Q, lfNX K RL (wCompX fi fg fc fe src) σ H Q → tComp (lfI K fi) g tc te src σ H Q := fun σ H Q hh => ex5 hh fun Z F ρ M P ag hf k => ⟨Z, F, ρ, M, _, ag, hf, fun J H1 F1 ds ρ1 M1 s1 ag1 it h1 D0 hD => by
  -- the new list at D0, the outer state as it was
  obtain ⟨In, i0, step, fin⟩ := h1
  obtain ⟨n1, n2, n3, n4, n5, n6, _⟩ := newN (ds := []) (vs := []) ag1 hD .nil
  refine ⟨fun i m σc Hc => m = ds.length - i ∧ i ≤ ds.length ∧ ∃ F' ρc M' out ws, Same F1 F' ∧ AgM K (Zof F1 M1 H1) F' M' Hc ∧ Hc D0 = some (.lst ws) ∧ F' D0 = none ∧ M' D0 = none ∧ RL F' out ws ∧
      Ag K (Zof F' M' Hc) F' M' Hc ρc σc ∧ In i out ρc M', ⟨_, rfl, Nat.zero_le _, F1, iniR src ρ1, M1, [], [], Same.refl _, ?_, n2, n3, n4, rn _, ?_, i0⟩, ?_⟩
  · refine ⟨n1.m.sm, fun p o h => ?_, n1.m.mo⟩
    obtain ⟨z1, z2, z3⟩ := zof_some h
    have : p ≠ D0 := fun z => by rw [z, hD] at z1; cases z1
    exact ⟨by rw [upd_ne this]; exact z1, z2, z3⟩
  · exact ag_ini src n1
  rintro i m σ2 H2 ⟨rfl, hi, F2, ρ2, M2, out, ws, s2, m2, d1, d2, d3, r2, ag2, h2⟩
  by_cases hl : i < ds.length
  · have e : ds[i]? = some ds[i] := List.getElem?_eq_getElem hl
    refine .inr ⟨it.go i F2 H2 hl s2 ag2.m.sm, fun σc Hc => ∃ F' ρc M' out ws, Same F1 F' ∧ AgM K (Zof F1 M1 H1) F' M' Hc ∧ Hc D0 = some (.lst ws) ∧ F' D0 = none ∧ M' D0 = none ∧ RL F' out ws ∧
      Ag K (Zof F' M' Hc) F' M' Hc ρc σc ∧ In (i + 1) out ρc M', fun σ' H' q => ⟨ds.length - (i + 1), by omega, rfl, hl, q⟩, fun x H' y => ?_⟩
    obtain ⟨F3, gw, r3⟩ := it.yld i _ F2 H2 x H' e s2 ag2.m.sm y
    have s3 := gw.same ag2.m.sm
    have zd : Zof F2 M2 H2 D0 = some (.lst ws) := zof_of d1 d2 d3
    refine hg _ _ _ _ ⟨Zof F2 M2 H2, F3, ρ2, M2, _, _, gw.ag ag2, r3, step i _ out ρ2 M2 e h2, fun σ4 H4 F4 ρ4 M4 s4 ag4 h4 => ?_⟩
    refine hc _ _ _ ⟨Zof F2 M2 H2, F4, ρ4, M4, _, ag4, h4, fun b H5 F5 ρ5 M5 s5 ag5 h5 => ?_⟩
    have s25 := s3.trans (s4.trans s5)
    dsimp only
    cases b with
    | false =>
      rw [if_neg Bool.false_ne_true] at h5 ⊢
      obtain ⟨z1, z2, z3⟩ := ag5.m.zz _ _ zd
      exact ⟨F5, clr ρ5, M5, out, ws, s2.trans s25, m2.back ag5.m, z1, z2, z3, rs s25 r2, ag_clr ag5 ag5.m.inner, h5⟩
    | true =>
      rw [if_pos rfl] at h5 ⊢
      refine he _ _ _ ⟨Zof F2 M2 H2, F5, ρ5, M5, _, ag5, h5, fun v H6 F6 d ρ6 M6 s6 ag6 r6 h6 => ?_⟩
      obtain ⟨z1, z2, z3⟩ := ag6.m.zz _ _ zd
      have s26 := s25.trans s6
      have m6 := m2.back ag6.m
      have ne : ∀ {q : Addr} {u : HO}, F6 q = some u → q ≠ D0 := fun e z => by rw [z, z2] at e; cases e
      have nz : Zof F1 M1 H1 D0 = none := by
        cases q : Zof F1 M1 H1 D0 with
        | none => rfl
        | some o => have := (zof_some q).1; rw [hD] at this; cases this
      have up : ∀ {Z' : Hp}, (∀ p o, Z' p = some o → p ≠ D0) → AgM K Z' F6 M6 H6 → AgM K Z' F6 M6 (upd H6 D0 (.lst (ws ++ [v]))) := fun {Z'} hz a => ⟨fun q u e => by rw [upd_ne (ne e)]; exact a.sm q u e, fun q o e => by
          obtain ⟨y1, y2, y3⟩ := a.zz q o e
          exact ⟨by rw [upd_ne (hz q o e)]; exact y1, y2, y3⟩, fun q o e => by
          obtain ⟨y1, y2⟩ := a.mo q o e
          have : q ≠ D0 := fun z => by rw [z, z3] at e; cases e
          exact ⟨y1, y2.same (Same.refl _) (upd_ne this)⟩⟩
      have a6 := up (Z' := Zof F1 M1 H1) (fun p o e z => by rw [z, nz] at e; cases e) m6
      refine ⟨ws, z1, by rw [← rl r2]; exact h6.1, F6, clr ρ6, M6, out ++ [d], ws ++ [v], s2.trans s26, a6, upd_same, z2, z3, rc (rs s26 r2) r6, ?_, h6.2⟩
      have b6 : Ag K (fun _ => none) F6 M6 H6 (clr ρ6) σ4 := ag_clr ag6 ⟨ag6.m.sm, fun p o e => (nomatch e), ag6.m.mo⟩
      have c6 : Ag K (fun _ => none) F6 M6 (upd H6 D0 (.lst (ws ++ [v]))) (clr ρ6) σ4 := by
        refine ⟨up (fun p o e => (nomatch e)) b6.m, b6.len, fun i e h => ?_, b6.di⟩
        have := b6.en i e h
        cases e with
        | un => trivial
        | sh d => exact this
        | rf p => exact this
        | ut u => exact this
        | ow ds' =>
          exfalso
          unfold clr at h
          rw [List.getElem?_map] at h
          cases q : ρ6[i]? with
          | none => rw [q] at h; cases h
          | some en => rw [q] at h; cases en <;> cases h
      have e6 := ag_clr c6 c6.m.inner
      have ce : clr (clr ρ6) = clr ρ6 := by
        unfold clr
        rw [List.map_map]
        congr 1
        funext en
        cases en <;> rfl
      rw [ce] at e6
      exact e6
  · have : i = ds.length := by omega
    subst this
    refine .inl ⟨it.stop F2 H2 s2 ag2.m.sm, ?_⟩
    have ag3 := ag1.back s2 m2
    refine k D0 ws H2 F2 out ρ1 M2 (s1.trans s2) ag3 d1 d2 d3 n5 n6 r2 (fin out ρ2 M2 h2)⟩
private theorem of_comp {K : PySem.W.Frag} {fi : WI} {fg : WG} {fc : WT} {fe : WE} {src : List (Option Nat)} {g : TG} {tc : TT} {te : TE} (hg : ∀ v σ H Q, lfG K fg v σ H Q → g v σ H Q) (hc : ∀ σ H Q, lfT K fc σ H Q → tc σ H Q) (he : ∀ σ H Q, lf K fe σ H Q → te σ H Q) :
    ∀ σ H Q, lfN K (wComp fi fg fc fe src) σ H Q → tComp (lfI K fi) g tc te src σ H Q :=
  of_compX (R := Rp K) (RL := Rps K) (fun _ => .nil) (fun s r => r.same s) (fun r => r.length) (fun r q => r.append (.cons q .nil)) hg hc he
section
variable {X : Cx} {tg elt iter : Expr} {pos : Pos} {fi : WI}
end
end L4
set_option Elab.async false
set_option linter.all false
set_option maxRecDepth 100000
namespace L4
open PySem PySem.Spec PyProof.Rows L2 L3
section
variable {X : Cx} {a b c e tg elt iter : Expr} {es ifs : List Expr} {pos cpos pos' p2 : Pos} {fa fb fe : WE} {fl : WA} {fn fm : WN} {fi : WI} {fg : WG} {fc : WT} {scope : Scope} {N : List Str} {src : List (Option Nat)} {x : Str} {k : Nat}
structure JC (X : Cx) (ifs : List Expr) (f : WT) : Prop where
  h : PIfs X ifs (lfT X.K f)
private theorem imC {t t' : TT} (h : PIfs X ifs t) (k : ∀ σ H Q, t' σ H Q → t σ H Q) : PIfs X ifs t' := fun pins s σ H Q I q => h pins s σ H Q I (k σ H Q q)
private theorem jc_nil : JC X [] wYes := ⟨imC ifs_nil of_yes⟩
private theorem jc_one (h : JT X c fc) : JC X [c] fc := ⟨ifs_one h.h⟩
private theorem jn_lc (N : List Str) (src : List (Option Nat)) (ok : CompOk X scope N src) (hcalm : X.calm = true) (hi : JI X tg iter fi)
    (hg : ∀ pins s2 H2 C fp, JG (cxComp X pins s2 H2 N scope C fp) tg fg) (hc : ∀ pins s2 H2 C fp, JC (cxComp X pins s2 H2 N scope C fp) ifs fc) (he : ∀ pins s2 H2 C fp, JE (cxComp X pins s2 H2 N scope C fp) elt fe)
    (hs : ∀ x, foldedSetIterable iter X.env x = pure x := by intro _; rfl) : JN X (.ListComp elt [⟨tg, iter, ifs, 0⟩] scope pos) (wComp fi fg fc fe src) :=
  ⟨imE (pe_comp N src ok hcalm hi.h (fun a b c d e => (hg a b c d e).h) (fun a b c d e => (hc a b c d e).h) (fun a b c d e => (he a b c d e).h) hs) (of_comp (fun _ _ _ _ h => h) (fun _ _ _ h => h) fun _ _ _ h => h)⟩
private theorem js_setC (hN : X.N.Nodup) (hk : X.N[k]? = some x) (hx : Loc X.env.scope x) (N : List Str) (src : List (Option Nat)) (ok : CompOk X scope N src) (hcalm : X.calm = true) (hi : JI X tg iter fi)
    (hg : ∀ pins s2 H2 C fp, JG (cxComp X pins s2 H2 N scope C fp) tg fg) (hc : ∀ pins s2 H2 C fp, JC (cxComp X pins s2 H2 N scope C fp) ifs fc) (he : ∀ pins s2 H2 C fp, JE (cxComp X pins s2 H2 N scope C fp) elt fe)
    (hsw : swapsWith (.ListComp elt [⟨tg, iter, ifs, 0⟩] scope cpos) (some (.Name x pos')) pos.line X.env = pure true := by rfl)
    (hs : ∀ x, foldedSetIterable iter X.env x = pure x := by intro _; rfl) (hfn : X.fn x = true ∨ X.env.scope.names.lookup x = some .local := by first | exact .inl rfl | exact .inr rfl | assumption) :
    JS X (.Assign [.Name x pos'] (.ListComp elt [⟨tg, iter, ifs, 0⟩] scope cpos) pos) (wSetN k (wComp fi fg fc fe src)) :=
  ⟨imS (ps_setComp hN hk hx N src ok hcalm hi.h (fun a b c d e => (hg a b c d e).h) (fun a b c d e => (hc a b c d e).h) (fun a b c d e => (he a b c d e).h) hsw hs hfn) fun D' σ H hh => ex5 hh fun Z F ρ M E ag hf k =>
    of_comp (fun _ _ _ _ h => h) (fun _ _ _ h => h) (fun _ _ _ h => h) σ H _ ⟨Z, F, ρ, M, _, ag, hf, fun p vs H' F' ds ρ' M' s' ag' n2 n3 n4 nz n5 r h => k.nx _ H' F' _ M' s' (ag'.setO n2 n3 n4 nz r n5) h⟩⟩
noncomputable def wList (fl : WA) : WN := fun ρ M P => fl ρ M fun ds ρ1 M1 => match ds with
  | [.lst xs] => P xs ρ1 M1
  | [.tup xs] => P xs ρ1 M1
  | _ => False
private theorem jn_list {p : Pos} (hg : Gl X "list") (hm : X.mg "list" = none) (ha : JA X [a] fl) (he : starEach [a] X.env = [(false, eval a X.env)] := by rfl) : JN X (.Call (.Name "list" p) [a] [] pos) (wList fl) := ⟨imE (pe_callTy call_list_of hg hm boot_list ha.h (by decide) (by decide) he rfl) fun σ H Q hh => ex5 hh fun Z F ρ M P ag hf k => ⟨Z, F, ρ, M, _, ag, hf, fun vs H1 F1 ds ρ1 M1 s1 ag1 r1 h1 => by
  split at h1
  · obtain ⟨v, rfl, rv⟩ := rps1 r1
    rw [Rp] at rv
    obtain ⟨q, ws, rfl, g1, g2⟩ := rv
    refine ⟨q, ws, rfl, .inl (.inl (rd_same ag1.m.sm g1)), fun p hp => ?_⟩
    obtain ⟨n1, n2, n3, n4, nz, n5, n6⟩ := newN ag1 hp g2
    exact k p ws _ F1 _ ρ1 M1 s1 n1 n2 n3 n4 nz n5 n6 h1
  · obtain ⟨v, rfl, rv⟩ := rps1 r1
    rw [Rp] at rv
    obtain ⟨q, ws, rfl, g1, g2⟩ := rv
    refine ⟨q, ws, rfl, .inr (sqT_same ag1.m.sm g1), fun p hp => ?_⟩
    obtain ⟨n1, n2, n3, n4, nz, n5, n6⟩ := newN ag1 hp g2
    exact k p ws _ F1 _ ρ1 M1 s1 n1 n2 n3 n4 nz n5 n6 h1
  · exact h1.elim⟩⟩
noncomputable def rCat4 : R2 := fun x y H Q => ∃ l b xs zs, x = .ref l ∧ y = .ref b ∧ Rd H l (.lst xs) ∧ Rd H b (.lst zs) ∧ xs.length + zs.length ≤ sizeLine ∧ ∀ p, H p = none → Q (.ref p) (upd H p (.lst (xs ++ zs)))
private theorem op_cat4 : OpR X (binaryOp .Add) rCat4 := by
  intro pins s σ H x y v u Q I rx ry h
  obtain ⟨l, b, xs, zs, rfl, rfl, hH, hB, hz, q⟩ := h
  cases rx
  cases ry
  obtain ⟨z, its, n, r, e⟩ := hH.ok I.hok
  obtain ⟨z2, its2, n2, r2, e2⟩ := hB.ok I.hok
  have hl := r.length
  have hl2 := r2.length
  refine PySem.P.add_list e e2 ?_ (by rw [List.size_toArray, List.size_toArray]; omega)
  have ea : its.toArray ++ its2.toArray = (its ++ its2).toArray := by simp
  rw [ea]
  exact ⟨.ref _, _, I.lnew (t' := s.toks) (r.append r2) (by rw [List.length_append]; omega), rfl, q _ I.fresh⟩
noncomputable def wCat (fa fb : WE) : WN := fun ρ M P => fa ρ M fun x ρ1 M1 => fb ρ1 M1 fun y ρ2 M2 => match x, y with
  | .lst xs, .lst ys => xs.length + ys.length ≤ sizeLine ∧ P (xs ++ ys) ρ2 M2
  | _, _ => False
private theorem jn_cat (ha : JE X a fa) (hb : JE X b fb) : JN X (.BinOp a .Add b pos) (wCat fa fb) := ⟨imE (pe_op op_cat4 ha.h hb.h) fun σ H Q hh => ex5 hh fun Z F ρ M P ag hf k => ⟨Z, F, ρ, M, _, ag, hf, fun v H1 F1 d ρ1 M1 s1 ag1 r1 h1 => ⟨Z, F1, ρ1, M1, _, ag1, h1, fun u H2 F2 d2 ρ2 M2 s2 ag2 r2 h2 => by
  split at h2
  · rename_i xs ys
    have r1 := r1.same s2
    rw [Rp] at r1 r2
    obtain ⟨q, ws, rfl, g1, g2⟩ := r1
    obtain ⟨q', us, rfl, g3, g4⟩ := r2
    refine ⟨q, q', ws, us, rfl, rfl, rd_same ag2.m.sm g1, rd_same ag2.m.sm g3, by rw [← g2.length, ← g4.length]; exact h2.1, fun p hp => ?_⟩
    obtain ⟨n1, n2, n3, n4, nz, n5, n6⟩ := newN ag2 hp (g2.append g4)
    exact k p _ _ F2 _ ρ2 M2 (s1.trans s2) n1 n2 n3 n4 nz n5 n6 h2.2
  · exact h2.elim⟩⟩⟩
noncomputable abbrev WO := Rho → Mm → (Option Int → Rho → Mm → Prop) → Prop
noncomputable def lfO (K : PySem.W.Frag) (f : WO) : TO := fun σ H Q => ∃ Z F ρ M P, Ag K Z F M H ρ σ ∧ f ρ M P ∧ ∀ o H' F' ρ' M', Same F F' → Ag K Z F' M' H' ρ' σ → P o ρ' M' → Q o H'
structure JO (X : Cx) (e : Option Expr) (f : WO) : Prop where
  h : PO X e (lfO X.K f)
noncomputable def wO0 : WO := fun ρ M P => P none ρ M
noncomputable def wO1 (f : WE) : WO := fun ρ M P => f ρ M fun d ρ1 M1 => match d with
  | .int i => P (some i) ρ1 M1
  | _ => False
private theorem imO {e : Option Expr} {t t' : TO} (h : PO X e t) (k : ∀ σ H Q, t' σ H Q → t σ H Q) : PO X e t' := fun pins s σ H Q I q => h pins s σ H Q I (k σ H Q q)
private theorem jo_none : JO X none wO0 := ⟨imO po_none fun σ H Q hh => ex5 hh fun Z F ρ M P ag hf k => k none H F ρ M (Same.refl _) ag hf⟩
private theorem jo_some (h : JE X e fe) : JO X (some e) (wO1 fe) := ⟨imO (po_some h.h) fun σ H Q hh => ex5 hh fun Z F ρ M P ag hf k => ⟨Z, F, ρ, M, _, ag, hf, fun v H1 F1 d ρ1 M1 s1 ag1 r1 h1 => by
  split at h1
  · rw [Rp] at r1
    exact ⟨_, r1, k _ H1 F1 ρ1 M1 s1 ag1 h1⟩
  · exact h1.elim⟩⟩
private theorem Rps.cut {K : PySem.W.Frag} {F : Hp} {ds : List D} {vs : List V} (lo hi : Option Int) (h : Rps K F ds vs) : Rps K F (L3.cutD ds lo hi) (cutV vs lo hi) := by
  unfold L3.cutD cutV
  rw [h.length]
  exact (h.drop _).take _
noncomputable def wSl (fa : WE) (fl fh : WO) : WN := fun ρ M P => fa ρ M fun x ρ1 M1 => fl ρ1 M1 fun lo ρ2 M2 => fh ρ2 M2 fun hi ρ3 M3 => match x with
  | .lst xs => P (L3.cutD xs lo hi) ρ3 M3
  | _ => False
private theorem jn_sl {lo hi : Option Expr} {fl fh : WO} (ha : JE X a fa) (hl : JO X lo fl) (hh : JO X hi fh) : JN X (.Subscript a (.Slice lo hi none p2) pos) (wSl fa fl fh) := ⟨imE (pe_slice sl_list ha.h hl.h hh.h) fun σ H Q hh => ex5 hh fun Z F ρ M P ag hf k => ⟨Z, F, ρ, M, _, ag, hf, fun v H1 F1 d ρ1 M1 s1 ag1 r1 h1 => ⟨Z, F1, ρ1, M1, _, ag1, h1, fun lo H2 F2 ρ2 M2 s2 ag2 h2 => ⟨Z, F2, ρ2, M2, _, ag2, h2, fun hi H3 F3 ρ3 M3 s3 ag3 h3 => by
  split at h3
  · rename_i xs
    have r1 := (r1.same s2).same s3
    rw [Rp] at r1
    obtain ⟨q, ws, rfl, g1, g2⟩ := r1
    refine ⟨q, ws, rfl, .inl (rd_same ag3.m.sm g1), fun p hp => ?_⟩
    obtain ⟨n1, n2, n3, n4, nz, n5, n6⟩ := newN ag3 hp (g2.cut lo hi)
    exact k p _ _ F3 _ ρ3 M3 (s1.trans (s2.trans s3)) n1 n2 n3 n4 nz n5 n6 h3
  · exact h3.elim⟩⟩⟩⟩
end
noncomputable def Sub (M' M : Mm) : Prop := ∀ p o, M' p = some o → M p = some o
private theorem AgM.sub {K : PySem.W.Frag} {Z F H : Hp} {M M' : Mm} (a : AgM K Z F M H) (s : Sub M' M) : AgM K Z F M' H := ⟨a.sm, fun p o h => by
  obtain ⟨z1, z2, z3⟩ := a.zz p o h
  refine ⟨z1, z2, ?_⟩
  cases q : M' p with
  | none => rfl
  | some o => exact absurd ((s p o q).symm.trans z3) (by simp), fun p o h => a.mo p o (s p o h)⟩
noncomputable def startR (N : List Str) (ds : List D) : Rho := ds.map Ent.sh ++ List.replicate (N.length - ds.length) .un
noncomputable def rtD (q : D → Mm → Prop) : U → Mm → Prop := fun u M => match u with
  | .d d => q d M
  | _ => False
noncomputable def endR (P : D → Mm → Prop) : WEnds := ⟨fun _ M' => ∃ M'', Sub M'' M' ∧ P .non M'', rtD fun d M' => ∃ M'', Sub M'' M' ∧ P d M'', fun _ _ => False, fun _ _ => False⟩
private theorem rtD_of {K : PySem.W.Frag} {F : Hp} {q : D → Mm → Prop} {u : U} {v : V} {M : Mm} (h : rtD q u M) (r : RU K F u v) : ∃ d, Rp K F d v ∧ q d M := by
  cases u with
  | d x => rw [RU] at r; exact ⟨x, r, h⟩
  | adr p => exact h.elim
  | ins C ns ds => exact h.elim
  | tup us => exact h.elim
private theorem ag_start {K : PySem.W.Frag} {Z F H : Hp} {M : Mm} {ds : List D} {vs : List V} (N : List Str) (m : AgM K Z F M H) (r : Rps K F ds vs) : Ag K Z F M H (startR N ds) (L2.start N vs) := by
  have hl := r.length
  refine ⟨m, by unfold startR L2.start; simp [hl], fun i e h => ?_, fun i j es fs p n h1 _ _ => ?_⟩
  · unfold startR at h
    by_cases hi : i < ds.length
    · rw [List.getElem?_append_left (by simpa using hi), List.getElem?_map] at h
      rw [List.getElem?_eq_getElem hi] at h
      cases h
      obtain ⟨v, h1, h2⟩ := r.get (List.getElem?_eq_getElem hi)
      refine ⟨v, ?_, h2⟩
      unfold L2.start
      rw [List.getElem?_append_left (by simpa [← hl] using hi), List.getElem?_map, h1]
      rfl
    · rw [List.getElem?_append_right (by simpa using hi), List.getElem?_replicate] at h
      split at h
      · cases h; trivial
      · cases h
  · unfold startR at h1
    by_cases hi : i < ds.length
    · rw [List.getElem?_append_left (by simpa using hi), List.getElem?_map, List.getElem?_eq_getElem hi] at h1
      cases h1
    · rw [List.getElem?_append_right (by simpa using hi), List.getElem?_replicate] at h1
      split at h1 <;> cases h1
private theorem _root_.L3.Def.hasW {P : Program} {w : World} {K : PySem.W.Frag} {mg : Str → Option Value} {base : Heap} {k : Nat} {x : Str} {st : Stmt} {N ps : List Str} {g : WF} (F : Def K mg x st ps) (sc : FnScope N ps (defScope st)) (len : ∀ ds M P, g ds M P → ds.length = ps.length)
    (hbody : ∀ (f : Addr) (cdv : Value) (A : Around) (outer : List Env) (s : Shared) (H : Hp) (E : XK), Room k (A.deeper (envOfC x (defScope st) s.heap.objs.size f cdv)) →
      ∃ G, JSs (cxOf CX0 P w K mg base N x (defScope st) f cdv A outer s H E).nox (defBody st) G ∧ ∀ ds M Q, g ds M Q → G (endR Q) (startR N ds) M) : Has P w K mg base CX0 (k + 1) x ps (spW K g) := by
  refine F.has sc (fun vs H Q E h => ?_) fun f cdv A outer s H vs Q E hr h => ?_
  · obtain ⟨Z, F', M, ds, P, m, r, hg, _⟩ := h
    rw [← r.length]
    exact len ds M P hg
  · obtain ⟨Z, F', M, ds, P', m, r, hg, kk⟩ := h
    obtain ⟨G, hG, hh⟩ := hbody f cdv A outer s H E hr
    refine ⟨_, hG.h, Z, F', startR N ds, M, endR P', ag_start N m r, hh ds M P' hg, ⟨fun σ' H' F2 ρ' M' s' ag' ⟨M2, hs, q⟩ => kk _ H' F2 _ M2 s' (ag'.m.sub hs) (by rw [Rp]) q, fun _ _ _ _ _ _ _ q => q.elim, fun _ _ _ _ _ _ _ q => q.elim, fun v H' F2 u M' s' m' r' q => by
      obtain ⟨d, r', M2, hs, q⟩ := rtD_of (q := fun d M' => ∃ M'', Sub M'' M' ∧ P' d M'') q r'
      exact kk v H' F2 d M2 s' (m'.sub hs) r' q⟩⟩
noncomputable def pur (g : List D → (D → Prop) → Prop) : WF := fun ds M P => g ds fun d => P d M
private theorem Sub.refl (M : Mm) : Sub M M := fun _ _ h => h
private theorem _root_.L3.Def.hasP {P : Program} {w : World} {K : PySem.W.Frag} {mg : Str → Option Value} {base : Heap} {k : Nat} {x : Str} {st : Stmt} {N ps : List Str} {g : List D → (D → Prop) → Prop} (F : Def K mg x st ps) (sc : FnScope N ps (defScope st)) (len : ∀ ds P, g ds P → ds.length = ps.length)
    (hbody : ∀ (f : Addr) (cdv : Value) (A : Around) (outer : List Env) (s : Shared) (H : Hp) (E : XK), Room k (A.deeper (envOfC x (defScope st) s.heap.objs.size f cdv)) →
      ∃ G, JSs (cxOf CX0 P w K mg base N x (defScope st) f cdv A outer s H E).nox (defBody st) G ∧ ∀ ds M Q, g ds (fun d => Q d M) → G (endR Q) (startR N ds) M) : Has P w K mg base CX0 (k + 1) x ps (spW K (pur g)) :=
  F.hasW sc (fun ds M P h => len ds _ h) hbody
end L4
set_option Elab.async false
set_option linter.all false
set_option maxRecDepth 100000
namespace L4
open PySem PySem.Spec PyProof.Rows L2 L3
section
variable {X : Cx} {a b c e o : Expr} {es : List Expr} {pos cpos apos np p : Pos} {fa fb fe fk : WE} {fl : WA} {x : Str}
noncomputable def wAtV (i : Nat) (fk : WE) : WE := fun ρ M P => match ρ[i]? with
  | some (.ow _) => wAtO i fk ρ M P
  | some (.sh d) => fk ρ M fun k ρ1 M1 => RIx d k fun z => P z ρ1 M1
  | _ => False
private theorem j_atV (i : Nat) (hk : JE X b fk) (hN : X.N[i]? = some x := by rfl) (hv : Vis X.env.scope x := by first | exact Or.inl rfl | exact Or.inr (Or.inl rfl) | exact Or.inr (Or.inr rfl)) (hs : PlainIx b := by intro _ _; rfl) (hd : (x == ("__debug__" : Str)) = false := by decide) (hcd : (x == ("__classdict__" : Str)) = false := by decide) :
    JE X (.Subscript (.Name x np) b pos) (wAtV i fk) := by
  have h1 := j_atO (fk := fk) (pe_ix (pos := pos) ix_seq (L2.pv (pos := np) i hN hv hd hcd) hk.h hs)
  have h2 := j_at (pos := pos) (jv (pos := np) i hN hv hd hcd) hk hs
  refine ⟨imE (pe_ix (pos := pos) ix_seq (L2.pv (pos := np) i hN hv hd hcd) hk.h hs) fun σ H Q hh => ex5 hh fun Z F ρ M P ag hf k => ?_⟩
  unfold wAtV at hf
  split at hf
  · obtain ⟨ho, hf⟩ := hf
    obtain ⟨ds0, ho⟩ := isOw_of ho
    obtain ⟨q, vs, e1, e2, e3, e4, e5, e6⟩ := ow_get ag ho
    refine ⟨.ref q, e1, Z, F, ρ, M, _, ag, hf, fun u H2 F2 dk ρ2 M2 s2 ag2 r2 h2 => ?_⟩
    split at h2
    · rename_i ds j hd
      rw [Rp] at r2
      split at h2
      · rename_i d hn
        obtain ⟨q', us, g1, g2, g3, g4, g5, g6⟩ := ow_get ag2 hd
        rw [e1] at g1
        cases g1
        obtain ⟨w, a1, a2⟩ := at_rps g6 hn
        exact .inl ⟨q, us, j, w, rfl, r2, SqL.of g2, a1, k w H2 F2 d ρ2 M2 s2 ag2 a2 h2⟩
      · exact h2.elim
    · exact h2.elim
  · rename_i d hd
    obtain ⟨v, g1, g2⟩ := ag.en i _ hd
    have g1' : σ[i]? = some (some v) := by
      cases q : σ[i]? with
      | none => rw [q] at g1; cases g1
      | some o => rw [q] at g1; simp at g1; rw [g1]
    refine ⟨v, g1', Z, F, ρ, M, _, ag, hf, fun u H2 F2 dk ρ2 M2 s2 ag2 r2 h2 => ?_⟩
    exact w_ix d dk v u F2 H2 Q _ ag2.m.sm (g2.same s2) r2 h2 fun z w F' H' g rp hp => k w H' F' z ρ2 M2 (s2.trans (g.same ag2.m.sm)) (g.ag ag2) rp hp
  · exact hf.elim
noncomputable def wLenV (i : Nat) : WE := fun ρ M P => match ρ[i]? with
  | some (.ow ds) => P (.int ds.length) ρ M
  | some (.sh (.lst ds)) => P (.int ds.length) ρ M
  | some (.sh (.tup ds)) => P (.int ds.length) ρ M
  | _ => False
private theorem j_lenV (i : Nat) (hg : Gl X "len") (hm : X.mg "len" = none) (hN : X.N[i]? = some x := by rfl) (hv : Vis X.env.scope x := by first | exact Or.inl rfl | exact Or.inr (Or.inl rfl) | exact Or.inr (Or.inr rfl)) (hd : (x == ("__debug__" : Str)) = false := by decide) (hcd : (x == ("__classdict__" : Str)) = false := by decide)
    (he : starEach [.Name x np] X.env = [(false, eval (.Name x np) X.env)] := by rfl) : JE X (.Call (.Name "len" p) [.Name x np] [] pos) (wLenV i) := by
  refine ⟨imE (pe_callB (pos := pos) (p := p) call_len_seq hg hm boot_len (pa_cons (L2.pv (pos := np) i hN hv hd hcd) pa_nil he) (by decide) (by decide) he rfl) fun σ H Q hh => ex5 hh fun Z F ρ M P ag hf k => ?_⟩
  have sl : ∀ {v : V}, (σ[i]?).join = some v → σ[i]? = some (some v) := fun {v} g1 => by
    cases q : σ[i]? with
    | none => rw [q] at g1; cases g1
    | some o => rw [q] at g1; simp at g1; rw [g1]
  unfold wLenV at hf
  split at hf
  · rename_i ds hd
    obtain ⟨q, vs, e1, e2, e3, e4, e5, e6⟩ := ow_get ag hd
    refine ⟨.ref q, e1, q, vs, rfl, .inl (SqL.of e2), k _ H F _ ρ M (Same.refl _) ag ?_ hf⟩
    rw [Rp, e6.length]
  · rename_i ds hd
    obtain ⟨v, g1, g2⟩ := ag.en i _ hd
    rw [Rp] at g2
    obtain ⟨q, vs, rfl, g2, g3⟩ := g2
    refine ⟨.ref q, sl g1, q, vs, rfl, .inl (.inl (rd_same ag.m.sm g2)), k _ H F _ ρ M (Same.refl _) ag ?_ hf⟩
    rw [Rp, g3.length]
  · rename_i ds hd
    obtain ⟨v, g1, g2⟩ := ag.en i _ hd
    rw [Rp] at g2
    obtain ⟨q, vs, rfl, g2, g3⟩ := g2
    refine ⟨.ref q, sl g1, q, vs, rfl, .inr (sqT_same ag.m.sm g2), k _ H F _ ρ M (Same.refl _) ag ?_ hf⟩
    rw [Rp, g3.length]
  · exact hf.elim
private theorem j_len (hg : Gl X "len") (hm : X.mg "len" = none) (ha : JA X [a] fl) (he : starEach [a] X.env = [(false, eval a X.env)] := by rfl) : JE X (.Call (.Name "len" p) [a] [] pos) (wCall RLen fl) := j_callB call_len_seq w_len hg hm boot_len ha (by decide) (by decide) he rfl
private theorem j_abs (hg : Gl X "abs") (hm : X.mg "abs" = none) (ha : JA X [a] fl) (he : starEach [a] X.env = [(false, eval a X.env)] := by rfl) : JE X (.Call (.Name "abs" p) [a] [] pos) (wCall RAbs fl) := j_callB call_abs w_abs hg hm boot_abs ha (by decide) (by decide) he rfl
private theorem js_appW (i : Nat) (he : JE X e fe) (hN : X.N[i]? = some x := by rfl) (hv : Vis X.env.scope x := by first | exact Or.inl rfl | exact Or.inr (Or.inl rfl) | exact Or.inr (Or.inr rfl)) (hd : (x == ("__debug__" : Str)) = false := by decide) (hcd : (x == ("__classdict__" : Str)) = false := by decide)
    (hbase : attributeBase (.Name x np) "append" X.env (eval (.Name x np) X.env) = eval (.Name x np) X.env := by rfl)
    (hfew : ((backTo cpos (starEach [e] X.env)).all (fun x => !x.1) && (backToKw cpos (keywordEach [] X.env)).all (fun x => x.1.isSome) && decide ([e].length + ([] : List Keyword).length + (if ([] : List Keyword).isEmpty then 0 else 1) < 30)) = true := by rfl)
    (hline : (apos.endLine == cpos.line) = true := by rfl) (hs : starEach [e] X.env = [(false, eval e X.env)] := by rfl) (hplain : (backTo cpos (starEach [] X.env)).any (·.1) = false := by rfl)
    (hsw : swapsWith (.Call (.Attribute (.Name x np) "append" apos) [e] [] cpos) none pos.line X.env = pure false := by rfl) : JS X (.Expr (.Call (.Attribute (.Name x np) "append" apos) [e] [] cpos) pos) (wApp i fe) :=
  js_app (ps_expr (pe_bm PySem.F.plainAttrs_list PySem.F.slot_list_append PySem.F.type_list_append mt_append (L2.pv i hN hv hd hcd) (ja_cons he ja_nil hs).h hbase hfew hline hs hplain) hsw)
private theorem js_setIxW (i : Nat) {k : Expr} {spos : Pos} (he : JE X e fe) (hk : JE X k fk) (hN : X.N[i]? = some x := by rfl) (hv : Vis X.env.scope x := by first | exact Or.inl rfl | exact Or.inr (Or.inl rfl) | exact Or.inr (Or.inr rfl)) (hd : (x == ("__debug__" : Str)) = false := by decide) (hcd : (x == ("__classdict__" : Str)) = false := by decide)
    (ha : ∀ v, assign (.Subscript (.Name x np) k spos) X.env v = (do
      let ov ← holding [v] (eval (.Name x np) X.env)
      let iv ← holding [v, ov] (eval k X.env)
      standAt spos
      holding [v, ov, iv] (setItem ov iv v)
      release [v, ov, iv] []) := by intro _; rfl)
    (hs : swapsWithSole [.Subscript (.Name x np) k spos] e pos.line X.env = pure false := by rfl) (hw : swappedStores [.Subscript (.Name x np) k spos] e X.env = pure none := by rfl) (h1 : (assignEach [.Subscript (.Name x np) k spos] X.env).map (·.2) = [assign (.Subscript (.Name x np) k spos) X.env] := by rfl) :
    JS X (.Assign [.Subscript (.Name x np) k spos] e pos) (wSetIx i fk fe) := js_setIx (ps_asg he.h (pg_sub (L2.pv i hN hv hd hcd) hk.h set_list ha) hs hw h1)
structure Cst (K : PySem.W.Frag) (mg : Str → Option Value) (x : Str) (d : D) : Prop where
  ex : ∃ v u, mg x = some u ∧ RelV v u ∧ ∀ F, Rp K F d v
private theorem j_glob {d : D} (C : Cst X.K X.mg x d) (hg : Gl X x) (hd : (x == ("__debug__" : Str)) = false := by decide) : JE X (.Name x pos) (wC d) := by
  obtain ⟨v, u, h1, h2, h3⟩ := C.ex
  exact je_of_c (pe_glob hg h1 h2 hd) h3
end
end L4
set_option Elab.async false
set_option linter.all false
set_option maxRecDepth 100000
namespace L4
open PySem PySem.Spec PyProof.Rows L2 L3
noncomputable def Ite (K : PySem.W.Frag) (a : Addr) : It :=
  ⟨fun i H => ∃ xs x, SqL K H a xs ∧ xs[i]? = some x, fun i H v H' => ∃ p x, v = .ref p ∧ H p = none ∧ H' = upd H p (.tup [.int i, x]) ∧ ∀ xs, SqL K H a xs → xs[i]? = some x, fun i H => ∃ xs, SqL K H a xs ∧ xs.length ≤ i⟩
noncomputable def EnSt (a e it : Addr) (i : Nat) (h : Heap) : Prop := (∃ old, IsEnum h e it i old) ∧ h.IsListIter it a i
private theorem turn_enum {P : Program} {w : World} {K : PySem.W.Frag} {elts : List Expr} {k : Nat} {pos : Pos} {a e it : Addr} (hne : e ≠ it) : Turn P w K (.Tuple elts k pos) (Ite K a) [e, it] e (EnSt a e it) where
  mem := by simp
  obj := fun i h st b' hb => by
    obtain ⟨⟨old, h1⟩, h2⟩ := st
    simp only [List.mem_cons, List.not_mem_nil, or_false] at hb
    rcases hb with rfl | rfl
    · exact ⟨_, h1, fun v z => by cases z⟩
    · obtain ⟨o, q, c, d⟩ := h2
      exact ⟨o, q, fun v z => by rw [d] at z; cases z⟩
  keep := fun i h h' st kp => by
    obtain ⟨⟨old, h1⟩, h2⟩ := st
    exact ⟨⟨old, kp e (by simp) _ h1⟩, h2.at fun o q => kp it (by simp) o q⟩
  item := by
    intro X hP hw hK hc i pins s σ H E I hf st hg
    subst hP hw hK
    obtain ⟨xs, x, hqa, hx⟩ := hg
    obtain ⟨ia, ra, pa, za⟩ := I.list hqa
    obtain ⟨u, hu, ru⟩ := ra.get hx
    obtain ⟨⟨old, h1⟩, h2⟩ := st
    have h20 := h2
    obtain ⟨o2, e2, _⟩ := h20
    refine wpAny_pyNext_enum_item h1 h2 pa.isList (x := u) (by simpa using hu) hne fun h' g1 g2 g3 g4 g5 => ?_
    refine ⟨_, rfl, wpAny_letOwnedTupleGo_enum g1 fun h'' k1 k2 => ?_⟩
    have nz : s.heap.objs.size ≠ e := fun z => Nat.lt_irrefl _ (by have := Heap.lt_size h1; rw [← z] at this; exact this)
    have kA : ∀ b o, b ∉ [e, it] → s.heap.get? b = some o → h''.get? b = some o := fun b o hb q => by
      simp only [List.mem_cons, List.not_mem_nil, or_false, not_or] at hb
      exact k2.extBut b o hb.1 (g5 b o hb.1 hb.2 q)
    have I2 : Inv X pins σ (upd H s.heap.objs.size (.tup [.int i, x])) { s with heap := h'', toks := s.toks + 1 } :=
      turnedT (t' := s.toks + 1) (xs := [.int i, x]) (us := [.int i s.toks, u]) I kA hf (Nat.le_refl _) (by show 2 ≤ sizeLine; decide) (.cons ⟨_, rfl⟩ (.cons ru .nil)) ⟨_, k2.extBut _ _ nz g3, rfl, _, rfl⟩
    refine ⟨.ref s.heap.objs.size, _, I2, rfl, ⟨_, x, rfl, I.fresh, rfl, fun zs hz => by rw [I.list_inj hz hqa]; exact hx⟩, ⟨⟨_, by simpa using k1⟩, g2.at fun o q => k2.extBut _ o (Ne.symm hne) q⟩, fun b hb => ?_⟩
    rw [upd_ne]
    · exact (hf b hb).1
    · intro z
      simp only [List.mem_cons, List.not_mem_nil, or_false] at hb
      rcases hb with rfl | rfl
      · exact nz z.symm
      · exact Nat.ne_of_lt (Heap.lt_size e2) z
  done := by
    intro X hP hw hK hc i pins s σ H E I hf st hg
    subst hP hw hK
    obtain ⟨xs, hqa, hend⟩ := hg
    obtain ⟨ia, ra, pa, za⟩ := I.list hqa
    obtain ⟨⟨old, h1⟩, h2⟩ := st
    have la := ra.length
    refine wpAny_pyNext_enum_end (I.ok.hd hc) h1 h2 pa.isList (by simp; omega) fun h' kk => ⟨rfl, turnedL (t' := s.toks) I (fun b o hb q => ?_) hf⟩
    simp only [List.mem_cons, List.not_mem_nil, or_false, not_or] at hb
    exact kk b o hb.2 q
  self := fun _ _ _ _ _ st h => by
    obtain ⟨⟨old, h1⟩, _⟩ := st
    exact wpAny_pyIter_enum h1 h
private theorem boot_enumerate : bootBuiltins "enumerate" = some (.type "enumerate") := by decide +kernel
section
variable {X : Cx} {a : Expr} {ta : TA} {p pos tpos : Pos} {elts : List Expr} {k : Nat} {fl : WA}
noncomputable def iEnu (K : PySem.W.Frag) (ta : TA) : TI := fun σ H R => ta σ H fun vs H1 => ∃ a, vs = [.ref a] ∧ (∃ xs, SqL K H1 a xs) ∧ R (Ite K a) H1
private theorem pi_enu (hg : Gl X "enumerate") (hm : X.mg "enumerate" = none) (ha : PA X [a] ta) (hs : starEach [a] X.env = [(false, eval a X.env)] := by rfl) : PI X (.Tuple elts k tpos) (.Call (.Name "enumerate" p) [a] [] pos) (iEnu X.K ta) := by
  intro pins s σ H R I h
  refine Call_ (ld_blt I hg hm boot_enumerate (PyProof.Rows.callWith_type1 (thn (ha pos pins s σ H _ I h) fun us s1 ⟨vs, H1, I1, r1, q1⟩ => ?_) hs rfl))
  obtain ⟨a, rfl, ⟨xs, hqa⟩, q⟩ := q1
  obtain ⟨u, rfl, ru⟩ := vals1 r1
  cases ru
  obtain ⟨ia, ra, pa, za⟩ := I1.list hqa
  refine call_enumerate_list pa.isList fun h' he hi hz hk => ?_
  refine wpAny_pyIter_enum (s := { s1 with heap := h' }) he ⟨_, _, _, _, H1, rfl, I1.kept (t' := s1.toks) hk, turn_enum (Nat.succ_ne_self _), ⟨⟨_, he⟩, hi⟩, fun c hc => ?_, q⟩
  have hle : s1.heap.objs.size ≤ c := by
    simp only [List.mem_cons, List.not_mem_nil, or_false] at hc
    rcases hc with rfl | rfl
    · exact Nat.le_add_right _ 1
    · exact Nat.le_refl _
  exact I1.fpOk hle (I1.hok.fresh hle)
noncomputable def enuD (n : Nat) : List D → List D
  | [] => []
  | d :: ds => .tup [.int n, d] :: enuD (n + 1) ds
private theorem enuD_len : ∀ (n : Nat) (ds : List D), (enuD n ds).length = ds.length
  | _, [] => rfl
  | n, d :: ds => by rw [enuD, List.length_cons, enuD_len, List.length_cons]
private theorem enuD_get : ∀ {n : Nat} {ds : List D} {i : Nat} {d : D}, (enuD n ds)[i]? = some d → ∃ x, ds[i]? = some x ∧ d = .tup [.int ((n + i : Nat) : Int), x]
  | _, [], _, _, h => by simp [enuD] at h
  | n, d :: ds, 0, e, h => by simp [enuD] at h; exact ⟨d, rfl, h.symm⟩
  | n, d :: ds, i + 1, e, h => by
    rw [enuD, List.getElem?_cons_succ] at h
    obtain ⟨x, h1, h2⟩ := enuD_get h
    refine ⟨x, by simpa using h1, ?_⟩
    rw [h2]
    congr 4
    omega
noncomputable def wIE (f : WA) : WI := fun ρ M P => f ρ M fun ds ρ1 M1 => match ds with
  | [.lst xs] => P (enuD 0 xs) ρ1 M1
  | _ => False
private theorem ji_enu (hg : Gl X "enumerate") (hm : X.mg "enumerate" = none) (ha : JA X [a] fl) (hs : starEach [a] X.env = [(false, eval a X.env)] := by rfl) : JI X (.Tuple elts k tpos) (.Call (.Name "enumerate" p) [a] [] pos) (wIE fl) := ⟨imI (pi_enu hg hm ha.h hs) fun σ H R hh => ex5 hh fun Z F ρ M P ag hf k => ⟨Z, F, ρ, M, _, ag, hf, fun vs H1 F1 ds ρ1 M1 s1 ag1 r1 h1 => by
  split at h1
  · rename_i xs
    obtain ⟨v, rfl, rv⟩ := rps1 r1
    rw [Rp] at rv
    obtain ⟨q, vs, rfl, g1, g2⟩ := rv
    refine ⟨q, rfl, ⟨vs, .inl (rd_same ag1.m.sm g1)⟩, k _ H1 F1 _ ρ1 M1 s1 ag1 ⟨fun i F' H hi s s' => ?_, fun F' H s s' => ?_, fun i d F' H x H' hd s s' y => ?_⟩ h1⟩
    · rw [enuD_len, g2.length] at hi
      exact ⟨vs, _, .inl (rd_same s' (rd_same s g1)), List.getElem?_eq_getElem hi⟩
    · exact ⟨vs, .inl (rd_same s' (rd_same s g1)), by rw [enuD_len, g2.length]; exact Nat.le_refl _⟩
    · obtain ⟨p, w1, rfl, hp, rfl, y1⟩ := y
      obtain ⟨d1, e1, rfl⟩ := enuD_get hd
      obtain ⟨z1, f1, f2⟩ := g2.get e1
      have q1 := y1 vs (.inl (rd_same s' (rd_same s g1)))
      rw [f1] at q1
      cases q1
      have hF : F' p = none := sub_none s' hp
      have sn : Same F' (upd F' p (.tup [.int i, w1])) := Same.new hF
      refine ⟨_, .nw hp, ?_⟩
      rw [Rp]
      refine ⟨p, _, rfl, SqT.of upd_same, .cons ?_ (.cons ((f2.same s).same sn) .nil)⟩
      rw [Rp, Nat.zero_add]
  · exact h1.elim⟩⟩
end
structure Bl2 (mg : Str → Option Value) : Prop extends Bl mg where
  enumerate : mg "enumerate" = none
  sum : mg "sum" = none
  min : mg "min" = none
  max : mg "max" = none
  sorted : mg "sorted" = none
  reversed : mg "reversed" = none
  dict : mg "dict" = none
end L4
set_option Elab.async false
set_option linter.all false
set_option maxRecDepth 100000
namespace L4
open PySem PySem.Spec PyProof.Rows L2 L3
noncomputable abbrev Pool := Mm → Addr → Prop
noncomputable def spD (K : PySem.W.Frag) (Pl : Pool) (g : List D → (D → Prop) → Prop) : Sp := fun vs H Q _ => ∃ Z F M p vs' ds P, vs = .ref p :: vs' ∧ AgM K Z F M H ∧ Pl M p ∧ Rps K F ds vs' ∧ g ds P ∧ ∀ v H' F' d, Same F F' → AgM K Z F' M H' → Rp K F' d v → P d → Q v H'
noncomputable def wDr (Pl : Pool) (i : Nat) (g : List D → (D → Prop) → Prop) (fl : WA) : WE := fun ρ M P => match ρ[i]? with
  | some (.rf p) => fl ρ M fun ds ρ1 M1 => Pl M1 p ∧ g ds fun d => P d ρ1 M1
  | _ => False
section
variable {X : Cx} {e : Expr} {es : List Expr} {pos np p : Pos} {fl : WA} {x y : Str} {Pl : Pool} {g : List D → (D → Prop) → Prop} {k : Nat} {ps : List Str}
private theorem j_hD (i : Nat) (F : Has X.prog X.w X.K X.mg X.base CX0 k x ps (spD X.K Pl g)) (hr : Room k X.A) (hg : Gl X x) (ha : JA X es fl) (hN : X.N[i]? = some y := by rfl) (hv : Vis X.env.scope y := by first | exact Or.inl rfl | exact Or.inr (Or.inl rfl) | exact Or.inr (Or.inr rfl)) (hd : (y == ("__debug__" : Str)) = false := by decide) (hcd : (y == ("__classdict__" : Str)) = false := by decide)
    (hdb : (x == ("__debug__" : Str)) = false := by decide) (he : starEach (.Name y np :: es) X.env = (false, eval (.Name y np) X.env) :: starEach es X.env := by rfl) (hpl : (backTo pos (starEach es X.env)).any (·.1) = false := by rfl) :
    JE X (.Call (.Name x p) (.Name y np :: es) [] pos) (wDr Pl i g fl) := ⟨imE (pe_h F hr hg pass0 (pa_cons (L2.pv i hN hv hd hcd) ha.h he) hdb he hpl) fun σ H Q hh => ex5 hh fun Z F ρ M P ag hf k => by
  unfold wDr at hf
  split at hf
  · rename_i q hq
    have h0 := ag.en i _ hq
    have hs : σ[i]? = some (some (.ref q)) := by
      have h0 : (σ[i]?).join = some (.ref q) := h0
      cases z : σ[i]? with
      | none => rw [z] at h0; cases h0
      | some o => rw [z] at h0; simp at h0; rw [h0]
    refine ⟨.ref q, hs, Z, F, ρ, M, _, ag, hf, fun vs H1 F1 ds ρ1 M1 s1 ag1 r1 h1 => ?_⟩
    show spD X.K Pl g ((.ref q :: vs) ++ []) H1 Q E0
    rw [List.append_nil]
    exact ⟨_, F1, M1, q, vs, ds, _, rfl, ag1.m.inner, h1.1, r1, h1.2, fun v H' F' d s' m' r h => k v H' F' d ρ1 M1 (s1.trans s') (ag1.back s' m') r h⟩
  · exact hf.elim⟩
end
noncomputable def startD (N : List Str) (p : Addr) (ds : List D) : Rho := .rf p :: (ds.map Ent.sh ++ List.replicate (N.length - (ds.length + 1)) .un)
private theorem ag_startD {K : PySem.W.Frag} {Z F H : Hp} {M : Mm} {p : Addr} {ds : List D} {vs : List V} (N : List Str) (m : AgM K Z F M H) (r : Rps K F ds vs) : Ag K Z F M H (startD N p ds) (L2.start N (.ref p :: vs)) := by
  have hl := r.length
  have ei : L2.start N (.ref p :: vs) = some (.ref p) :: (vs.map some ++ List.replicate (N.length - (vs.length + 1)) none) := by
    unfold L2.start
    simp
  rw [ei]
  have key : ∀ {i : Nat} {e : Ent}, (ds.map Ent.sh ++ List.replicate (N.length - (ds.length + 1)) Ent.un)[i]? = some e → (e = .un) ∨ ∃ d, e = .sh d ∧ ds[i]? = some d := fun {i e} h => by
    by_cases hi : i < ds.length
    · rw [List.getElem?_append_left (by simpa using hi), List.getElem?_map, List.getElem?_eq_getElem hi] at h
      cases h
      exact .inr ⟨_, rfl, List.getElem?_eq_getElem hi⟩
    · rw [List.getElem?_append_right (by simpa using hi), List.getElem?_replicate] at h
      split at h
      · cases h; exact .inl rfl
      · cases h
  refine ⟨m, by unfold startD; simp [hl], fun i e h => ?_, fun i j es fs q n h1 _ _ => ?_⟩
  · cases i with
    | zero => unfold startD at h; simp at h; subst h; rfl
    | succ i =>
      unfold startD at h
      rw [List.getElem?_cons_succ] at h
      rcases key h with rfl | ⟨d, rfl, hd⟩
      · trivial
      · obtain ⟨v, h1, h2⟩ := r.get hd
        refine ⟨v, ?_, h2⟩
        rw [List.getElem?_cons_succ, List.getElem?_append_left (by simp [← hl]; exact (List.getElem?_eq_some_iff.mp hd).1), List.getElem?_map, h1]
        rfl
  · cases i with
    | zero => unfold startD at h1; simp at h1
    | succ i =>
      unfold startD at h1
      rw [List.getElem?_cons_succ] at h1
      rcases key h1 with z | ⟨d, z, _⟩
      · cases z
      · cases z
private theorem _root_.L3.Def.hasD {P : Program} {w : World} {K : PySem.W.Frag} {mg : Str → Option Value} {base : Heap} {k : Nat} {x : Str} {st : Stmt} {N ps : List Str} {Pl : Pool} {g : List D → (D → Prop) → Prop} (F : Def K mg x st ps) (sc : FnScope N ps (defScope st)) (len : ∀ ds P, g ds P → ds.length + 1 = ps.length)
    (hbody : ∀ (f : Addr) (cdv : Value) (A : Around) (outer : List Env) (s : Shared) (H : Hp) (E : XK), Room k (A.deeper (envOfC x (defScope st) s.heap.objs.size f cdv)) →
      ∃ G, JSs (cxOf CX0 P w K mg base N x (defScope st) f cdv A outer s H E).nox (defBody st) G ∧ ∀ p ds M Q, Pl M p → g ds Q → G ⟨fun _ M' => Sub M M' ∧ Q .non, rtD fun d M' => Sub M M' ∧ Q d, fun _ _ => False, fun _ _ => False⟩ (startD N p ds) M) : Has P w K mg base CX0 (k + 1) x ps (spD K Pl g) := by
  refine F.has sc (fun vs H Q E h => ?_) fun f cdv A outer s H vs Q E hr h => ?_
  · obtain ⟨Z, F', M, p, vs', ds, P, rfl, m, hp, r, hg, _⟩ := h
    rw [List.length_cons, ← r.length]
    exact len ds P hg
  · obtain ⟨Z, F', M, p, vs', ds, P', rfl, m, hp, r, hg, kk⟩ := h
    obtain ⟨G, hG, hh⟩ := hbody f cdv A outer s H E hr
    refine ⟨_, hG.h, Z, F', startD N p ds, M, _, ag_startD N m r, hh p ds M P' hp hg, ⟨fun σ' H' F2 ρ' M' s' ag' ⟨hs, q⟩ => kk _ H' F2 _ s' (ag'.m.sub hs) (by rw [Rp]) q, fun _ _ _ _ _ _ _ q => q.elim, fun _ _ _ _ _ _ _ q => q.elim, fun v H' F2 u M' s' m' r' q => by
      obtain ⟨d, r', hs, q⟩ := rtD_of (q := fun d M' => Sub M M' ∧ P' d) q r'
      exact kk v H' F2 d s' (m'.sub hs) r' q⟩⟩
end L4
set_option Elab.async false
set_option linter.all false
set_option maxRecDepth 100000
namespace L4
open PySem PySem.Spec PyProof.Rows L2 L3
section
variable {X : Cx} {a b c e : Expr} {es : List Expr} {pos cpos apos np p p2 : Pos} {fa fb fe fk : WE} {fl : WA} {fn : WN} {x : Str}
noncomputable def bls : List D → Option (List Bool)
  | [] => some []
  | .bl b :: r => (bls r).map (b :: ·)
  | _ :: _ => none
private theorem bls_rps {K : PySem.W.Frag} {F : Hp} : ∀ {ds : List D} {bs : List Bool} {vs : List V}, bls ds = some bs → Rps K F ds vs → vs = bs.map V.bl
  | [], bs, vs, h, r => by rw [Rps] at r; subst r; cases h; rfl
  | .bl b :: ds, bs, vs, h, r => by
    rw [bls] at h
    cases q : bls ds with
    | none => rw [q] at h; cases h
    | some l =>
      rw [q] at h
      cases h
      rw [Rps] at r
      obtain ⟨v, w, rfl, h1, h2⟩ := r
      rw [Rp] at h1
      rw [h1, bls_rps q h2]
      rfl
  | .non :: _, _, _, h, _ => by cases h
  | .int _ :: _, _, _, h, _ => by cases h
  | .str _ :: _, _, _, h, _ => by cases h
  | .tup _ :: _, _, _, h, _ => by cases h
  | .lst _ :: _, _, _, h, _ => by cases h
private theorem bls_map (bs : List Bool) : bls (bs.map D.bl) = some bs := by
  induction bs with
  | nil => rfl
  | cons b r ih => rw [List.map_cons, bls, ih]; rfl
noncomputable def RAll (g : List Bool → Bool) : List D → (D → Prop) → Prop := fun xs P => match xs with
  | [.lst ds] => (match bls ds with
    | some bs => P (.bl (g bs))
    | none => False)
  | _ => False
private theorem w_all {g : List Bool → Bool} : CaW X (fun xs H Q => ∃ (p : Addr) (bs : List Bool), xs = [.ref p] ∧ SqL X.K H p (bs.map V.bl) ∧ Q (.bl (g bs)) H) (RAll g) := by
  intro xs vs F H Q P sm rs h k
  unfold RAll at h
  split at h
  · rename_i ds
    split at h
    · rename_i bs hb
      obtain ⟨v, rfl, r⟩ := rps1 rs
      rw [Rp] at r
      obtain ⟨q, ws, rfl, h1, h2⟩ := r
      have := bls_rps hb h2
      subst this
      exact ⟨q, bs, rfl, .inl (rd_same sm h1), k _ _ F H .rf (by rw [Rp]) h⟩
    · exact h.elim
  · exact h.elim
private theorem j_any (hg : Gl X "any") (hm : X.mg "any" = none) (hc : X.calm = true) (ha : JA X [a] fl) (he : starEach [a] X.env = [(false, eval a X.env)] := by rfl) : JE X (.Call (.Name "any" p) [a] [] pos) (wCall (RAll fun bs => bs.any id) fl) := j_callB (call_any hc) w_all hg hm boot_any ha (by decide) (by decide) he rfl
end
end L4
set_option Elab.async false
set_option linter.all false
set_option maxRecDepth 100000
namespace L4
open PySem PySem.Spec PyProof.Rows L2 L3
section
variable {X : Cx} {e st : Expr} {pos p2 p3 p4 : Pos} {te : TE} {fe : WE}
end
noncomputable def wCut (f : WS) : WS := fun E ρ M => ∃ I : Rho → Mm → Prop, f ⟨I, E.rt, E.bk, E.ct⟩ ρ M ∧ ∀ ρ1 M1, I ρ1 M1 → E.nx ρ1 M1
private theorem js_cut {X : Cx} {st : Stmt} {f : WS} (h : JS X st f) : JS X st (wCut f) := ⟨imS h.h fun D' σ H ⟨Z, F, ρ, M, E, ag, ⟨I, hf, hI⟩, k⟩ => ⟨Z, F, ρ, M, ⟨I, E.rt, E.bk, E.ct⟩, ag, hf, ⟨fun σ' H' F' ρ' M' s ag' i => k.nx σ' H' F' ρ' M' s ag' (hI ρ' M' i), k.bk, k.ct, k.rt⟩⟩⟩
private theorem rng_get {lo : Int} {n i : Nat} {d : D} (h : (rngD lo n)[i]? = some d) : d = .int (lo + (i : Int)) ∧ i < n := by
  have hi := (List.getElem?_eq_some_iff.mp h).1
  unfold rngD at h hi
  rw [List.length_map, List.length_range] at hi
  rw [List.getElem?_map, List.getElem?_range hi] at h
  exact ⟨(Option.some.inj h).symm, hi⟩
private theorem rng_len {lo : Int} {n : Nat} : (rngD lo n).length = n := by simp [rngD]
end L4
set_option Elab.async false
set_option linter.all false
set_option maxRecDepth 100000
namespace L4
open PySem PySem.Spec PyProof.Rows L2 L3
section
variable {X : Cx} {e : Expr} {es : List Expr} {pos np p : Pos} {fl : WA} {x y : Str} {φ : Int → HO → Prop} {c : Int} {g : List D → (D → Prop) → Prop} {k : Nat} {ps : List Str}
end
end L4
set_option Elab.async false
set_option linter.all false
set_option maxRecDepth 100000
namespace L4
open PySem PySem.Spec PyProof.Rows L2 L3
mutual
noncomputable def noL : D → Bool
  | .lst _ => false
  | .tup ds => noLs ds
  | .non => true
  | .bl _ => true
  | .int _ => true
  | .str _ => true
noncomputable def noLs : List D → Bool
  | [] => true
  | d :: ds => noL d && noLs ds
end
mutual
noncomputable def Own (M : Mm) : D → U → List Addr → Prop
  | .lst ds, u, A => ∃ p us B, u = .adr p ∧ M p = some (.own us) ∧ A = p :: B ∧ Owns M ds us B
  | .tup ds, u, A => (u = .d (.tup ds) ∧ noLs ds = true ∧ A = []) ∨ (noLs ds = false ∧ ∃ us, u = .tup us ∧ Owns M ds us A)
  | .non, u, A => u = .d .non ∧ A = []
  | .bl b, u, A => u = .d (.bl b) ∧ A = []
  | .int i, u, A => u = .d (.int i) ∧ A = []
  | .str x, u, A => u = .d (.str x) ∧ A = []
noncomputable def Owns (M : Mm) : List D → List U → List Addr → Prop
  | [], us, A => us = [] ∧ A = []
  | d :: ds, us, A => ∃ u r B C, us = u :: r ∧ A = B ++ C ∧ Own M d u B ∧ Owns M ds r C
end
private theorem Own.leaf {M : Mm} {d : D} (h : noL d = true) : Own M d (.d d) [] := by
  cases d with
  | lst ds => rw [noL] at h; cases h
  | tup ds => rw [noL] at h; rw [Own]; exact .inl ⟨rfl, h, rfl⟩
  | non => rw [Own]; exact ⟨rfl, rfl⟩
  | bl b => rw [Own]; exact ⟨rfl, rfl⟩
  | int b => rw [Own]; exact ⟨rfl, rfl⟩
  | str b => rw [Own]; exact ⟨rfl, rfl⟩
mutual
private theorem Own.mono {M M1 : Mm} : ∀ {d : D} {u : U} {A : List Addr}, (∀ p ∈ A, M1 p = M p) → Own M d u A → Own M1 d u A
  | .lst ds, u, A, e, h => by
    rw [Own] at h ⊢
    obtain ⟨p, us, B, h1, h2, h3, h4⟩ := h
    subst h3
    exact ⟨p, us, B, h1, (e p (by simp)).trans h2, rfl, Owns.mono (fun q hq => e q (by simp [hq])) h4⟩
  | .tup ds, u, A, e, h => by
    rw [Own] at h ⊢
    rcases h with h | ⟨h0, us, h1, h2⟩
    · exact .inl h
    · exact .inr ⟨h0, us, h1, Owns.mono e h2⟩
  | .non, u, A, e, h => by rw [Own] at h ⊢; exact h
  | .bl b, u, A, e, h => by rw [Own] at h ⊢; exact h
  | .int b, u, A, e, h => by rw [Own] at h ⊢; exact h
  | .str b, u, A, e, h => by rw [Own] at h ⊢; exact h
private theorem Owns.mono {M M1 : Mm} : ∀ {d : List D} {u : List U} {A : List Addr}, (∀ p ∈ A, M1 p = M p) → Owns M d u A → Owns M1 d u A
  | [], u, A, e, h => by rw [Owns] at h ⊢; exact h
  | d :: ds, u, A, e, h => by
    rw [Owns] at h ⊢
    obtain ⟨x, r, B, C, h1, h2, h3, h4⟩ := h
    subst h2
    exact ⟨x, r, B, C, h1, rfl, Own.mono (fun q hq => e q (by simp [hq])) h3, Owns.mono (fun q hq => e q (by simp [hq])) h4⟩
end
mutual
private theorem Own.there {M : Mm} : ∀ {d : D} {u : U} {A : List Addr}, Own M d u A → ∀ p ∈ A, ∃ us, M p = some (.own us)
  | .lst ds, u, A, h, q, hq => by
    rw [Own] at h
    obtain ⟨p, us, B, h1, h2, h3, h4⟩ := h
    subst h3
    rcases List.mem_cons.mp hq with rfl | hq
    · exact ⟨us, h2⟩
    · exact Owns.there h4 q hq
  | .tup ds, u, A, h, q, hq => by
    rw [Own] at h
    rcases h with ⟨_, _, h⟩ | ⟨_, us, h1, h2⟩
    · subst h; cases hq
    · exact Owns.there h2 q hq
  | .non, u, A, h, q, hq => by rw [Own] at h; rw [h.2] at hq; cases hq
  | .bl b, u, A, h, q, hq => by rw [Own] at h; rw [h.2] at hq; cases hq
  | .int b, u, A, h, q, hq => by rw [Own] at h; rw [h.2] at hq; cases hq
  | .str b, u, A, h, q, hq => by rw [Own] at h; rw [h.2] at hq; cases hq
private theorem Owns.there {M : Mm} : ∀ {d : List D} {u : List U} {A : List Addr}, Owns M d u A → ∀ p ∈ A, ∃ us, M p = some (.own us)
  | [], u, A, h, q, hq => by rw [Owns] at h; rw [h.2] at hq; cases hq
  | d :: ds, u, A, h, q, hq => by
    rw [Owns] at h
    obtain ⟨x, r, B, C, h1, h2, h3, h4⟩ := h
    subst h2
    rcases List.mem_append.mp hq with hq | hq
    · exact Own.there h3 q hq
    · exact Owns.there h4 q hq
end
section
variable {K : PySem.W.Frag} {Z F G H : Hp} {M : Mm}
mutual
private theorem Own.rp (a : AgM K Z F M H) (s : Same F G) : ∀ {d : D} {u : U} {A : List Addr} {v : V}, Own M d u A → (∀ q ∈ A, G q = H q) → RU K F u v → Rp K G d v
  | .lst ds, u, A, v, h, hA, r => by
    rw [Own] at h
    obtain ⟨p, us, B, rfl, h2, rfl, h4⟩ := h
    rw [RU] at r
    obtain ⟨_, vs, g1, g2⟩ := a.mo p _ h2
    rw [Rp]
    exact ⟨p, vs, r, .inl ((hA p (by simp)).trans g1), Owns.rps a s h4 (fun q hq => hA q (by simp [hq])) g2⟩
  | .tup ds, u, A, v, h, hA, r => by
    rw [Own] at h
    rcases h with ⟨rfl, _, _⟩ | ⟨_, us, rfl, h2⟩
    · rw [RU] at r; exact Rp.same s r
    · rw [RU] at r
      obtain ⟨b, vs, r1, r2, r3⟩ := r
      rw [Rp]
      exact ⟨b, vs, r1, sqT_same s r2, Owns.rps a s h2 hA r3⟩
  | .non, u, A, v, h, hA, r => by rw [Own] at h; rw [h.1, RU] at r; exact Rp.same s r
  | .bl b, u, A, v, h, hA, r => by rw [Own] at h; rw [h.1, RU] at r; exact Rp.same s r
  | .int b, u, A, v, h, hA, r => by rw [Own] at h; rw [h.1, RU] at r; exact Rp.same s r
  | .str b, u, A, v, h, hA, r => by rw [Own] at h; rw [h.1, RU] at r; exact Rp.same s r
private theorem Owns.rps (a : AgM K Z F M H) (s : Same F G) : ∀ {d : List D} {u : List U} {A : List Addr} {v : List V}, Owns M d u A → (∀ q ∈ A, G q = H q) → RUs K F u v → Rps K G d v
  | [], u, A, v, h, hA, r => by rw [Owns] at h; rw [h.1, RUs] at r; rw [Rps]; exact r
  | d :: ds, u, A, v, h, hA, r => by
    rw [Owns] at h
    obtain ⟨x, t, B, C, rfl, rfl, h3, h4⟩ := h
    rw [RUs] at r
    obtain ⟨y, z, r1, r2, r3⟩ := r
    rw [Rps]
    exact ⟨y, z, r1, Own.rp a s h3 (fun q hq => hA q (by simp [hq])) r2, Owns.rps a s h4 (fun q hq => hA q (by simp [hq])) r3⟩
end
end
private theorem Owns.nil {M : Mm} : Owns M [] [] [] := by rw [Owns]; exact ⟨rfl, rfl⟩
private theorem Owns.cons {M : Mm} {d : D} {u : U} {ds : List D} {us : List U} {A B : List Addr} (h : Own M d u A) (k : Owns M ds us B) : Owns M (d :: ds) (u :: us) (A ++ B) := by
  rw [Owns]; exact ⟨u, us, A, B, rfl, rfl, h, k⟩
private theorem Owns.append {M : Mm} : ∀ {ds es : List D} {us ws : List U} {A B : List Addr}, Owns M ds us A → Owns M es ws B → Owns M (ds ++ es) (us ++ ws) (A ++ B)
  | [], es, us, ws, A, B, h, k => by rw [Owns] at h; rw [h.1, h.2]; exact k
  | d :: ds, es, us, ws, A, B, h, k => by
    rw [Owns] at h
    obtain ⟨x, r, A1, C, rfl, rfl, h3, h4⟩ := h
    rw [List.cons_append, List.cons_append, List.append_assoc]
    exact .cons h3 (Owns.append h4 k)
private theorem Owns.leaves {M : Mm} : ∀ {ds : List D}, noLs ds = true → Owns M ds (ds.map U.d) []
  | [], _ => .nil
  | d :: ds, h => by
    rw [noLs, Bool.and_eq_true] at h
    exact Owns.cons (A := []) (B := []) (.leaf h.1) (Owns.leaves h.2)
private theorem Owns.length {M : Mm} : ∀ {ds : List D} {us : List U} {A : List Addr}, Owns M ds us A → ds.length = us.length
  | [], us, A, h => by rw [Owns] at h; rw [h.1]; rfl
  | d :: ds, us, A, h => by
    rw [Owns] at h
    obtain ⟨x, r, B, C, rfl, _, _, h4⟩ := h
    rw [List.length_cons, List.length_cons, Owns.length h4]
noncomputable def mdel (M : Mm) (p : Addr) : Mm := fun q => if q = p then none else M q
private theorem mdel_same {M : Mm} {p : Addr} : mdel M p p = none := if_pos rfl
private theorem mdel_ne {M : Mm} {p q : Addr} (h : q ≠ p) : mdel M p q = M q := if_neg h
noncomputable def Fresh (M M' : Mm) (d : D) (u : U) : Prop := ∃ A, Own M' d u A ∧ A.Nodup ∧ (∀ p ∈ A, M p = none) ∧ ∀ q, q ∉ A → M' q = M q
noncomputable def Freshs (M M' : Mm) (ds : List D) (us : List U) : Prop := ∃ A, Owns M' ds us A ∧ A.Nodup ∧ (∀ p ∈ A, M p = none) ∧ ∀ q, q ∉ A → M' q = M q
section
variable {M M1 M2 : Mm} {d : D} {u : U} {ds es : List D} {us ws : List U} {p : Addr}
private theorem Fresh.leaf (h : noL d = true) : Fresh M M d (.d d) := ⟨[], .leaf h, .nil, fun _ h => (nomatch h), fun _ _ => rfl⟩
private theorem Freshs.nil : Freshs M M [] [] := ⟨[], .nil, .nil, fun _ h => (nomatch h), fun _ _ => rfl⟩
private theorem Freshs.leaves (h : noLs ds = true) : Freshs M M ds (ds.map U.d) := ⟨[], .leaves h, .nil, fun _ h => (nomatch h), fun _ _ => rfl⟩
private theorem Freshs.append (h : Freshs M M1 ds us) (k : Freshs M1 M2 es ws) : Freshs M M2 (ds ++ es) (us ++ ws) := by
  obtain ⟨A, h1, h2, h3, h4⟩ := h
  obtain ⟨B, k1, k2, k3, k4⟩ := k
  have dj : ∀ q ∈ A, q ∉ B := fun q hq hb => by
    obtain ⟨_, e⟩ := h1.there q hq
    rw [k3 q hb] at e; cases e
  refine ⟨A ++ B, .append (h1.mono fun q hq => k4 q (dj q hq)) k1, List.nodup_append.mpr ⟨h2, k2, fun a ha b hb e => dj a ha (e ▸ hb)⟩, fun q hq => ?_, fun q hq => ?_⟩
  · rcases List.mem_append.mp hq with hq | hq
    · exact h3 q hq
    · by_cases z : q ∈ A
      · exact h3 q z
      · rw [← h4 q z]; exact k3 q hq
  · rw [List.mem_append, not_or] at hq
    rw [k4 q hq.2, h4 q hq.1]
private theorem Freshs.one (h : Fresh M M1 d u) : Freshs M M1 [d] [u] := by
  obtain ⟨A, h1, h2, h3, h4⟩ := h
  exact ⟨A ++ [], .cons h1 .nil, by rw [List.append_nil]; exact h2, by rw [List.append_nil]; exact h3, by rw [List.append_nil]; exact h4⟩
private theorem Freshs.snoc (h : Freshs M M1 ds us) (k : Fresh M1 M2 d u) : Freshs M M2 (ds ++ [d]) (us ++ [u]) := h.append (.one k)
private theorem Freshs.cons (h : Fresh M M1 d u) (k : Freshs M1 M2 ds us) : Freshs M M2 (d :: ds) (u :: us) := (Freshs.one h).append k
private theorem Fresh.tup (h : Freshs M M1 ds us) (n : noLs ds = false := by rfl) : Fresh M M1 (.tup ds) (.tup us) := by
  obtain ⟨A, h1, h2⟩ := h
  exact ⟨A, by rw [Own]; exact .inr ⟨n, us, rfl, h1⟩, h2⟩
private theorem Fresh.new (h : Freshs M M1 ds us) (hp : M1 p = none) : Fresh M (mset M1 p (.own us)) (.lst ds) (.adr p) := by
  obtain ⟨A, h1, h2, h3, h4⟩ := h
  have np : p ∉ A := fun hq => by
    obtain ⟨_, e⟩ := h1.there p hq
    rw [hp] at e; cases e
  refine ⟨p :: A, by rw [Own]; exact ⟨p, us, A, rfl, mset_same, rfl, h1.mono fun q hq => mset_ne fun z => np (z ▸ hq)⟩, List.nodup_cons.mpr ⟨np, h2⟩, fun q hq => ?_, fun q hq => ?_⟩
  · rcases List.mem_cons.mp hq with rfl | hq
    · rw [← h4 q np]; exact hp
    · exact h3 q hq
  · rw [List.mem_cons, not_or] at hq
    rw [mset_ne hq.1, h4 q hq.2]
private theorem Fresh.newD (h : noLs ds = true) (hp : M p = none) : Fresh M (mset M p (.own (ds.map U.d))) (.lst ds) (.adr p) := .new (.leaves h) hp
private theorem Fresh.adr (h : Fresh M M1 (.lst ds) u) : ∃ p us, u = .adr p ∧ M1 p = some (.own us) ∧ M p = none ∧ ∃ M', Freshs M M' ds us ∧ M' p = none ∧ M1 = mset M' p (.own us) := by
  obtain ⟨A, h1, h2, h3, h4⟩ := h
  rw [Own] at h1
  obtain ⟨p, us, B, rfl, e1, rfl, e2⟩ := h1
  have np := (List.nodup_cons.mp h2).1
  refine ⟨p, us, rfl, e1, h3 p (by simp), mdel M1 p, ⟨B, e2.mono fun q hq => ?_, (List.nodup_cons.mp h2).2, fun q hq => h3 q (by simp [hq]), fun q hq => ?_⟩, mdel_same, ?_⟩
  · exact mdel_ne (show q ≠ p from fun z => np (z ▸ hq))
  · by_cases z : q = p
    · subst z; rw [mdel_same]; exact (h3 q (by simp)).symm
    · rw [mdel_ne z]; exact h4 q (by simp [z, hq])
  · funext q
    by_cases z : q = p
    · subst z; rw [mset_same]; exact e1
    · rw [mset_ne z, mdel_ne z]
private theorem Fresh.push (h : Fresh M M1 (.lst ds) (.adr p)) (k : Fresh M1 M2 d u) (e : M2 p = some (.own us)) : Fresh M (mset M2 p (.own (us ++ [u]))) (.lst (ds ++ [d])) (.adr p) := by
  obtain ⟨A, h1, h2, h3, h4⟩ := h
  obtain ⟨B, k1, k2, k3, k4⟩ := k
  rw [Own] at h1
  obtain ⟨p', us', A', e0, e1, rfl, e2⟩ := h1
  cases e0
  have dj : ∀ q ∈ p :: A', q ∉ B := fun q hq hb => by
    have : Own M1 (.lst ds) (.adr p) (p :: A') := by rw [Own]; exact ⟨p, us', A', rfl, e1, rfl, e2⟩
    obtain ⟨_, e⟩ := this.there q hq
    rw [k3 q hb] at e; cases e
  have np := (List.nodup_cons.mp h2).1
  have eu : us' = us := by
    have := k4 p (dj p (by simp))
    rw [e, e1] at this
    cases this; rfl
  subst eu
  refine ⟨p :: (A' ++ (B ++ [])), by
    rw [Own]
    refine ⟨p, _, _, rfl, mset_same, rfl, .append (e2.mono fun q hq => ?_) (.cons (k1.mono fun q hq => ?_) .nil)⟩
    · rw [mset_ne (show q ≠ p from fun z => np (z ▸ hq)), k4 q (dj q (by simp [hq]))]
    · exact mset_ne fun z => dj p (by simp) (z ▸ hq), ?_, fun q hq => ?_, fun q hq => ?_⟩
  · rw [List.append_nil, ← List.cons_append]
    exact List.nodup_append.mpr ⟨h2, k2, fun a ha b hb e => dj a ha (e ▸ hb)⟩
  · rw [List.append_nil, ← List.cons_append] at hq
    rcases List.mem_append.mp hq with hq | hq
    · exact h3 q hq
    · by_cases z : q ∈ p :: A'
      · exact h3 q z
      · rw [← h4 q z]; exact k3 q hq
  · rw [List.append_nil, ← List.cons_append, List.mem_append, not_or] at hq
    rw [mset_ne (fun z => hq.1 (by simp [z])), k4 q hq.2, h4 q hq.1]
private theorem Fresh.own_of (h : Fresh M M1 (.lst ds) (.adr p)) : ∃ us, M1 p = some (.own us) ∧ us.length = ds.length ∧ ∀ M2 d u, Fresh M1 M2 d u → M2 p = some (.own us) := by
  obtain ⟨A, h1, h2, h3, h4⟩ := h
  rw [Own] at h1
  obtain ⟨p', us', A', e0, e1, rfl, e2⟩ := h1
  cases e0
  refine ⟨us', e1, e2.length.symm, fun M2 d u k => ?_⟩
  obtain ⟨B, k1, k2, k3, k4⟩ := k
  rw [k4 p fun hb => by rw [k3 p hb] at e1; cases e1]
  exact e1
private theorem Fresh.cat {q r : Addr} (h : Fresh M M1 (.lst ds) (.adr p)) (k : Fresh M1 M2 (.lst es) (.adr q)) (e1 : M2 p = some (.own us)) (e2 : M2 q = some (.own ws)) (er : M2 r = none) : ∃ M'', Sub M'' (mset M2 r (.own (us ++ ws))) ∧ Fresh M M'' (.lst (ds ++ es)) (.adr r) := by
  obtain ⟨us0, g1, _, g2⟩ := h.own_of
  have := g2 _ _ _ k
  rw [e1] at this
  cases this
  obtain ⟨p', us', e0, a1, a2, M', a3, a4, a5⟩ := h.adr
  cases e0
  rw [g1] at a1
  cases a1
  obtain ⟨q', ws', e0, b1, b2, N', b3, b4, b5⟩ := k.adr
  cases e0
  rw [e2] at b1
  cases b1
  obtain ⟨B, c1, c2, c3, c4⟩ := b3
  have np : p ∉ B := fun hb => by rw [c3 p hb] at g1; cases g1
  have rp : r ≠ p := fun z => by rw [z, e1] at er; cases er
  have rq : r ≠ q := fun z => by rw [z, e2] at er; cases er
  have f : Freshs M' (mdel N' p) es ws := by
    refine ⟨B, c1.mono fun x hx => mdel_ne (show x ≠ p from fun z => np (z ▸ hx)), c2, fun x hx => ?_, fun x hx => ?_⟩
    · have := c3 x hx
      rw [a5, mset_ne (show x ≠ p from fun z => np (z ▸ hx))] at this
      exact this
    · by_cases z : x = p
      · subst z; rw [mdel_same, a4]
      · rw [mdel_ne z, c4 x hx, a5, mset_ne z]
  have er' : mdel N' p r = none := by
    rw [mdel_ne rp]
    rw [b5, mset_ne rq] at er
    exact er
  refine ⟨_, fun x o hx => ?_, .new (a3.append f) er'⟩
  by_cases z : x = r
  · subst z; rw [mset_same] at hx ⊢; exact hx
  · rw [mset_ne z] at hx ⊢
    by_cases y : x = p
    · subst y; rw [mdel_same] at hx; cases hx
    · rw [mdel_ne y] at hx
      rw [b5, mset_ne (fun w => by rw [w, b4] at hx; cases hx)]
      exact hx
private theorem noLs_map {α : Type} {f : α → D} (h : ∀ a, noL (f a) = true) : ∀ {l : List α}, noLs (l.map f) = true
  | [] => rfl
  | x :: l => by rw [List.map_cons, noLs, h, noLs_map h]; rfl
end
end L4
set_option Elab.async false
set_option linter.all false
set_option maxRecDepth 100000
namespace L4
open PySem PySem.Spec PyProof.Rows L2 L3
noncomputable abbrev WU := Rho → Mm → (U → Rho → Mm → Prop) → Prop
noncomputable abbrev WUA := Rho → Mm → (List U → Rho → Mm → Prop) → Prop
noncomputable def lfU (K : PySem.W.Frag) (f : WU) : TE := fun σ H Q => ∃ Z F ρ M P, Ag K Z F M H ρ σ ∧ f ρ M P ∧ ∀ v H' F' u ρ' M', Same F F' → Ag K Z F' M' H' ρ' σ → RU K F' u v → P u ρ' M' → Q v H'
noncomputable def lfUA (K : PySem.W.Frag) (f : WUA) : TA := fun σ H Q => ∃ Z F ρ M P, Ag K Z F M H ρ σ ∧ f ρ M P ∧ ∀ vs H' F' us ρ' M', Same F F' → Ag K Z F' M' H' ρ' σ → RUs K F' us vs → P us ρ' M' → Q vs H'
noncomputable def lfNU (K : PySem.W.Frag) (f : WUA) : TE := fun σ H Q => ∃ Z F ρ M P, Ag K Z F M H ρ σ ∧ f ρ M P ∧ ∀ p vs H' F' us ρ' M', Same F F' → Ag K Z F' M' H' ρ' σ → H' p = some (.lst vs) → F' p = none → M' p = none → Z p = none → (∀ (j : Nat) (es : List D), ρ'[j]? = some (.ow es) → σ[j]? ≠ some (some (.ref p))) → RUs K F' us vs → P us ρ' M' → Q (.ref p) H'
structure JU (X : Cx) (e : Expr) (f : WU) : Prop where
  h : PE X e (lfU X.K f)
structure JUA (X : Cx) (es : List Expr) (f : WUA) : Prop where
  h : PA X es (lfUA X.K f)
structure JNU (X : Cx) (e : Expr) (f : WUA) : Prop where
  h : PE X e (lfNU X.K f)
section
variable {K : PySem.W.Frag} {Z F H : Hp} {M : Mm} {ρ : Rho} {σ : L2.St} {p : Addr}
private theorem Ag.adopt {vs : List V} {us : List U} (ag : Ag K Z F M H ρ σ) (n2 : H p = some (.lst vs)) (n3 : F p = none) (n4 : M p = none) (nz : Z p = none) (n5 : ∀ (j : Nat) (es : List D), ρ[j]? = some (.ow es) → σ[j]? ≠ some (some (.ref p))) (r : RUs K F us vs) : Ag K Z F (mset M p (.own us)) H ρ σ := by
  refine ⟨⟨ag.m.sm, fun q o e => ?_, fun q o e => ?_⟩, ag.len, fun i e h => ?_, ag.di⟩
  · obtain ⟨z1, z2, z3⟩ := ag.m.zz q o e
    exact ⟨z1, z2, by rw [mset_ne (fun z => by rw [z, nz] at e; cases e)]; exact z3⟩
  · by_cases z : q = p
    · subst z
      rw [mset_same] at e
      cases e
      exact ⟨n3, vs, n2, r⟩
    · rw [mset_ne z] at e; exact ag.m.mo q o e
  · have := ag.en i e h
    cases e with
    | un => trivial
    | sh d => exact this
    | rf p => exact this
    | ut u => exact this
    | ow ds =>
      obtain ⟨q, ws, h1, h2, h3, h4, h6, h5⟩ := this
      have hne : q ≠ p := fun z => by
        subst z
        have hj' : σ[i]? = some (some (.ref q)) := by
          cases y : σ[i]? with
          | none => rw [y] at h1; cases h1
          | some o => rw [y] at h1; simp at h1; rw [h1]
        exact n5 i ds h hj'
      exact ⟨q, ws, h1, h2, h3, by rw [mset_ne hne]; exact h4, h6, h5⟩
private theorem Ag.chgM {us us' : List U} {ws : List V} (ag : Ag K Z F M H ρ σ) (hp : M p = some (.own us)) (r : RUs K F us' ws) : Ag K Z F (mset M p (.own us')) (upd H p (.lst ws)) ρ σ := by
  obtain ⟨f0, vs, h0, r0⟩ := ag.m.mo p _ hp
  have ne : ∀ {q : Addr} {u : HO}, F q = some u → q ≠ p := fun e z => by rw [z, f0] at e; cases e
  refine ⟨⟨fun q u e => by rw [upd_ne (ne e)]; exact ag.m.sm q u e, fun q o e => ?_, fun q o e => ?_⟩, ag.len, fun i e h => ?_, ag.di⟩
  · obtain ⟨z1, z2, z3⟩ := ag.m.zz q o e
    have : q ≠ p := fun z => by rw [z, hp] at z3; cases z3
    exact ⟨by rw [upd_ne this]; exact z1, z2, by rw [mset_ne this]; exact z3⟩
  · by_cases z : q = p
    · subst z
      rw [mset_same] at e
      cases e
      exact ⟨f0, ws, upd_same, r⟩
    · rw [mset_ne z] at e
      obtain ⟨z1, z2⟩ := ag.m.mo q o e
      exact ⟨z1, z2.same (Same.refl _) (upd_ne z)⟩
  · have := ag.en i e h
    cases e with
    | un => trivial
    | sh d => exact this
    | rf p => exact this
    | ut u => exact this
    | ow ds =>
      obtain ⟨q, ws', h1, h2, h3, h4, h6, h5⟩ := this
      have hne : q ≠ p := fun z => by rw [z, hp] at h4; cases h4
      exact ⟨q, ws', h1, by rw [upd_ne hne]; exact h2, h3, by rw [mset_ne hne]; exact h4, h6, h5⟩
end
private theorem sl_of {σ : L2.St} {i : Nat} {v : V} (g1 : (σ[i]?).join = some v) : σ[i]? = some (some v) := by
  cases q : σ[i]? with
  | none => rw [q] at g1; cases g1
  | some o => rw [q] at g1; simp at g1; rw [g1]
section
variable {X : Cx} {a b c e : Expr} {es rest : List Expr} {pos p p2 : Pos} {fa fb fe : WE} {ft : WT} {fl : WA} {fn : WN} {ga gb ge : WU} {gl : WUA} {st : Stmt} {sts : List Stmt} {fs : WS} {x : Str}
noncomputable def uD (f : WE) : WU := fun ρ M P => f ρ M fun d ρ1 M1 => P (.d d) ρ1 M1
private theorem ju_d (h : JE X e fe) : JU X e (uD fe) := ⟨imE h.h fun σ H Q hh => ex5 hh fun Z F ρ M P ag hf k => ⟨Z, F, ρ, M, _, ag, hf, fun v H' F' d ρ' M' s' ag' r h => k v H' F' _ ρ' M' s' ag' (by rw [RU]; exact r) h⟩⟩
noncomputable def uNu (f : WN) : WUA := fun ρ M P => f ρ M fun ds ρ1 M1 => P (ds.map U.d) ρ1 M1
private theorem jnu_n (h : JN X e fn) : JNU X e (uNu fn) := ⟨imE h.h fun σ H Q hh => ex5 hh fun Z F ρ M P ag hf k => ⟨Z, F, ρ, M, _, ag, hf, fun p vs H' F' ds ρ' M' s' ag' n2 n3 n4 nz n5 r h => k p vs H' F' _ ρ' M' s' ag' n2 n3 n4 nz n5 (.ofD r) h⟩⟩
noncomputable def uNew (f : WUA) : WU := fun ρ M P => f ρ M fun us ρ1 M1 => ∀ p, M1 p = none → P (.adr p) ρ1 (mset M1 p (.own us))
private theorem ju_new (h : JNU X e gl) : JU X e (uNew gl) := ⟨imE h.h fun σ H Q hh => ex5 hh fun Z F ρ M P ag hf k => ⟨Z, F, ρ, M, _, ag, hf, fun p vs H' F' us ρ' M' s' ag' n2 n3 n4 nz n5 r h => k _ H' F' _ ρ' _ s' (ag'.adopt n2 n3 n4 nz n5 r) (by rw [RU]) (h p n4)⟩⟩
noncomputable def uV (i : Nat) : WU := fun ρ M P => match ρ[i]? with
  | some (.sh d) => P (.d d) ρ M
  | some (.ut u) => P u ρ M
  | some (.rf p) => P (.adr p) ρ M
  | some (.ow ds) => ∀ p, M p = none → P (.adr p) (ρ.set i (.rf p)) (mset M p (.own (ds.map U.d)))
  | _ => False
private theorem ju_v (i : Nat) {x : Str} (hN : X.N[i]? = some x := by rfl) (hv : Vis X.env.scope x := by first | exact Or.inl rfl | exact Or.inr (Or.inl rfl) | exact Or.inr (Or.inr rfl)) (hd : (x == ("__debug__" : Str)) = false := by decide) (hcd : (x == ("__classdict__" : Str)) = false := by decide) : JU X (.Name x pos) (uV i) := ⟨imE (L2.pv i hN hv hd hcd) fun σ H Q hh => ex5 hh fun Z F ρ M P ag hf k => by
  unfold uV at hf
  split at hf
  · rename_i d hd
    obtain ⟨v, h1, h2⟩ := ag.en i _ hd
    exact ⟨v, sl_of h1, k v H F _ ρ M (Same.refl _) ag (by rw [RU]; exact h2) hf⟩
  · rename_i u hd
    obtain ⟨v, h1, h2⟩ := ag.en i _ hd
    exact ⟨v, sl_of h1, k v H F _ ρ M (Same.refl _) ag h2 hf⟩
  · rename_i q hd
    have h1 : (σ[i]?).join = some (.ref q) := ag.en i _ hd
    exact ⟨.ref q, sl_of h1, k _ H F _ ρ M (Same.refl _) ag (by rw [RU]) hf⟩
  · rename_i ds hd
    obtain ⟨q, vs, h1, h2, h3, h4, h5, h6⟩ := ow_get ag hd
    refine ⟨.ref q, h1, ?_⟩
    have hi : i < ρ.length := (List.getElem?_eq_some_iff.mp hd).1
    have ag1 : Ag X.K Z F M H (ρ.set i (.rf q)) σ := by
      have := ag.put (i := i) (e := .rf q) (o := some (.ref q)) rfl fun _ _ z => nomatch z
      rw [set_id h1] at this
      exact this
    refine k _ H F _ _ _ (Same.refl _) (ag1.adopt h2 h3 h4 h5 (fun j es hj z => ?_) (.ofD h6)) (by rw [RU]) (hf q h4)
    by_cases hji : j = i
    · subst hji; rw [List.getElem?_set_self hi] at hj; cases hj
    · rw [List.getElem?_set_ne (Ne.symm hji)] at hj
      exact ag.di i j ds es q (Ne.symm hji) hd hj h1 z
  · exact hf.elim⟩
noncomputable def uNil : WUA := fun ρ M P => P [] ρ M
noncomputable def uCons (f : WU) (g : WUA) : WUA := fun ρ M P => f ρ M fun d ρ1 M1 => g ρ1 M1 fun ds ρ2 M2 => P (d :: ds) ρ2 M2
private theorem jua_nil : JUA X [] uNil := ⟨imA pa_nil fun σ H Q hh => ex5 hh fun Z F ρ M P ag hf k => k [] H F [] ρ M (Same.refl _) ag .nil hf⟩
private theorem jua_cons (ha : JU X e ge) (hr : JUA X es gl) (hs : starEach (e :: es) X.env = (false, eval e X.env) :: starEach es X.env := by rfl) : JUA X (e :: es) (uCons ge gl) := ⟨imA (pa_cons ha.h hr.h hs) fun σ H Q hh => ex5 hh fun Z F ρ M P ag hf k =>
  ⟨Z, F, ρ, M, _, ag, hf, fun v H1 F1 d1 ρ1 M1 s1 ag1 r1 h1 => ⟨Z, F1, ρ1, M1, _, ag1, h1, fun vs H2 F2 ds ρ2 M2 s2 ag2 r2 h2 => k _ H2 F2 _ ρ2 M2 (s1.trans s2) ag2 (.cons (r1.same s2) r2) h2⟩⟩⟩
noncomputable def uTup (f : WUA) : WU := fun ρ M P => f ρ M fun us ρ1 M1 => us.length ≤ sizeLine ∧ P (.tup us) ρ1 M1
private theorem ju_tup {x1} (h : JUA X es gl) : JU X (.Tuple es x1 pos) (uTup gl) := ⟨imE (pe_tup h.h) fun σ H Q hh => ex5 hh fun Z F ρ M P ag hf k => ⟨Z, F, ρ, M, _, ag, hf, fun vs H1 F1 ds ρ1 M1 s1 ag1 r1 h1 => by
  refine ⟨by rw [← r1.length]; exact h1.1, fun p hp => ?_⟩
  have s2 : Same F1 (upd F1 p (.tup vs)) := Same.new (sub_none ag1.m.sm hp)
  exact k _ _ (upd F1 p (.tup vs)) _ ρ1 M1 (s1.trans s2) (ag1.new hp) (by rw [RU]; exact ⟨p, vs, rfl, SqT.of upd_same, r1.same s2⟩) h1.2⟩⟩
private theorem newNU {Z F H : Hp} {M : Mm} {ρ : Rho} {σ : L2.St} {p : Addr} {vs : List V} {K : PySem.W.Frag} (ag : Ag K Z F M H ρ σ) (hp : H p = none) :
    Ag K Z F M (upd H p (.lst vs)) ρ σ ∧ upd H p (.lst vs) p = some (.lst vs) ∧ F p = none ∧ M p = none ∧ Z p = none ∧ (∀ (j : Nat) (es : List D), ρ[j]? = some (.ow es) → σ[j]? ≠ some (some (.ref p))) := by
  refine ⟨ag.newO hp, upd_same, sub_none ag.m.sm hp, ?_, ?_, fun j es h z => ?_⟩
  · cases q : M p with
    | none => rfl
    | some o =>
      obtain ⟨_, k⟩ := ag.m.mo p o q
      obtain ⟨u, hu⟩ := k.there
      rw [hp] at hu; cases hu
  · cases q : Z p with
    | none => rfl
    | some o => have := (ag.m.zz p o q).1; rw [hp] at this; cases this
  · obtain ⟨q, ws, h1, h2, _⟩ := ag.en j _ h
    rw [z] at h1
    cases h1
    rw [hp] at h2; cases h2
noncomputable def itsU (M : Mm) : U → Option (List U)
  | .adr p => (match M p with
    | some (.own us) => some us
    | _ => none)
  | .d (.lst ds) => some (ds.map U.d)
  | _ => none
private theorem itsU_of {K : PySem.W.Frag} {Z F H : Hp} {M : Mm} {u : U} {us : List U} {v : V} (a : AgM K Z F M H) (h : itsU M u = some us) (r : RU K F u v) : ∃ q vs, v = .ref q ∧ Rd H q (.lst vs) ∧ RUs K F us vs := by
  cases u with
  | adr p =>
    rw [RU] at r
    simp only [itsU] at h
    split at h
    · rename_i us' e
      cases h
      obtain ⟨_, vs, g1, g2⟩ := a.mo p _ e
      exact ⟨p, vs, r, .inl g1, g2⟩
    · cases h
  | d x =>
    rw [RU] at r
    cases x with
    | lst ds =>
      simp only [itsU] at h
      cases h
      rw [Rp] at r
      obtain ⟨q, vs, r1, r2, r3⟩ := r
      exact ⟨q, vs, r1, rd_same a.sm r2, .ofD r3⟩
    | _ => simp only [itsU] at h; cases h
  | tup us => simp only [itsU] at h; cases h
  | ins C ns ds => simp only [itsU] at h; cases h
noncomputable def uCat (fa fb : WU) : WUA := fun ρ M P => fa ρ M fun x ρ1 M1 => fb ρ1 M1 fun y ρ2 M2 => ∃ us ws, itsU M2 x = some us ∧ itsU M2 y = some ws ∧ us.length + ws.length ≤ sizeLine ∧ P (us ++ ws) ρ2 M2
private theorem jnu_cat (ha : JU X a ga) (hb : JU X b gb) : JNU X (.BinOp a .Add b pos) (uCat ga gb) := ⟨imE (pe_op op_cat4 ha.h hb.h) fun σ H Q hh => ex5 hh fun Z F ρ M P ag hf k => ⟨Z, F, ρ, M, _, ag, hf, fun v H1 F1 x ρ1 M1 s1 ag1 r1 h1 => ⟨Z, F1, ρ1, M1, _, ag1, h1, fun u H2 F2 y ρ2 M2 s2 ag2 r2 h2 => by
  obtain ⟨us, ws, e1, e2, hl, hP⟩ := h2
  obtain ⟨q, vs, rfl, g1, g2⟩ := itsU_of ag2.m e1 (r1.same s2)
  obtain ⟨q', vs', rfl, g3, g4⟩ := itsU_of ag2.m e2 r2
  refine ⟨q, q', vs, vs', rfl, rfl, g1, g3, by rw [← g2.length, ← g4.length]; exact hl, fun p hp => ?_⟩
  obtain ⟨n1, n2, n3, n4, nz, n5⟩ := newNU (vs := vs ++ vs') ag2 hp
  exact k p _ _ F2 _ ρ2 M2 (s1.trans s2) n1 n2 n3 n4 nz n5 (g2.append g4) hP⟩⟩⟩
noncomputable def RIxU (M : Mm) : U → D → (U → Prop) → Prop := fun x y P => match y with
  | .int i => (match x with
    | .tup us => ∃ u, atI us i = some u ∧ P u
    | .adr p => ∃ us u, M p = some (.own us) ∧ atI us i = some u ∧ P u
    | .d z => RIx z (.int i) fun d => P (.d d)
    | .ins _ _ _ => False)
  | _ => False
private theorem at_rus {K : PySem.W.Frag} {F : Hp} {ds : List U} {vs : List V} {i : Int} {d : U} (r : RUs K F ds vs) (h : atI ds i = some d) : ∃ v, atI vs i = some v ∧ RU K F d v := by
  unfold atI at h ⊢
  rw [r.length] at h
  cases e : ixN vs.length i with
  | none => rw [e] at h; cases h
  | some j =>
    rw [e] at h
    exact r.get h
noncomputable def uAt (fa : WU) (fk : WE) : WU := fun ρ M P => fa ρ M fun x ρ1 M1 => fk ρ1 M1 fun y ρ2 M2 => RIxU M2 x y fun u => P u ρ2 M2
private theorem ju_at (ha : JU X a ga) (hb : JE X b fb) (hs : PlainIx b := by intro _ _; rfl) : JU X (.Subscript a b pos) (uAt ga fb) := ⟨imE (pe_ix ix_seq ha.h hb.h hs) fun σ H Q hh => ex5 hh fun Z F ρ M P ag hf k => ⟨Z, F, ρ, M, _, ag, hf, fun v H1 F1 x ρ1 M1 s1 ag1 r1 h1 => ⟨Z, F1, ρ1, M1, _, ag1, h1, fun u H2 F2 y ρ2 M2 s2 ag2 r2 h2 => by
  have r1 := r1.same s2
  unfold RIxU at h2
  split at h2
  · rename_i i
    split at h2
    · obtain ⟨w, hw, hp⟩ := h2
      rw [RU] at r1
      obtain ⟨q, vs, rfl, g1, g2⟩ := r1
      obtain ⟨z, z1, z2⟩ := at_rus g2 hw
      rw [Rp] at r2
      exact .inr (.inl ⟨q, vs, i, z, rfl, r2, sqT_same ag2.m.sm g1, z1, k z H2 F2 w ρ2 M2 (s1.trans s2) ag2 z2 hp⟩)
    · obtain ⟨us, w, hM, hw, hp⟩ := h2
      rw [RU] at r1
      subst r1
      obtain ⟨_, vs, g1, g2⟩ := ag2.m.mo _ _ hM
      obtain ⟨z, z1, z2⟩ := at_rus g2 hw
      rw [Rp] at r2
      exact .inl ⟨_, vs, i, z, rfl, r2, SqL.of g1, z1, k z H2 F2 w ρ2 M2 (s1.trans s2) ag2 z2 hp⟩
    · rename_i z _
      rw [RU] at r1
      exact w_ix z (.int i) v u F2 H2 Q _ ag2.m.sm r1 r2 h2 fun d w F' H' g rp hp => k w H' F' (.d d) ρ2 M2 (s1.trans (s2.trans (g.same ag2.m.sm))) (g.ag ag2) (by rw [RU]; exact rp) hp
    · exact h2.elim
  · exact h2.elim⟩⟩⟩
noncomputable def uRet (f : WU) : WS := fun E ρ M => f ρ M fun u _ M1 => E.rt u M1
private theorem js_retU (h : JU X e ge) : JS X (.Return (some e) pos) (uRet ge) := ⟨imS (ps_ret h.h) fun D' σ H hh => ex5 hh fun Z F ρ M E ag hf k => ⟨Z, F, ρ, M, _, ag, hf, fun v H' F' u ρ' M' s' ag' r h => k.rt v H' F' u M' s' ag'.m r h⟩⟩
section
variable {i : Nat} {pos' : Pos}
noncomputable def uSet (i : Nat) (f : WU) : WS := fun E ρ M => f ρ M fun u ρ1 M1 => E.nx (ρ1.set i (.ut u)) M1
private theorem js_setU (hN : X.N.Nodup) (hi : X.N[i]? = some x) (hx : Loc X.env.scope x) (he : JU X e ge) (hs : swapsWith e (some (.Name x pos')) pos.line X.env = pure false := by rfl) (hf : X.fn x = true ∨ X.env.scope.names.lookup x = some .local := by first | exact .inl rfl | exact .inr rfl | assumption) :
    JS X (.Assign [.Name x pos'] e pos) (uSet i ge) := ⟨imS (ps_set hN hi hx he.h hs hf) fun D' σ H hh => ex5 hh fun Z F ρ M E ag hf k => ⟨Z, F, ρ, M, _, ag, hf, fun v H' F' d ρ' M' s' ag' r h => k.nx _ H' F' _ M' s' (ag'.setU r) h⟩⟩
end
noncomputable def uApp (fr fe : WU) : WS := fun E ρ M => fr ρ M fun r ρ1 M1 => match r with
  | .adr p => (∃ us, M1 p = some (.own us)) ∧ fe ρ1 M1 fun u ρ2 M2 => ∃ us, M2 p = some (.own us) ∧ us.length < sizeLine ∧ E.nx ρ2 (mset M2 p (.own (us ++ [u])))
  | _ => False
private theorem js_appU {apos cpos : Pos} (hr : JU X a ga) (he : JU X e ge) (hbase : attributeBase a "append" X.env (eval a X.env) = eval a X.env := by rfl)
    (hfew : ((backTo cpos (starEach [e] X.env)).all (fun x => !x.1) && (backToKw cpos (keywordEach [] X.env)).all (fun x => x.1.isSome) && decide ([e].length + ([] : List Keyword).length + (if ([] : List Keyword).isEmpty then 0 else 1) < 30)) = true := by rfl)
    (hline : (apos.endLine == cpos.line) = true := by rfl) (hs : starEach [e] X.env = [(false, eval e X.env)] := by rfl) (hplain : (backTo cpos (starEach [] X.env)).any (·.1) = false := by rfl)
    (hsw : swapsWith (.Call (.Attribute a "append" apos) [e] [] cpos) none pos.line X.env = pure false := by rfl) : JS X (.Expr (.Call (.Attribute a "append" apos) [e] [] cpos) pos) (uApp ga ge) :=
  ⟨imS (ps_expr (pe_bm PySem.F.plainAttrs_list PySem.F.slot_list_append PySem.F.type_list_append mt_append hr.h (jua_cons he jua_nil hs).h hbase hfew hline hs hplain) hsw) fun D' σ H hh => ex5 hh fun Z F ρ M E ag hf k => ⟨Z, F, ρ, M, _, ag, hf, fun v H1 F1 r ρ1 M1 s1 ag1 r1 h1 => by
    split at h1
    · rename_i q
      obtain ⟨⟨us0, e0⟩, h1⟩ := h1
      rw [RU] at r1
      subst r1
      obtain ⟨_, vs0, g1, g2⟩ := ag1.m.mo _ _ e0
      refine ⟨.inl ⟨rfl, vs0, SqL.of g1⟩, Z, F1, ρ1, M1, fun ws ρ2 M2 => ∃ u us, ws = [u] ∧ M2 q = some (.own us) ∧ us.length < sizeLine ∧ E.nx ρ2 (mset M2 q (.own (us ++ [u]))), ag1, ?_, fun ws H2 F2 us' ρ2 M2 s2 ag2 r2 h2 => ?_⟩
      · show ge ρ1 M1 fun d ρ1 M1 => ∃ u us, [d] = [u] ∧ _
        refine cast (congrArg _ ?_) h1
        funext u ρ2 M2
        refine propext ⟨fun ⟨us, z1, z2, z3⟩ => ⟨u, us, rfl, z1, z2, z3⟩, fun ⟨u', us, z0, z1, z2, z3⟩ => ?_⟩
        cases z0
        exact ⟨us, z1, z2, z3⟩
      · obtain ⟨u, us, rfl, z1, z2, z3⟩ := h2
        rw [RUs] at r2
        obtain ⟨y, t, rfl, r3, r4⟩ := r2
        rw [RUs] at r4
        subst r4
        obtain ⟨_, vs, y1, y2⟩ := ag2.m.mo _ _ z1
        exact ⟨q, vs, y, rfl, rfl, y1, by rw [← y2.length]; exact z2, k.nx σ _ F2 _ _ (s1.trans s2) (ag2.chgM z1 (y2.append (.cons r3 .nil))) z3⟩
    · exact h1.elim⟩⟩
end
end L4
set_option Elab.async false
set_option linter.all false
set_option maxRecDepth 100000
namespace L4
open PySem PySem.Spec PyProof.Rows L2 L3
noncomputable def uComp (fi : WI) (g : WG) (c : WT) (f : WU) (src : List (Option Nat)) : WUA := fun ρ M P => fi ρ M fun ds ρ1 M1 => ∃ I : Nat → List U → Rho → Mm → Prop, I 0 [] (iniR src ρ1) M1 ∧
  (∀ (i : Nat) d out ρ2 M2, ds[i]? = some d → I i out ρ2 M2 → g d ρ2 M2 fun ρ3 M3 => c ρ3 M3 fun b ρ4 M4 => if b = true then f ρ4 M4 fun y ρ5 M5 => out.length < sizeLine ∧ I (i + 1) (out ++ [y]) (clr ρ5) M5 else I (i + 1) out (clr ρ4) M4) ∧
  ∀ out ρ2 M2, I ds.length out ρ2 M2 → P out ρ1 M2
private theorem of_compU {K : PySem.W.Frag} {fi : WI} {fg : WG} {fc : WT} {fe : WU} {src : List (Option Nat)} {g : TG} {tc : TT} {te : TE} (hg : ∀ v σ H Q, lfG K fg v σ H Q → g v σ H Q) (hc : ∀ σ H Q, lfT K fc σ H Q → tc σ H Q) (he : ∀ σ H Q, lfU K fe σ H Q → te σ H Q) :
    ∀ σ H Q, lfNU K (uComp fi fg fc fe src) σ H Q → tComp (lfI K fi) g tc te src σ H Q :=
  of_compX (R := RU K) (RL := RUs K) (fun _ => .nil) (fun s r => r.same s) (fun r => r.length) (fun r q => r.append (.cons q .nil)) hg hc he
section
variable {X : Cx} {a b c e tg elt iter : Expr} {es ifs : List Expr} {pos cpos pos' p2 : Pos} {fi : WI} {fg : WG} {fc : WT} {fe : WU} {scope : Scope} {N : List Str} {src : List (Option Nat)} {x : Str} {k : Nat}
private theorem js_setCU (hN : X.N.Nodup) (hk : X.N[k]? = some x) (hx : Loc X.env.scope x) (N : List Str) (src : List (Option Nat)) (ok : CompOk X scope N src) (hcalm : X.calm = true) (hi : JI X tg iter fi)
    (hg : ∀ pins s2 H2 C fp, JG (cxComp X pins s2 H2 N scope C fp) tg fg) (hc : ∀ pins s2 H2 C fp, JC (cxComp X pins s2 H2 N scope C fp) ifs fc) (he : ∀ pins s2 H2 C fp, JU (cxComp X pins s2 H2 N scope C fp) elt fe)
    (hsw : swapsWith (.ListComp elt [⟨tg, iter, ifs, 0⟩] scope cpos) (some (.Name x pos')) pos.line X.env = pure true := by rfl)
    (hs : ∀ x, foldedSetIterable iter X.env x = pure x := by intro _; rfl) (hfn : X.fn x = true ∨ X.env.scope.names.lookup x = some .local := by first | exact .inl rfl | exact .inr rfl | assumption) :
    JS X (.Assign [.Name x pos'] (.ListComp elt [⟨tg, iter, ifs, 0⟩] scope cpos) pos) (uSet k (uNew (uComp fi fg fc fe src))) :=
  ⟨imS (ps_setComp hN hk hx N src ok hcalm hi.h (fun a b c d e => (hg a b c d e).h) (fun a b c d e => (hc a b c d e).h) (fun a b c d e => (he a b c d e).h) hsw hs hfn) fun D' σ H hh => ex5 hh fun Z F ρ M E ag hf k =>
    of_compU (fun _ _ _ _ h => h) (fun _ _ _ h => h) (fun _ _ _ h => h) σ H _ ⟨Z, F, ρ, M, _, ag, hf, fun p vs H' F' us ρ' M' s' ag' n2 n3 n4 nz n5 r h => k.nx _ H' F' _ _ s' ((ag'.adopt n2 n3 n4 nz n5 r).setU (by rw [RU])) (h p n4)⟩⟩
end
noncomputable def spN (K : PySem.W.Frag) (g : List D → (D → Prop) → Prop) : Sp := fun vs H Q _ => ∃ Z F M ds P, AgM K Z F M H ∧ Rps K F ds vs ∧ g ds P ∧ ∀ v H' F' u d M', Same F F' → AgM K Z F' M' H' → RU K F' u v → Fresh M M' d u → P d → Q v H'
noncomputable def uFn (g : List D → (D → Prop) → Prop) (fl : WA) : WU := fun ρ M P => fl ρ M fun ds ρ1 M1 => g ds fun d => ∀ u M2, Fresh M1 M2 d u → P u ρ1 M2
section
variable {X : Cx} {e : Expr} {es : List Expr} {pos p : Pos} {fl : WA} {x : Str} {g : List D → (D → Prop) → Prop} {k : Nat} {ps : List Str}
private theorem j_hN (F : Has X.prog X.w X.K X.mg X.base CX0 k x ps (spN X.K g)) (hr : Room k X.A) (hg : Gl X x) (ha : JA X (e :: es) fl) (hdb : (x == ("__debug__" : Str)) = false := by decide) (he : starEach (e :: es) X.env = (false, eval e X.env) :: starEach es X.env := by rfl) (hpl : (backTo pos (starEach es X.env)).any (·.1) = false := by rfl) :
    JU X (.Call (.Name x p) (e :: es) [] pos) (uFn g fl) := ⟨imE (pe_h F hr hg pass0 ha.h hdb he hpl) fun σ H Q hh => ex5 hh fun Z F ρ M P ag hf k => ⟨Z, F, ρ, M, _, ag, hf, fun vs H1 F1 ds ρ1 M1 s1 ag1 r1 h1 => by
  show spN X.K g (vs ++ []) H1 Q E0
  rw [List.append_nil]
  exact ⟨_, F1, M1, ds, _, ag1.m.inner, r1, h1, fun v H' F' u d M' s' m' r fr h => k v H' F' u ρ1 M' (s1.trans s') (ag1.back s' m') r (h u M' fr)⟩⟩⟩
end
noncomputable def frz (A : List Addr) (H F : Hp) : Hp := fun q => if q ∈ A then H q else F q
private theorem frz_in {A : List Addr} {H F : Hp} {q : Addr} (h : q ∈ A) : frz A H F q = H q := if_pos h
private theorem frz_out {A : List Addr} {H F : Hp} {q : Addr} (h : q ∉ A) : frz A H F q = F q := if_neg h
section
variable {K : PySem.W.Frag} {Z F H : Hp} {M : Mm} {A : List Addr}
private theorem frz_same (a : AgM K Z F M H) (hA : ∀ p ∈ A, ∃ us, M p = some (.own us)) : Same F (frz A H F) := fun q u e => by
  rw [frz_out]; exact e
  intro hq
  obtain ⟨us, h⟩ := hA q hq
  rw [(a.mo q _ h).1] at e; cases e
private theorem frz_sm (a : AgM K Z F M H) : Same (frz A H F) H := fun q u e => by
  by_cases h : q ∈ A
  · rw [frz_in h] at e; exact e
  · rw [frz_out h] at e; exact a.sm q u e
end
private theorem spN.toW {K : PySem.W.Frag} {g : List D → (D → Prop) → Prop} {vs : List V} {H : Hp} {Q : VK} {E : XK} (h : spW K (pur g) vs H Q E) : spN K g vs H Q E := by
  obtain ⟨Z, F, M, ds, P, a, r, hg, k⟩ := h
  refine ⟨Z, F, M, ds, _, a, r, hg, fun v H' F' u d M' s' a' ru fr pd => ?_⟩
  obtain ⟨A, h1, h2, h3, h4⟩ := fr
  have th := h1.there
  refine k v H' (frz A H' F') d M (s'.trans (frz_same a' th)) ⟨frz_sm a', fun q o e => ?_, fun q o e => ?_⟩ (h1.rp a' (frz_same a' th) (fun q hq => frz_in hq) ru) pd
  · obtain ⟨z1, z2, z3⟩ := a'.zz q o e
    have nq : q ∉ A := fun hq => by obtain ⟨_, y⟩ := th q hq; rw [z3] at y; cases y
    exact ⟨z1, by rw [frz_out nq]; exact z2, by rw [← h4 q nq]; exact z3⟩
  · have nq : q ∉ A := fun hq => by rw [h3 q hq] at e; cases e
    obtain ⟨z1, z2⟩ := a'.mo q o ((h4 q nq).trans e)
    exact ⟨by rw [frz_out nq]; exact z1, z2.same (frz_same a' th) rfl⟩
private theorem _root_.L3.Has.toW {P : Program} {w : World} {K : PySem.W.Frag} {mg : Str → Option Value} {base : Heap} {k : Nat} {x : Str} {ps : List Str} {g : List D → (D → Prop) → Prop} (h : Has P w K mg base CX0 k x ps (spN K g)) : Has P w K mg base CX0 k x ps (spW K (pur g)) := by
  obtain ⟨f, fd, F, b, kp, m⟩ := h.ex
  exact ⟨f, fd, F.imp fun vs H Q E h => spN.toW h, b, kp, m⟩
noncomputable def endN (M : Mm) (Q : D → Prop) : WEnds := ⟨fun _ _ => False, fun u M' => ∃ d M'', Sub M'' M' ∧ Fresh M M'' d u ∧ Q d, fun _ _ => False, fun _ _ => False⟩
private theorem _root_.L3.Def.hasN {P : Program} {w : World} {K : PySem.W.Frag} {mg : Str → Option Value} {base : Heap} {k : Nat} {x : Str} {st : Stmt} {N ps : List Str} {g : List D → (D → Prop) → Prop} (F : Def K mg x st ps) (sc : FnScope N ps (defScope st)) (len : ∀ ds P, g ds P → ds.length = ps.length)
    (hbody : ∀ (f : Addr) (cdv : Value) (A : Around) (outer : List Env) (s : Shared) (H : Hp) (E : XK), Room k (A.deeper (envOfC x (defScope st) s.heap.objs.size f cdv)) →
      ∃ G, JSs (cxOf CX0 P w K mg base N x (defScope st) f cdv A outer s H E).nox (defBody st) G ∧ ∀ ds M Q, g ds Q → G (endN M Q) (startR N ds) M) : Has P w K mg base CX0 (k + 1) x ps (spN K g) := by
  refine F.has sc (fun vs H Q E h => ?_) fun f cdv A outer s H vs Q E hr h => ?_
  · obtain ⟨Z, F', M, ds, P, m, r, hg, _⟩ := h
    rw [← r.length]
    exact len ds P hg
  · obtain ⟨Z, F', M, ds, P', m, r, hg, kk⟩ := h
    obtain ⟨G, hG, hh⟩ := hbody f cdv A outer s H E hr
    exact ⟨_, hG.h, Z, F', startR N ds, M, endN M P', ag_start N m r, hh ds M P' hg, ⟨fun _ _ _ _ _ _ _ q => q.elim, fun _ _ _ _ _ _ _ q => q.elim, fun _ _ _ _ _ _ _ q => q.elim, fun v H' F2 u M' s' m' r' ⟨d, M2, hs, fr, q⟩ => kk v H' F2 u d M2 s' (m'.sub hs) r' fr q⟩⟩
section
variable {X : Cx} {e : Expr} {ft : WT} {i : Nat}
end
end L4
set_option Elab.async false
set_option linter.all false
set_option maxRecDepth 100000
namespace L4
open PySem PySem.Spec PyProof.Rows L2 L3
section
variable {X : Cx} {a b c e : Expr} {es rest : List Expr} {pos p p2 : Pos} {fa fb fe : WE} {ft : WT} {fl : WA} {ga gb ge : WU} {x : Str}
private theorem boot_max : bootBuiltins "max" = some (.builtin "max") := by decide +kernel
private theorem boot_min : bootBuiltins "min" = some (.builtin "min") := by decide +kernel
noncomputable def RMx (g : Int → Int → Int) : List D → (D → Prop) → Prop := fun xs P => match xs with
  | [.int i, .int j] => P (.int (g i j))
  | _ => False
private theorem w_mx {g : Int → Int → Int} : CaW X (fun xs H Q => ∃ i j, xs = [.int i, .int j] ∧ Q (.int (g i j)) H) (RMx g) := by
  intro xs vs F H Q P sm rs h k
  unfold RMx at h
  split at h
  · obtain ⟨v, u, rfl, r1, r2⟩ := rps2 rs
    rw [Rp] at r1 r2
    subst r1 r2
    exact ⟨_, _, rfl, k _ _ F H .rf (by rw [Rp]) h⟩
  · exact h.elim
private theorem j_max2 (hg : Gl X "max") (hm : X.mg "max" = none) (hc : X.calm = true) (ha : JA X [a, b] fl) (he : starEach [a, b] X.env = (false, eval a X.env) :: starEach [b] X.env := by rfl) (hpl : (backTo pos (starEach [b] X.env)).any (·.1) = false := by rfl) : JE X (.Call (.Name "max" p) [a, b] [] pos) (wCall (RMx fun i j => if j > i then j else i) fl) := j_callB (call_max2 hc) w_mx hg hm boot_max ha (by decide) (by decide) he hpl
private theorem j_min2 (hg : Gl X "min") (hm : X.mg "min" = none) (hc : X.calm = true) (ha : JA X [a, b] fl) (he : starEach [a, b] X.env = (false, eval a X.env) :: starEach [b] X.env := by rfl) (hpl : (backTo pos (starEach [b] X.env)).any (·.1) = false := by rfl) : JE X (.Call (.Name "min" p) [a, b] [] pos) (wCall (RMx fun i j => if j < i then j else i) fl) := j_callB (call_min2 hc) w_mx hg hm boot_min ha (by decide) (by decide) he hpl
noncomputable def eU (f : WU) : WE := fun ρ M P => f ρ M fun u ρ1 M1 => match u with
  | .d x => P x ρ1 M1
  | _ => False
private theorem je_u (h : JU X e ge) : JE X e (eU ge) := ⟨imE h.h fun σ H Q hh => ex5 hh fun Z F ρ M P ag hf k => ⟨Z, F, ρ, M, _, ag, hf, fun v H' F' u ρ' M' s' ag' r h => by
  split at h
  · rw [RU] at r; exact k v H' F' _ ρ' M' s' ag' r h
  · exact h.elim⟩⟩
end
section
variable {K : PySem.W.Frag} {Z F H : Hp} {M : Mm} {ρ : Rho} {σ : L2.St} {p : Addr}
end
section
variable {X : Cx} {e : Expr} {es : List Expr} {pos np p cpos pos' : Pos} {fl : WA} {x y f : Str} {Pl : Pool} {gk : List D → Prop} {φ : HO → Prop} {k i : Nat} {ps : List Str}
end
end L4
set_option Elab.async false
set_option linter.all false
set_option maxRecDepth 100000
namespace L4
open PySem PySem.Spec PyProof.Rows L2 L3
noncomputable def isScr (ns : List Int) : HO → Prop := fun o => o = .lst (ns.map V.int) ∨ ∃ ob, o = .frz ob (.lst (ns.map V.int))
noncomputable def ScrN (K : PySem.W.Frag) (M : Mm) (p : Addr) (ns : List Int) : Prop := ns.length ≤ 63 ∧ (M p = some (.op (isScr ns)) ∨ ∃ (o : Obj) (its : Array Value) (n : Nat), K.lookup p = some o ∧ o.cls = .type "list" ∧ o.dict = none ∧ o.data = .seq its n ∧ its.size ≤ sizeLine ∧ Vals (ns.map V.int) its.toList)
noncomputable def Scr (K : PySem.W.Frag) : Pool := fun M p => ∃ ns : List Int, ScrN K M p ns
section
variable {K : PySem.W.Frag}
private theorem ScrN.sq {Z F H : Hp} {M : Mm} {p : Addr} {ns : List Int} (ag : AgM K Z F M H) (h : ScrN K M p ns) : SqL K H p (ns.map V.int) := by
  obtain ⟨l, h | h⟩ := h
  · obtain ⟨_, o, ho, e⟩ := ag.mo p _ h
    rcases e with rfl | ⟨ob, rfl⟩
    · exact .inl (.inl ho)
    · exact .inl (.inr ⟨ob, ho⟩)
  · exact .inr h
end
section
variable {X : Cx} {a b c e : Expr} {es : List Expr} {pos np p cpos pos' spos : Pos} {fa fb fe fk : WE} {fl : WA} {ge : WU} {x y : Str}
noncomputable def wLenS (K : PySem.W.Frag) (i : Nat) : WE := fun ρ M P => match ρ[i]? with
  | some (.rf q) => ∃ ns, ScrN K M q ns ∧ P (.int ns.length) ρ M
  | _ => False
private theorem j_lenS (i : Nat) (hg : Gl X "len") (hm : X.mg "len" = none) (hN : X.N[i]? = some x := by rfl) (hv : Vis X.env.scope x := by first | exact Or.inl rfl | exact Or.inr (Or.inl rfl) | exact Or.inr (Or.inr rfl)) (hd : (x == ("__debug__" : Str)) = false := by decide) (hcd : (x == ("__classdict__" : Str)) = false := by decide)
    (he : starEach [.Name x np] X.env = [(false, eval (.Name x np) X.env)] := by rfl) : JE X (.Call (.Name "len" p) [.Name x np] [] pos) (wLenS X.K i) := by
  refine ⟨imE (pe_callB (pos := pos) (p := p) call_len_seq hg hm boot_len (pa_cons (L2.pv (pos := np) i hN hv hd hcd) pa_nil he) (by decide) (by decide) he rfl) fun σ H Q hh => ex5 hh fun Z F ρ M P ag hf k => ?_⟩
  unfold wLenS at hf
  split at hf
  · rename_i q hq
    obtain ⟨ns, hs, hp⟩ := hf
    refine ⟨.ref q, sl_of (ag.en i _ hq), q, _, rfl, .inl (hs.sq ag.m), k _ H F _ ρ M (Same.refl _) ag ?_ hp⟩
    rw [Rp, List.length_map]
  · exact hf.elim
noncomputable def wAtS (K : PySem.W.Frag) (i : Nat) (fk : WE) : WE := fun ρ M P => match ρ[i]? with
  | some (.rf q) => fk ρ M fun k ρ1 M1 => match k with
    | .int j => ∃ ns c, ScrN K M1 q ns ∧ atI ns j = some c ∧ P (.int c) ρ1 M1
    | _ => False
  | _ => False
private theorem at_int {ns : List Int} {j c : Int} (h : atI ns j = some c) : atI (ns.map V.int) j = some (.int c) := by
  unfold atI at h ⊢
  rw [List.length_map]
  cases e : ixN ns.length j with
  | none => rw [e] at h; cases h
  | some i =>
    rw [e] at h
    show (ns.map V.int)[i]? = some (.int c)
    have h : ns[i]? = some c := h
    rw [List.getElem?_map, h]; rfl
private theorem j_atS (i : Nat) (hk : JE X b fk) (hN : X.N[i]? = some x := by rfl) (hv : Vis X.env.scope x := by first | exact Or.inl rfl | exact Or.inr (Or.inl rfl) | exact Or.inr (Or.inr rfl)) (hs : PlainIx b := by intro _ _; rfl) (hd : (x == ("__debug__" : Str)) = false := by decide) (hcd : (x == ("__classdict__" : Str)) = false := by decide) :
    JE X (.Subscript (.Name x np) b pos) (wAtS X.K i fk) := by
  refine ⟨imE (pe_ix (pos := pos) ix_seq (L2.pv (pos := np) i hN hv hd hcd) hk.h hs) fun σ H Q hh => ex5 hh fun Z F ρ M P ag hf k => ?_⟩
  unfold wAtS at hf
  split at hf
  · rename_i q hq
    refine ⟨.ref q, sl_of (ag.en i _ hq), Z, F, ρ, M, _, ag, hf, fun u H2 F2 dk ρ2 M2 s2 ag2 r2 h2 => ?_⟩
    split at h2
    · rename_i j
      rw [Rp] at r2
      obtain ⟨ns, c, hs, hc, hp⟩ := h2
      exact .inl ⟨q, _, j, .int c, rfl, r2, hs.sq ag2.m, at_int hc, k _ H2 F2 _ ρ2 M2 s2 ag2 (by rw [Rp]) hp⟩
    · exact h2.elim
  · exact hf.elim
end
end L4
set_option Elab.async false
set_option linter.all false
set_option maxRecDepth 100000
namespace L4
open PySem PySem.Spec PyProof.Rows L2 L3
section
variable {X : Cx} {e1 e2 e3 : Expr} {f1 f2 f3 : WE} {k1 k2 k3 : Str} {j1 j2 j3 : Nat} {pos p1 p2 p3 rpos : Pos}
end
section
variable {X : Cx} {es es2 : List Expr} {pos np p p2 cpos : Pos} {fl fl2 : WA} {x y f : Str} {Pl : Pool} {gk : List D → Prop} {φ : Int → HO → Prop} {g : List D → (D → Prop) → Prop} {k k' : Nat} {b c : Int} {ps ps' : List Str}
end
end L4
set_option Elab.async false
set_option linter.all false
set_option maxRecDepth 100000
namespace L4
open PySem PySem.Spec PyProof.Rows L2 L3
section
variable {K : PySem.W.Frag} {F : Hp} {A : List Addr}
end
section
variable {K : PySem.W.Frag} {Z F F' H H' : Hp} {M M' : Mm} {ρ : Rho} {σ : L2.St} {A : List Addr} {d d' : D} {u u' : U} {v : V}
end
section
variable {X : Cx} {e : Expr} {es : List Expr} {pos p : Pos} {fl : WA} {x : Str} {g : List D → (D → Prop) → Prop} {k i : Nat} {ps : List Str}
end
section
variable {X : Cx} {a b c e tg elt iter : Expr} {es ifs : List Expr} {pos cpos pos' p2 : Pos} {fe : WE} {fi : WI} {fg : WG} {fc : WT} {scope : Scope} {N : List Str} {src : List (Option Nat)} {x : Str} {k : Nat}
end
section
variable {K : PySem.W.Frag} {Z F G H : Hp} {M : Mm}
end
end L4
set_option Elab.async false
set_option linter.all false
set_option maxRecDepth 100000
namespace L4
open PySem PySem.Spec PyProof.Rows L2 L3
section
variable {X : Cx} {pins : List (Addr × Obj)} {σ : L2.St} {H : Hp} {s : Shared}
end
section
variable {K : PySem.W.Frag} {Z F H : Hp} {M : Mm} {ρ : Rho} {σ : L2.St} {p : Addr}
end
section
variable {X : Cx} {a b c e f : Expr} {es : List Expr} {pos np p apos cpos pos' dpos : Pos} {fl : WA} {x y : Str} {i : Nat}
end
end L4
set_option Elab.async false
set_option linter.all false
set_option maxRecDepth 100000
namespace L4
open PySem PySem.Spec PyProof.Rows L2 L3
section
variable {X : Cx} {a b c e tg : Expr} {es : List Expr} {pos np p p2 pos2 apos cpos : Pos} {fl : WA} {fn : WN} {x : Str}
end
end L4
set_option Elab.async false
set_option linter.all false
set_option maxRecDepth 100000
namespace L4
open PySem PySem.Spec PyProof.Rows L2 L3 PySem.SeqAt
section
variable {X : Cx} {e : Expr} {es : List Expr} {fl : WA} {fs : WS} {x n f S : Str} {i j : Nat} {g : List D → (Option D → Prop) → Prop} {k : Nat} {ps : List Str} {b0 : Stmt} {suite : List Stmt} {pos pos' p cpos np hpos tpos : Pos} {C Sa : Addr}
end
section
variable {X : Cx} {a b e : Expr} {pos np p np2 : Pos} {x y : Str}
end
section
variable {X : Cx} {a b : Expr} {pos : Pos} {fa fb : WE}
end
end L4
set_option Elab.async false
set_option linter.all false
set_option maxRecDepth 100000
namespace L4
open PySem PySem.Spec PySem.Calls PyProof.Rows L2 L3
noncomputable abbrev WFU := List U → Mm → (U → Mm → Prop) → Prop
noncomputable def spU (K : PySem.W.Frag) (g : WFU) : Sp := fun vs H Q _ => ∃ Z F M us P, AgM K Z F M H ∧ RUs K F us vs ∧ g us M P ∧ ∀ v H' F' u M', Same F F' → AgM K Z F' M' H' → RU K F' u v → P u M' → Q v H'
noncomputable def entU : U → Ent
  | .d x => .sh x
  | u => .ut u
noncomputable def startU (N : List Str) (us : List U) : Rho := us.map entU ++ List.replicate (N.length - us.length) .un
noncomputable def endU (P : U → Mm → Prop) : WEnds := ⟨fun _ M' => ∃ M'', Sub M'' M' ∧ P (.d .non) M'', fun u M' => ∃ M'', Sub M'' M' ∧ P u M'', fun _ _ => False, fun _ _ => False⟩
private theorem entU_ok {K : PySem.W.Frag} {Z F H : Hp} {M : Mm} {u : U} {v : V} (r : RU K F u v) : EOk K Z F M H (entU u) (some v) := by
  cases u with
  | d x => rw [RU] at r; exact ⟨v, rfl, r⟩
  | adr p => exact ⟨v, rfl, r⟩
  | tup us => exact ⟨v, rfl, r⟩
  | ins C ns ds => exact ⟨v, rfl, r⟩
private theorem entU_ow {u : U} {es : List D} : entU u ≠ .ow es := by cases u <;> exact fun z => nomatch z
private theorem ag_startU {K : PySem.W.Frag} {Z F H : Hp} {M : Mm} {us : List U} {vs : List V} (N : List Str) (m : AgM K Z F M H) (r : RUs K F us vs) : Ag K Z F M H (startU N us) (L2.start N vs) := by
  have hl := r.length
  have g : ∀ (i : Nat) (e : Ent), (startU N us)[i]? = some e → (∃ u v, e = entU u ∧ (L2.start N vs)[i]? = some (some v) ∧ RU K F u v) ∨ e = .un := fun i e h => by
    unfold startU at h
    by_cases hi : i < us.length
    · rw [List.getElem?_append_left (by simpa using hi), List.getElem?_map, List.getElem?_eq_getElem hi] at h
      cases h
      obtain ⟨v, h1, h2⟩ := r.get (List.getElem?_eq_getElem hi)
      refine .inl ⟨_, v, rfl, ?_, h2⟩
      unfold L2.start
      rw [List.getElem?_append_left (by simpa [← hl] using hi), List.getElem?_map, h1]
      rfl
    · rw [List.getElem?_append_right (by simpa using hi), List.getElem?_replicate] at h
      split at h
      · cases h; exact .inr rfl
      · cases h
  refine ⟨m, by unfold startU L2.start; simp [hl], fun i e h => ?_, fun i j es fs p n h1 _ _ => ?_⟩
  · rcases g i e h with ⟨u, v, rfl, h2, h3⟩ | rfl
    · rw [h2]; exact entU_ok h3
    · trivial
  · rcases g i _ h1 with ⟨u, v, e, _⟩ | e
    · exact absurd e.symm entU_ow
    · cases e
section
variable {P : Program} {w : World} {K : PySem.W.Frag} {mg : Str → Option Value} {base : Heap} {k : Nat} {x : Str} {st : Stmt} {N ps : List Str} {g : WFU}
noncomputable def CodeAt (K : PySem.W.Frag) (mg : Str → Option Value) (x : Str) (st : Stmt) (c : Addr) : Prop := ∀ f fd, Fun K x x st f fd → mg x = some (.ref f) → fd.code = .ref c
private theorem _root_.L3.Def.hasUC {c : Addr} (F : Def K mg x st ps) (hc : CodeAt K mg x st c) (sc : FnScope N ps (defScope st)) (len : ∀ us M P, g us M P → us.length = ps.length)
    (hbody : ∀ (f : Addr) (A : Around) (outer : List Env) (s : Shared) (H : Hp) (E : XK), Room k (A.deeper (envOfC x (defScope st) s.heap.objs.size f (.ref c))) →
      ∃ G, JSs (cxOf CX0 P w K mg base N x (defScope st) f (.ref c) A outer s H E).nox (defBody st) G ∧ ∀ us M Q, g us M Q → G (endU Q) (startU N us) M) : Has P w K mg base CX0 (k + 1) x ps (spU K g) := by
  obtain ⟨f, fd, F1, b, m⟩ := F.ex
  have e := hc f fd F1 m
  have kp := F1.kp
  obtain ⟨oc, od, kV, doc, pm, an, cdv, ct, osl, rfl, lk, hcd⟩ := F1.ex
  have e : cdv = .ref c := e
  subst e
  refine ⟨f, _, fn_of lk hcd sc (fun vs H Q E h => ?_) fun A outer s H vs Q E hr h => ?_, b, kp, m⟩
  · obtain ⟨Z, F', M, us, P, m, r, hg, _⟩ := h
    rw [← r.length]
    exact len us M P hg
  · obtain ⟨Z, F', M, us, P', m, r, hg, kk⟩ := h
    obtain ⟨G, hG, hh⟩ := hbody f A outer s H E hr
    exact ⟨_, hG.h.nox, Z, F', startU N us, M, endU P', ag_startU N m r, hh us M P' hg, ⟨fun σ' H' F2 ρ' M' s' ag' ⟨M2, hs, q⟩ => kk _ H' F2 _ M2 s' (ag'.m.sub hs) (by rw [RU, Rp]) q, fun _ _ _ _ _ _ _ q => q.elim, fun _ _ _ _ _ _ _ q => q.elim, fun v H' F2 u M' s' m' r' ⟨M2, hs, q⟩ => kk v H' F2 u M2 s' (m'.sub hs) r' q⟩⟩
private theorem _root_.L3.Def.hasU (F : Def K mg x st ps) (sc : FnScope N ps (defScope st)) (len : ∀ us M P, g us M P → us.length = ps.length)
    (hbody : ∀ (f : Addr) (cdv : Value) (A : Around) (outer : List Env) (s : Shared) (H : Hp) (E : XK), Room k (A.deeper (envOfC x (defScope st) s.heap.objs.size f cdv)) →
      ∃ G, JSs (cxOf CX0 P w K mg base N x (defScope st) f cdv A outer s H E).nox (defBody st) G ∧ ∀ us M Q, g us M Q → G (endU Q) (startU N us) M) : Has P w K mg base CX0 (k + 1) x ps (spU K g) := by
  refine F.has sc (fun vs H Q E h => ?_) fun f cdv A outer s H vs Q E hr h => ?_
  · obtain ⟨Z, F', M, us, P, m, r, hg, _⟩ := h
    rw [← r.length]
    exact len us M P hg
  · obtain ⟨Z, F', M, us, P', m, r, hg, kk⟩ := h
    obtain ⟨G, hG, hh⟩ := hbody f cdv A outer s H E hr
    exact ⟨_, hG.h, Z, F', startU N us, M, endU P', ag_startU N m r, hh us M P' hg, ⟨fun σ' H' F2 ρ' M' s' ag' ⟨M2, hs, q⟩ => kk _ H' F2 _ M2 s' (ag'.m.sub hs) (by rw [RU, Rp]) q, fun _ _ _ _ _ _ _ q => q.elim, fun _ _ _ _ _ _ _ q => q.elim, fun v H' F2 u M' s' m' r' ⟨M2, hs, q⟩ => kk v H' F2 u M2 s' (m'.sub hs) r' q⟩⟩
end
section
variable {X : Cx} {a e : Expr} {es : List Expr} {pos p apos : Pos} {gl : WUA} {ga ge : WU} {fe : WE} {fl : WA} {x f : Str} {k : Nat} {ps : List Str}
noncomputable def uFnU (g : WFU) (fl : WUA) : WU := fun ρ M P => fl ρ M fun us ρ1 M1 => g us M1 fun u M2 => P u ρ1 M2
private theorem ju_h {g : WFU} (F : Has X.prog X.w X.K X.mg X.base CX0 k x ps (spU X.K g)) (hr : Room k X.A) (hg : Gl X x) (ha : JUA X (e :: es) gl) (hdb : (x == ("__debug__" : Str)) = false := by decide) (he : starEach (e :: es) X.env = (false, eval e X.env) :: starEach es X.env := by rfl) (hpl : (backTo pos (starEach es X.env)).any (·.1) = false := by rfl) :
    JU X (.Call (.Name x p) (e :: es) [] pos) (uFnU g gl) := ⟨imE (pe_h F hr hg pass0 ha.h hdb he hpl) fun σ H Q hh => ex5 hh fun Z F ρ M P ag hf k => ⟨Z, F, ρ, M, _, ag, hf, fun vs H1 F1 us ρ1 M1 s1 ag1 r1 h1 => by
  show spU X.K g (vs ++ []) H1 Q E0
  rw [List.append_nil]
  exact ⟨_, F1, M1, us, _, ag1.m.inner, r1, h1, fun v H' F' u M' s' m' r h => k v H' F' u ρ1 M' (s1.trans s') (ag1.back s' m') r h⟩⟩⟩
noncomputable def FldAt (ns : List Str) (f : Str) (j : Nat) : Prop := ∀ vs : List V, vs.length = ns.length → (ns.zip vs).lookup f = vs[j]?
noncomputable def wFld (C : Addr) (ns : List Str) (j : Nat) (g : WU) : WE := fun ρ M P => g ρ M fun u ρ1 M1 => match u with
  | .ins C' ns' ds => C' = C ∧ ns' = ns ∧ ds.length = ns.length ∧ (match ds[j]? with | some d => P d ρ1 M1 | none => False)
  | _ => False
private theorem j_fld {C : Addr} {ns : List Str} {j : Nat} (cl : Cls X.K C) (na : NoAttr X.K C f) (fa : FldAt ns f j) (h : JU X a ga) (hb : attributeBase a f X.env (eval a X.env) = eval a X.env := by rfl) : JE X (.Attribute a f apos) (wFld C ns j ga) :=
  ⟨imE (pe_fldO h.h hb) fun σ H Q hh => ex5 hh fun Z F ρ M P ag hf k => ⟨Z, F, ρ, M, _, ag, hf, fun v H' F' u ρ' M' s' ag' r h => by
    split at h
    · rename_i C' ns' ds
      obtain ⟨rfl, rfl, hl, h⟩ := h
      rw [RU] at r
      obtain ⟨q, dx, vs, rfl, r2, r3⟩ := r
      have lv : vs.length = ns'.length := by rw [← r3.length]; exact hl
      split at h
      · rename_i d hd
        obtain ⟨y, y1, y2⟩ := r3.get hd
        exact ⟨q, C', dx, _, y, rfl, ag'.m.sm _ _ r2, cl, na, (fa vs lv).trans y1, k y H' F' d ρ' M' s' ag' y2 h⟩
      · exact h.elim
    · exact h.elim⟩⟩
noncomputable def spInit (C : Addr) (ns : List Str) : Sp := fun vs H Q _ => ∃ q dx ws, vs = .ref q :: ws ∧ ws.length = ns.length ∧ H q = some (.ins C dx []) ∧ Q .non (upd H q (.ins C dx (ns.zip ws)))
noncomputable def uMake (C : Addr) (ns : List Str) (fl : WA) : WU := fun ρ M P => fl ρ M fun ds ρ1 M1 => ds.length = ns.length ∧ P (.ins C ns ds) ρ1 M1
private theorem ju_make {C fi : Addr} {fd : FuncData} {ns : List Str} (M : Mk X.K C fi) (F : FnOk X.prog X.w X.K X.mg X.base CX0 k fi fd ps (spInit C ns)) (hr : Room (k + 1) X.A) (hg : Gl X x) (hm : X.mg x = some (.ref C)) (hb : Binds X.K fd ps []) (ha : JA X (e :: es) fl)
    (hdb : (x == ("__debug__" : Str)) = false := by decide) (he : starEach (e :: es) X.env = (false, eval e X.env) :: starEach es X.env := by rfl) (hpl : (backTo pos (starEach es X.env)).any (·.1) = false := by rfl) :
    JU X (.Call (.Name x p) (e :: es) [] pos) (uMake C ns fl) := ⟨imE (pe_make M F hr hg hm hb .nil pass0 ha.h hdb he hpl) fun σ H Q hh => ex5 hh fun Z F ρ M P ag hf k => ⟨Z, F, ρ, M, _, ag, hf, fun vs H1 F1 ds ρ1 M1 s1 ag1 r1 h1 => by
  intro q dx hq hdx ne
  rw [List.append_nil]
  refine ⟨q, dx, vs, rfl, by rw [← r1.length]; exact h1.1, upd_same, rfl, ?_⟩
  rw [upd_upd]
  have fq := sub_none ag1.m.sm hq
  have sF : Same F1 (upd F1 q (.ins C dx (ns.zip vs))) := Same.new fq
  refine k _ _ (upd F1 q (.ins C dx (ns.zip vs))) _ ρ1 M1 (s1.trans sF) (ag1.grow sF (fun b o e => ?_) (fun b o e => ?_) fun b h2 h3 => ?_) ?_ h1.2
  · rw [upd_ne (ne_of_none e hq), upd_ne (ne_of_none e hdx)]; exact e
  · by_cases z : b = q
    · subst z; rw [upd_same] at e ⊢; exact e
    · rw [upd_ne z] at e ⊢
      have := ag1.m.sm _ _ e
      rw [upd_ne (ne_of_none this hdx)]; exact this
  · rw [upd_ne (fun z => by rw [z] at h3; exact h3 hq)]; exact h2
  · rw [RU]
    exact ⟨q, dx, vs, rfl, upd_same, r1.same sF⟩⟩⟩
noncomputable def MinD (ds : List D) (kf : Nat → Int) (r : D) : Prop := (ds = [] ∧ r = .non) ∨ ∃ i, ds[i]? = some r ∧ Least kf i ds.length
noncomputable def wMinK (i : Nat) (C P : Addr) (ns : List Str) (j : Nat) (lpos : Pos) (q : Str) (fe : WE) : WE := fun ρ M Q => fe ρ M fun d ρ1 M1 => match d with
  | .lst ds => (match ρ1[i]? with
    | some (.ut (.ins C' ns' us)) => C' = C ∧ ns' = ns ∧ us.length = ns.length ∧ M1 P = some (.tab lpos q) ∧ ∃ hs, ∃ kf : Nat → Int, us[j]? = some (.lst hs) ∧ (∀ t d, ds[t]? = some d → ∃ n : Int, d = .int n ∧ atI hs n = some (.int (kf t))) ∧ ∀ r, MinD ds kf r → Q r ρ1 M1
    | _ => False)
  | _ => False
end
section
variable {K : PySem.W.Frag} {Z F H H' : Hp} {M : Mm} {ρ : Rho} {σ : L2.St} {P : Addr} {lpos : Pos} {q : Str}
private theorem lam_ag (ag : Ag K Z F M H ρ σ) (hM : M P = some (.tab lpos q)) (lh : LamH P lpos q H H') : ∃ F', Same F F' ∧ Ag K Z F' M H' ρ σ := by
  rcases lh with rfl | ⟨ps, c, h1, ht, hn, h3, h4, rfl⟩
  · exact ⟨F, Same.refl _, ag⟩
  have fP := (ag.m.mo P _ hM).1
  have fc := sub_none ag.m.sm h3
  have sF : Same F (upd F c (.ext (CodeX c q))) := Same.new fc
  have g : ∀ b u, b ≠ P → H b = some u → upd (upd H P (.tbl (lamPs lpos ps c))) c (.ext (CodeX c q)) b = some u := fun b u hb e => by rw [upd_ne (ne_of_none e h3), upd_ne hb]; exact e
  have uP : upd (upd H P (.tbl (lamPs lpos ps c))) c (.ext (CodeX c q)) P = some (.tbl (lamPs lpos ps c)) := by rw [upd_ne (Ne.symm h4), upd_same]
  refine ⟨upd F c (.ext (CodeX c q)), sF, ⟨⟨fun b u e => ?_, fun b o e => ?_, fun b o e => ?_⟩, ag.len, fun i e h => ?_, ag.di⟩⟩
  · by_cases z : b = c
    · subst z; rw [upd_same] at e ⊢; exact e
    · rw [upd_ne z] at e
      exact g b u (fun z => by rw [z, fP] at e; cases e) (ag.m.sm _ _ e)
  · obtain ⟨z1, z2, z3⟩ := ag.m.zz b o e
    have bP : b ≠ P := fun z => by rw [z, hM] at z3; cases z3
    exact ⟨g b o bP z1, by rw [upd_ne (ne_of_none z1 h3)]; exact z2, z3⟩
  · obtain ⟨y1, y2⟩ := ag.m.mo b o e
    obtain ⟨u, hu⟩ := y2.there
    have bc : b ≠ c := ne_of_none hu h3
    refine ⟨by rw [upd_ne bc]; exact y1, ?_⟩
    by_cases z : b = P
    · subst z
      rw [hM] at e; cases e
      have e1 : (lamPs lpos ps c).toList = ps.toList ++ [rawInt lpos.line, rawInt lpos.col, .ref c] := by unfold lamPs; simp
      exact ⟨_, uP, by rw [e1]; exact TriplesOk_snoc _ _ _ _ ht, .inr ⟨c, by rw [e1]; exact codeAmong_snoc _ ht hn, upd_same⟩⟩
    · exact y2.same sF (by rw [upd_ne bc, upd_ne z])
  · have := ag.en i e h
    cases e with
    | un => trivial
    | sh d => obtain ⟨v, h1, h2⟩ := this; exact ⟨v, h1, Rp.same sF h2⟩
    | rf p => exact this
    | ut u => obtain ⟨v, h1, h2⟩ := this; exact ⟨v, h1, RU.same sF h2⟩
    | ow ds =>
      obtain ⟨b, vs, k1, k2, k3, k4, k5, k6⟩ := this
      exact ⟨b, vs, k1, g b _ (fun z => by rw [z, hM] at k4; cases k4) k2, by rw [upd_ne (ne_of_none k2 h3)]; exact k3, k4, k5, Rps.same sF k6⟩
end
section
variable {X : Cx} {e : Expr} {fe : WE} {i j : Nat} {x y fld : Str} {c P cy C : Addr} {params : Arguments} {scope : Scope} {p pos lpos kp1 kp2 np p1 p2 p3 p4 : Pos} {ns : List Str}
private theorem j_minKey (he : JE X e fe) (hg : Gl X "min") (hm : X.mg "min" = none) (hr : Room 3 X.A) (S : LamScope x y scope) (hcode : X.env.code = .ref c) (CH : PySem.W.CodeHd X.base c P) (bm : BMain X.mg X.base) (hcl : closureFor scope X.env = pure [(y, cy)])
    (hcy : X.env.cells.lookup y = some cy) (hky : X.env.scope.names.lookup y = some .cell) (hdef : defaultsOf params X.env = ([], [])) (hi : X.N[i]? = some y)
    (hbind : ∀ (body : Expr) (pm : Value) (c' : Addr) (ct ux : Value), bindArgs (PySem.W.kla_fn "<lambda>" (X.env.qual ++ "<lambda>") params body scope [(y, cy)] pm (.ref c') ct) ⟨[ux], []⟩ = pure [(x, ux)])
    (CC : Cls X.K C) (NA : NoAttr X.K C fld) (fa : FldAt ns fld j) (hst : starEach [e] X.env = [(false, eval e X.env)] := by rfl)
    (hxd : (x == ("__debug__" : Str)) = false := by decide) (hxc : (x == ("__classdict__" : Str)) = false := by decide) (hyd : (y == ("__debug__" : Str)) = false := by decide) (hyc : (y == ("__classdict__" : Str)) = false := by decide)
    (hfb : ∀ env, attributeBase (.Name y p1) fld env (eval (.Name y p1) env) = eval (.Name y p1) env := by intro _; rfl) :
    JE X (.Call (.Name "min" p) [e] [⟨some "key", .Lambda params (.Subscript (.Attribute (.Name y p1) fld p2) (.Name x p3) p4) scope lpos, kp1⟩, ⟨some "default", .Constant .none 0 np, kp2⟩] pos) (wMinK i C P ns j lpos (X.env.qual ++ "<lambda>") fe) :=
  ⟨imE (pe_minKey he.h hg hm hr S hcode CH bm hcl hcy hky hdef hi hbind CC NA hst hxd hxc hyd hyc hfb) fun σ H Q hh => ex5 hh fun Z F ρ M R ag hf k => ⟨Z, F, ρ, M, _, ag, hf, fun v H1 F1 d ρ1 M1 s1 ag1 r1 h1 => by
    split at h1
    · rename_i ds
      split at h1
      · rename_i C' ns' us hρ
        obtain ⟨rfl, rfl, hl, hM, hs, kf, hj, hk, fin⟩ := h1
        rw [Rp] at r1
        obtain ⟨l, vs, rfl, g1, g2⟩ := r1
        obtain ⟨vy, y1, y2⟩ := ag1.en i _ hρ
        rw [RU] at y2
        obtain ⟨a, dx, ws, rfl, y3, y4⟩ := y2
        have lw : ws.length = ns'.length := by rw [← y4.length]; exact hl
        obtain ⟨vb, b1, b2⟩ := y4.get hj
        rw [Rp] at b2
        obtain ⟨b, hvs, rfl, b3, b4⟩ := b2
        obtain ⟨fP, ps, tP, tO⟩ := ag1.m.mo P _ hM
        have tO' : TabOk H1 lpos (X.env.qual ++ "<lambda>") ps := ⟨tO.1, tO.2.imp id fun ⟨c, z1, z2⟩ => ⟨c, z1, ag1.m.sm _ _ z2⟩⟩
        refine ⟨l, vs, a, dx, _, b, hvs, ps, kf, rfl, .inl (rd_same ag1.m.sm g1), sl_of y1, ag1.m.sm _ _ y3, (fa ws lw).trans b1, .inl (rd_same ag1.m.sm b3), fun t v ht => ?_, tP, tO', fun r H' mi lh => ?_⟩
        · obtain ⟨d, hd, rd⟩ := g2.mem ht
          obtain ⟨n, rfl, hn⟩ := hk t d hd
          rw [Rp] at rd
          obtain ⟨w1, w2, w3⟩ := at_rps b4 hn
          rw [Rp] at w3
          subst w3
          exact ⟨n, rd, w2⟩
        · obtain ⟨F', s', ag'⟩ := lam_ag ag1 hM lh
          rcases mi with ⟨rfl, rfl⟩ | ⟨t, ht, le⟩
          · have : ds = [] := by
              cases ds with
              | nil => rfl
              | cons d r => have := g2.length; simp at this
            exact k _ H' F' .non ρ1 M1 (s1.trans s') ag' (by rw [Rp]) (fin _ (.inl ⟨this, rfl⟩))
          · obtain ⟨d, hd, rd⟩ := g2.mem ht
            exact k _ H' F' d ρ1 M1 (s1.trans s') ag' (rd.same s') (fin d (.inr ⟨t, hd, by rw [g2.length]; exact le⟩))
      · exact h1.elim
    · exact h1.elim⟩⟩
end
noncomputable def OnlyT (P0 : Addr) (H : Hp) : Prop := ∀ b, (b = P0 ∧ H b = some (.tbl #[])) ∨ H b = none ∨ ∃ o xs, H b = some (.frz o (.lst xs))
private theorem law_callT {P : Program} {w : World} {K : PySem.W.Frag} {mg mb : Str → Option Value} {CX : CXT} {k : Nat} {fa a c0 P0 : Addr} {fd : FuncData} {x : Str} {sp : Sp} {s₁ : Shared} {vs : List Value} {ns : List Int}
    (KX : K.In s₁.heap) (hns : s₁.heap.Ns mainGlobals mg) (hb : s₁.heap.Ns builtinsNs mb) (hbb : ∀ x : Str, x ≠ "__name__" → mb x = bootBuiltins x) (hlim : s₁.heap.NoLimit) (hg : s₁.gens = #[])
    (hC : PySem.W.CodeHd s₁.heap c0 P0) (hP : s₁.heap.get? P0 = some (PySem.W.tabObj #[])) (hKP : K.lookup P0 = none) (hB : BMain mg s₁.heap)
    (ha : s₁.heap.get? a = some { cls := .type "list", data := .seq vs.toArray }) (hi : IntsAre vs ns) (hl : ns.length ≤ sizeLine) (hr : Room k callerA)
    (F : ∀ base : Heap, K.In base → base.Ns mainGlobals mg → PySem.W.CodeHd base c0 P0 → BMain mg base → FnOk P w K mg base CX k fa fd [x] sp) (hbind : ∀ (s : Shared) (u : Value), BindsTo s fd ⟨[u], []⟩ [(x, u)])
    (hsp : ∀ H : Hp, H P0 = some (.tbl #[]) → SqL K H a (ns.map V.int) → sp [.ref a] H (fun v _ => v = .bl true) fun _ _ _ => False)
    (hCX : ∀ H e s', CX [] H s₁ (fun _ _ _ => False) e s' → False) :
    codeAny (model P w) callerA (.call (.ref fa) ⟨[.ref a], []⟩) (fun r s' => r = .ok (.ret (.bool true)) ∧ OldK s₁.heap s'.heap ∧ s'.os = s₁.os ∧ AllBare s'.gens) s₁ := by
  have rv := vals_ints hi
  have lenV := hi.length
  have naP : a ≠ P0 := fun z => by rw [z, hP] at ha; cases ha
  have core : ∀ H : Hp, OnlyT P0 H → H P0 = some (.tbl #[]) → SqL K H a (ns.map V.int) → HOk P w H s₁.heap → (∀ b, H b ≠ none → b = a ∨ b = P0) → (H a ≠ none → K.lookup a = none) →
      codeAny (model P w) callerA (.call (.ref fa) ⟨[.ref a], []⟩) (fun r s' => r = .ok (.ret (.bool true)) ∧ OldK s₁.heap s'.heap ∧ s'.os = s₁.os ∧ AllBare s'.gens) s₁ := by
    intro H hO hHP hS hok hA hK
    have out : ∀ {b : Addr} {o : Obj}, s₁.heap.get? b = some o → (∀ xs n, o.data ≠ .seq xs n) → (o.cls ≠ .none) → H b = none := fun {b o} e d1 d2 => by
      cases q : H b with
      | none => rfl
      | some u =>
        rcases hA b (by rw [q]; simp) with z | z
        · rw [z, ha] at e; cases e; exact absurd rfl (d1 _ _)
        · rw [z, hP] at e; cases e; exact absurd rfl d2
    have dic : ∀ {b : Addr} {o : Obj} {es : Array DictEntry} {ep : Nat}, s₁.heap.get? b = some o → o.data = .dict es ep → H b = none := fun {b o es ep} e d => by
      cases q : H b with
      | none => rfl
      | some u =>
        rcases hA b (by rw [q]; simp) with z | z
        · rw [z, ha] at e; cases e; cases d
        · rw [z, hP] at e; cases e; cases d
    have nsK : ∀ {b : Addr} {m : Str → Option Value}, s₁.heap.Ns b m → (hidT s₁.heap H).Ns b m := fun {b m} ⟨o, es, ep, e, d, r⟩ => ⟨o, es, ep, hidT_get e (dic e d), d, r⟩
    have hKb : K.In (hidT s₁.heap H) := fun b o e => hidT_get (KX b o e) (by
      cases q : H b with
      | none => rfl
      | some u =>
        rcases hA b (by rw [q]; simp) with z | z
        · subst z; rw [hK (by rw [q]; simp)] at e; cases e
        · subst z; rw [hKP] at e; cases e)
    have hM : Mod K mg (hidT s₁.heap H) := ⟨hKb, nsK hns, ⟨mb, nsK hb, hbb⟩, let ⟨mc, h1, h2⟩ := hlim; ⟨mc, nsK h1, h2⟩⟩
    have hCb : PySem.W.CodeHd (hidT s₁.heap H) c0 P0 := by
      obtain ⟨o, vs, file, tf, flags, tg, inF, text, tt, e, e2, e3, r⟩ := hC
      exact ⟨o, vs, file, tf, flags, tg, inF, text, tt, hidT_get e (out e (fun xs n z => by rw [e3] at z; cases z) (fun z => by rw [e2] at z; cases z)), e2, e3, r⟩
    have hBb : BMain mg (hidT s₁.heap H) := by
      obtain ⟨b, o, b1, b2, b3, b4, b5, b6⟩ := hB.ex
      exact ⟨b, o, b1, b2, hidT_get b3 (out b3 (fun xs n z => by rw [b6] at z; cases z) (fun z => by rw [b4] at z; cases z)), b4, b5, b6⟩
    have e0 : Env0 P w K mg (hidT s₁.heap H) callerA [] s₁ H := ⟨rfl, hM, fun b o e => of_hidT e, Nat.le_of_eq (hidT_size _ _), trivial, fun b hb => absurd (show b ∈ ([] : List Addr) from hb) (by simp), hok, .of_eq hg⟩
    refine codeAny_mono ((F _ hKb (nsK hns) hCb hBb).run callerA [] s₁ H ⟨[.ref a], []⟩ [.ref a] [.ref a] _ _ hr e0 (hbind s₁ (.ref a)) (.cons rfl .nil) (hsp H hHP hS)) fun r s' h => ?_
    cases r with
    | error e => exact (hCX H e s' h).elim
    | ok fl =>
      cases fl with
      | next => exact False.elim h
      | brk => exact False.elim h
      | cont => exact False.elim h
      | ret u =>
        obtain ⟨v, H', os, bare, un, hok', r', q⟩ := h
        have q' : v = .bl true := q
        subst q'
        obtain rfl : u = Value.bool true := r'
        obtain ⟨more, hm⟩ := un.tbls P0 _ hHP
        have tm : s'.heap.get? P0 = some (PySem.W.tabObj (#[] ++ more)) := hok' P0 _ hm
        have kp : ∀ b o, b ≠ P0 → s₁.heap.get? b = some o → s'.heap.get? b = some o := fun b o hb e => by
          cases q : H b with
          | none => exact un.keep b o e q (by intro z; exact absurd (show b ∈ ([] : List Addr) from z) (by simp)) (by simp)
          | some u =>
            rcases hO b with ⟨z, _⟩ | z | ⟨ob, xs, z⟩
            · exact absurd z hb
            · rw [q] at z; cases z
            · have z2 := un.frzs b ob _ z
              obtain ⟨e1, _⟩ := hok b _ z
              obtain ⟨e2, _⟩ := hok' b _ z2
              rw [e] at e1; cases e1
              exact e2
        refine ⟨rfl, ⟨fun b o e => ?_, fun b o e => ?_⟩, os, bare⟩
        · by_cases z : b = P0
          · subst z
            rw [hP] at e; cases e
            exact .inr (.inl ⟨(hC.tab hP).isCodeTable, rfl, #[], more, rfl, tm⟩)
          · exact .inl (kp b o z e)
        · by_cases z : b = P0
          · subst z; exact ⟨_, tm⟩
          · exact ⟨o, kp b o z e⟩
  cases hk : K.lookup a with
  | some o =>
    have e := KX a o hk
    rw [ha] at e
    cases e
    have g : ∀ b, b ≠ P0 → (upd (fun _ => none) P0 (.tbl #[]) : Hp) b = none := fun b z => upd_ne z
    refine core (upd (fun _ => none) P0 (.tbl #[])) (fun b => ?_) upd_same (.inr ⟨_, vs.toArray, _, hk, rfl, rfl, rfl, by rw [List.size_toArray, lenV]; exact hl, by simpa using rv⟩) (fun b u z => ?_) (fun b z => ?_) fun z => absurd (g a naP) z
    · by_cases z : b = P0
      · exact .inl ⟨z, by rw [z, upd_same]⟩
      · exact .inr (.inl (g b z))
    · by_cases y : b = P0
      · subst y; rw [upd_same] at z; cases z; exact hP
      · rw [g b y] at z; cases z
    · by_cases y : b = P0
      · exact .inr y
      · exact absurd (g b y) z
  | none =>
    have gP : (upd (upd (fun _ => none) P0 (.tbl #[])) a (.frz { cls := .type "list", data := .seq vs.toArray } (.lst (ns.map V.int))) : Hp) P0 = some (.tbl #[]) := by rw [upd_ne (Ne.symm naP), upd_same]
    have g : ∀ b, b ≠ P0 → b ≠ a → (upd (upd (fun _ => none) P0 (.tbl #[])) a (.frz { cls := .type "list", data := .seq vs.toArray } (.lst (ns.map V.int))) : Hp) b = none := fun b z y => by rw [upd_ne y, upd_ne z]
    refine core (upd (upd (fun _ => none) P0 (.tbl #[])) a (.frz { cls := .type "list", data := .seq vs.toArray } (.lst (ns.map V.int)))) (fun b => ?_) gP (.inl (.inr ⟨_, upd_same⟩)) (fun b u z => ?_) (fun b z => ?_) fun _ => hk
    · by_cases z : b = P0
      · exact .inl ⟨z, by rw [z]; exact gP⟩
      · by_cases y : b = a
        · exact .inr (.inr ⟨_, _, by rw [y]; exact upd_same⟩)
        · exact .inr (.inl (g b z y))
    · by_cases y : b = P0
      · subst y; rw [gP] at z; cases z; exact hP
      · by_cases y2 : b = a
        · subst y2; rw [upd_same] at z; cases z
          exact ⟨ha, by rw [List.length_map]; exact hl, vs, _, rv, ha⟩
        · rw [g b y y2] at z; cases z
    · by_cases y : b = P0
      · exact .inr y
      · by_cases y2 : b = a
        · exact .inl y2
        · exact absurd (g b y y2) z
private theorem walk_ofT {l : PySem.W.OpenLaw} {n k : Nat} {q : Program} {loose : List Str} {XP : (Str → Option Value) → Heap → Prop} {YP : World → Heap → Prop} {d d0 : DefRec} {K : Params → PySem.W.Frag} {CX : World → CXT} {sp : World → Addr → Sp} {x x0 : Str}
    (hn : l.most = some n) (hn2 : n ≤ sizeLine) (hdf : d.params.defaults = []) (hr : Room k callerA) (hrec : (recsOf q).find? (fun e => e.name == x0) = some d0)
    (hY : ∀ (w : World) (h : Heap), YP w h → (K w.params).In h)
    (F : ∀ (w : World) (mg : Str → Option Value) (fa : Addr) (h : Heap), (K w.params).In h → h.Ns mainGlobals mg → mg d.name = some (.ref fa) →
      ∃ c0 P0, PySem.W.tabIn (K w.params) x0 = some (c0, P0) ∧ (K w.params).lookup P0 = none ∧ ∃ fd : FuncData, (∀ (s : Shared) (u : Value), BindsTo s fd ⟨[u], []⟩ [(x, u)]) ∧
        ∀ base : Heap, (K w.params).In base → base.Ns mainGlobals mg → PySem.W.CodeHd base c0 P0 → BMain mg base → FnOk l.prog w (K w.params) mg base (CX w) k fa fd [x] (sp w P0))
    (hsp : ∀ (w : World) (P0 : Addr) (H : Hp) (a : Addr) (ns : List Int), ns.length ≤ n → H P0 = some (.tbl #[]) → SqL (K w.params) H a (ns.map V.int) → sp w P0 [.ref a] H (fun v _ => v = .bl true) fun _ _ _ => False)
    (hCX : ∀ (w : World) (H : Hp) (s : Shared) (e : Value) (s' : Shared), CX w [] H s (fun _ _ _ => False) e s' → False) :
    PySem.W.WalkO q loose XP YP l.row.toRowW d [] (fun f vs => PySem.call f vs) := by
  refine Att.attach_call hn hdf fun w s₀ s₁ mg mb fa o pm cd doc a vs ns G Y ho hd hcd hmg hobj hints hlen hg => ?_
  have KX := hY w _ Y
  obtain ⟨c0, P0, ht, hKP, fd, hb, hF⟩ := F w mg fa _ KX G.T.g hmg
  obtain ⟨hC, hP⟩ := PySem.W.tab_of G.T KX hrec ht
  exact law_callT KX G.T.g G.T.b G.T.builtins G.T.nolimit hg hC hP hKP ⟨G.T.bmain⟩ hobj hints (Nat.le_trans hlen hn2) hr hF hb (fun H hO hS => hsp w P0 H a ns hlen hO hS) fun H e s' => hCX w H s₁ e s'
private theorem Scr.startT {K : PySem.W.Frag} {H : Hp} {a P0 : Addr} {ns : List Int} {N : List Str} {lp : Pos} {q : Str} (l : ns.length ≤ 63) (h : SqL K H a (ns.map V.int)) (hT : H P0 = some (.tbl #[])) :
    ∃ M, Ag K (fun _ => none) (fun _ => none) M H (startD N a []) (L2.start N [.ref a]) ∧ ScrN K M a ns ∧ M P0 = some (.tab lp q) := by
  have tb : MOk K (fun _ => none) H P0 (.tab lp q) := ⟨#[], hT, trivial, .inl rfl⟩
  rcases h with h | h
  · have ne : a ≠ P0 := fun z => by
      subst z
      rcases h with h | ⟨ob, h⟩
      · rw [hT] at h; cases h
      · rw [hT] at h; cases h
    refine ⟨mset (mset (fun _ => none) a (.op (isScr ns))) P0 (.tab lp q), ag_startD N ⟨fun _ _ e => (nomatch e), fun _ _ e => (nomatch e), fun b o e => ?_⟩ .nil, ⟨l, .inl (by rw [mset_ne ne, mset_same])⟩, mset_same⟩
    by_cases e0 : b = P0
    · subst e0
      rw [mset_same] at e; cases e
      exact ⟨rfl, tb⟩
    · rw [mset_ne e0] at e
      by_cases e1 : b = a
      · subst e1
        rw [mset_same] at e
        cases e
        rcases h with h | ⟨ob, h⟩
        · exact ⟨rfl, _, h, .inl rfl⟩
        · exact ⟨rfl, _, h, .inr ⟨ob, rfl⟩⟩
      · rw [mset_ne e1] at e; cases e
  · refine ⟨mset (fun _ => none) P0 (.tab lp q), ag_startD N ⟨fun _ _ e => (nomatch e), fun _ _ e => (nomatch e), fun b o e => ?_⟩ .nil, ⟨l, .inr h⟩, mset_same⟩
    by_cases e0 : b = P0
    · subst e0
      rw [mset_same] at e; cases e
      exact ⟨rfl, tb⟩
    · rw [mset_ne e0] at e; cases e
end L4
set_option Elab.async false
set_option linter.all false
set_option maxRecDepth 100000
namespace L4
open PySem PySem.Spec PySem.Calls PyProof.Rows L2 L3
section
variable {X : Cx} {a b : Expr} {pos : Pos} {fa fb : WE}
end
private theorem len1 {α : Type} : ∀ {l : List α}, l.length = 1 → ∃ a, l = [a]
  | [a], _ => ⟨a, rfl⟩
private theorem len2 {α : Type} : ∀ {l : List α}, l.length = 2 → ∃ a b, l = [a, b] := fun {l} h => match l with
  | a :: l => let ⟨b, e⟩ := len1 (l := l) (Nat.succ.inj h); ⟨a, b, congrArg _ e⟩
private theorem len3 {α : Type} : ∀ {l : List α}, l.length = 3 → ∃ a b c, l = [a, b, c] := fun {l} h => match l with
  | a :: l => let ⟨b, c, e⟩ := len2 (l := l) (Nat.succ.inj h); ⟨a, b, c, congrArg _ e⟩
private theorem len4 {α : Type} : ∀ {l : List α}, l.length = 4 → ∃ a b c d, l = [a, b, c, d] := fun {l} h => match l with
  | a :: l => let ⟨b, c, d, e⟩ := len3 (l := l) (Nat.succ.inj h); ⟨a, b, c, d, congrArg _ e⟩
private theorem len5 {α : Type} : ∀ {l : List α}, l.length = 5 → ∃ a b c d x, l = [a, b, c, d, x] := fun {l} h => match l with
  | a :: l => let ⟨b, c, d, x, e⟩ := len4 (l := l) (Nat.succ.inj h); ⟨a, b, c, d, x, congrArg _ e⟩
private theorem len6 {α : Type} : ∀ {l : List α}, l.length = 6 → ∃ a b c d x y, l = [a, b, c, d, x, y] := fun {l} h => match l with
  | a :: l => let ⟨b, c, d, x, y, e⟩ := len5 (l := l) (Nat.succ.inj h); ⟨a, b, c, d, x, y, congrArg _ e⟩
private theorem take_small {α β : Type} {f : α → β} {l : List α} {i : Nat} (h : l.length ≤ 1000) : ((l.take i).map f).length < sizeLine := by
  rw [List.length_map, List.length_take]
  exact Nat.lt_of_le_of_lt (Nat.le_trans (Nat.min_le_right _ _) h) (by decide)
private theorem wabsG {g : (Rho → Mm → Prop) → Prop} {f : WEnds → Rho → Mm → Prop} {E : WEnds} (h : ∀ E', E' = E → g fun ρ M => f E' ρ M) : g fun ρ M => f E ρ M := h E rfl
end L4
set_option Elab.async false
set_option linter.all false
set_option maxRecDepth 100000
set_option maxHeartbeats 4000000
namespace M
open PySem PySem.Spec PyProof.Rows L2 L3 L4
noncomputable def top (i : Nat) : Stmt := PySem.Challenge.pw_shimright_k14_weights_judged.main.body.getD i (.Pass ⟨0, 0, 0, 0⟩)
section
variable {P : Program} {w : World} {K : PySem.W.Frag} {mg : Str → Option Value} {base : Heap}
/-! ### fractions, over trees -/
noncomputable abbrev s_common_divisor : Stmt := top 6
private theorem sc_common_divisor : FnScope ["one", "other", "larger", "smaller", "rest"] ["one", "other"] (defScope s_common_divisor) := ⟨rfl, rfl, rfl, by decide +kernel, rfl, by decide +kernel, by decide +kernel⟩
noncomputable def gGcd : List D → (D → Prop) → Prop := fun ds P => ∃ a b : Int, ds = [.int a, .int b] ∧ P (.int (Int.gcd a b : Int))
private theorem abs_gcd (a b : Int) : Int.gcd (if a < 0 then -a else a) (if b < 0 then -b else b) = Int.gcd a b := by
  split <;> split <;> simp [Int.gcd_neg, Int.neg_gcd]
private theorem h_common_divisor (B : Bl mg) (F : Def K mg "common_divisor" s_common_divisor ["one", "other"]) : Has P w K mg base CX0 1 "common_divisor" ["one", "other"] (spW K (pur gGcd)) := by
  refine F.hasP sc_common_divisor (fun ds P h => by obtain ⟨a, b, rfl, _⟩ := h; rfl) fun f cdv A outer s H E hr => ?_
  have nd := sc_common_divisor.nd
  refine ⟨_, (jss_cons (js_set (i := 2) nd rfl (Or.inl rfl) (j_abs rfl B.abs (ja_cons (jv 0) ja_nil)))
    (jss_cons (js_set (i := 3) nd rfl (Or.inl rfl) (j_abs rfl B.abs (ja_cons (jv 1) ja_nil)))
    (jss_cons (js_while PassesOwn.never (jt_ne hr (jv 3) j_int) (jss_cons (js_set (i := 4) nd rfl (Or.inl rfl) (j_mod (jv 2) (jv 3)))
    (jss_cons (js_set (i := 2) nd rfl (Or.inl rfl) (jv 3))
    (jss_one (js_set (i := 3) nd rfl (Or.inl rfl) (jv 4))))))
    (jss_one (js_ret (jv 2)))))), ?_⟩
  rintro ds M Q ⟨a, b, rfl, q⟩
  refine ⟨fun m ρ M' => M' = M ∧ ∃ (l k : Int) (r : Ent), ρ = [.sh (.int a), .sh (.int b), .sh (.int l), .sh (.int k), r] ∧ m = k.natAbs ∧ 0 ≤ l ∧ 0 ≤ k ∧ Int.gcd l k = Int.gcd a b, ⟨_, rfl, _, _, _, rfl, rfl, ?_, ?_, abs_gcd a b⟩, ?_⟩
  · split <;> omega
  · split <;> omega
  rintro m ρ M' ⟨rfl, l, k, r, rfl, rfl, hl, hk, e⟩
  refine ⟨by show 0 ≤ 60; decide, ?_⟩
  show if (!(k == 0)) = true then _ else _
  refine iteB (fun c => ?_) (fun c => ?_)
  · have c' : k ≠ 0 := by simpa using c
    exact ⟨c', _, fmod_small (a := l) c', rfl, _, _, _, rfl, rfl, hk, Int.fmod_nonneg hl hk, by rw [gcd_step, e]⟩
  · have c' : k = 0 := by simpa using c
    subst c'
    have e2 : l = (Int.gcd a b : Int) := by
      rw [← e, Int.gcd_zero_right]
      omega
    exact ⟨_, Sub.refl _, by rw [e2]; exact q⟩
noncomputable abbrev s_fraction : Stmt := top 7
private theorem sc_fraction : FnScope ["top", "bottom", "shared"] ["top", "bottom"] (defScope s_fraction) := ⟨rfl, rfl, rfl, by decide +kernel, rfl, by decide +kernel, by decide +kernel⟩
noncomputable def gFr : List D → (D → Prop) → Prop := fun ds P => ∃ a b : Int, ds = [.int a, .int b] ∧ b ≠ 0 ∧ Sm 9000 b ∧ P (frD (Rat.divInt a b))
private theorem h_fraction (B : Bl mg) (F : Def K mg "fraction" s_fraction ["top", "bottom"]) (F_common_divisor : Has P w K mg base CX0 1 "common_divisor" ["one", "other"] (spW K (pur gGcd))) : Has P w K mg base CX0 2 "fraction" ["top", "bottom"] (spW K (pur gFr)) := by
  refine F.hasP sc_fraction (fun ds P h => by obtain ⟨a, b, rfl, _⟩ := h; rfl) fun f cdv A outer s H E hr => ?_
  have nd := sc_fraction.nd
  refine ⟨_, (jss_cons (js_if (jt_eq hr (jv 1) j_int) (jss_one js_never) jss_nil)
    (jss_cons (js_set (i := 2) nd rfl (Or.inl rfl) (j_h F_common_divisor (hr.mono (by decide)) rfl (ja_cons (jv 0) (ja_cons (jv 1) ja_nil))))
    (jss_cons (js_if (jt_lt (jv 1) j_int) (jss_one (js_set (i := 2) nd rfl (Or.inl rfl) (j_neg (jv 2)))) jss_nil)
    (jss_one (js_ret (j_tup (ja_cons (j_fdiv (jv 0) (jv 2)) (ja_cons (j_fdiv (jv 1) (jv 2)) ja_nil)))))))), ?_⟩
  rintro ds M Q ⟨a, b, rfl, hb, hs, q⟩
  refine ⟨by show 0 ≤ 60; decide, ?_⟩
  show if (b == 0) = true then _ else _
  refine iteN (by simpa using hb) ?_
  refine ⟨a, b, rfl, ?_⟩
  have gs : Sm 9000 (Int.gcd a b : Int) := gcd_sm hb hs
  have gp := gcd_pos (a := a) hb
  have fin : ∀ g : Int, g = (if b < 0 then -(Int.gcd a b : Int) else (Int.gcd a b : Int)) → CDivS a g ∧ CDivS b g ∧ frD (Rat.divInt a b) = .tup [.int (a.fdiv g), .int (b.fdiv g)] := by
    intro g e
    have h1 : g ≠ 0 := by rw [e]; split <;> omega
    have h2 : Sm 9000 g := by
      rw [e]; split
      · exact gs.neg
      · exact gs
    refine ⟨⟨h1, h2⟩, ⟨h1, h2⟩, ?_⟩
    unfold frD
    rw [e, ← fr_num hb, ← fr_den hb]
  show if decide (b < 0) = true then _ else _
  refine iteB (fun c => ?_) (fun c => ?_)
  · have c' : b < 0 := by simpa using c
    obtain ⟨g0, g1, g2⟩ := fin (-(Int.gcd a b : Int)) (by rw [if_pos c'])
    exact ⟨g0, g1, by show 2 ≤ sizeLine; decide, _, Sub.refl _, by rw [← g2]; exact q⟩
  · have c' : ¬ b < 0 := by simpa using c
    obtain ⟨g0, g1, g2⟩ := fin (Int.gcd a b : Int) (by rw [if_neg c'])
    exact ⟨g0, g1, by show 2 ≤ sizeLine; decide, _, Sub.refl _, by rw [← g2]; exact q⟩

/-! ### sums, products, order, over trees -/
noncomputable def Mx (q r : Rat) : Prop := ∃ n m, n + m ≤ 8990 ∧ SmR n q ∧ SmR m r
private theorem Mx.of {n m : Nat} {q r : Rat} (a : SmR n q) (b : SmR m r) (h : n + m ≤ 8990 := by decide) : Mx q r := ⟨n, m, h, a, b⟩
private theorem Mx.c1 {q r : Rat} (h : Mx q r) : CM q.num r.den := let ⟨n, m, l, a, b⟩ := h; .inr ⟨n, m, by omega, a.1, b.2⟩
private theorem Mx.c2 {q r : Rat} (h : Mx q r) : CM r.num q.den := let ⟨n, m, l, a, b⟩ := h; .inr ⟨m, n, by omega, b.1, a.2⟩
private theorem Mx.c3 {q r : Rat} (h : Mx q r) : CM q.den r.den := let ⟨n, m, l, a, b⟩ := h; .inr ⟨n, m, by omega, a.2, b.2⟩
private theorem Mx.c4 {q r : Rat} (h : Mx q r) : CM q.num r.num := let ⟨n, m, l, a, b⟩ := h; .inr ⟨n, m, by omega, a.1, b.1⟩
private theorem Mx.s {q r : Rat} (h : Mx q r) : Sm 9000 ((q.den : Int) * (r.den : Int)) := let ⟨n, m, l, a, b⟩ := h; (a.2.mul b.2).mono (by omega)
private theorem den_mul (q r : Rat) : (q.den : Int) * (r.den : Int) ≠ 0 := Int.mul_ne_zero (den_ne q) (den_ne r)
noncomputable def gOp (f : Rat → Rat → Rat) : List D → (D → Prop) → Prop := fun ds P => ∃ q r : Rat, ds = [frD q, frD r] ∧ Mx q r ∧ P (frD (f q r))
noncomputable abbrev hFrac (P : Program) (w : World) (K : PySem.W.Frag) (mg : Str → Option Value) (base : Heap) : Prop := Has P w K mg base CX0 2 "fraction" ["top", "bottom"] (spW K (pur gFr))
noncomputable abbrev s_plus : Stmt := top 8
private theorem sc_plus : FnScope ["q", "r"] ["q", "r"] (defScope s_plus) := ⟨rfl, rfl, rfl, by decide +kernel, rfl, by decide +kernel, by decide +kernel⟩
private theorem h_plus (B : Bl mg) (F : Def K mg "plus" s_plus ["q", "r"]) (F_fraction : hFrac P w K mg base) : Has P w K mg base CX0 3 "plus" ["q", "r"] (spW K (pur (gOp fun q r => q + r))) := by
  refine F.hasP sc_plus (fun ds P h => by obtain ⟨a, b, rfl, _⟩ := h; rfl) fun f cdv A outer s H E hr => ?_
  have nd := sc_plus.nd
  refine ⟨_, (jss_one (js_ret (j_h F_fraction (hr.mono (by decide)) rfl (ja_cons (j_add (j_mul (j_atV 0 j_int) (j_atV 1 j_int)) (j_mul (j_atV 1 j_int) (j_atV 0 j_int))) (ja_cons (j_mul (j_atV 0 j_int) (j_atV 1 j_int)) ja_nil))))), ?_⟩
  rintro ds M Q ⟨q, r, rfl, m, k⟩
  exact ⟨m.c1, m.c2, m.c3, _, _, rfl, den_mul q r, m.s, _, Sub.refl _, by rw [r_add]; exact k⟩
noncomputable abbrev s_times : Stmt := top 10
private theorem sc_times : FnScope ["q", "r"] ["q", "r"] (defScope s_times) := ⟨rfl, rfl, rfl, by decide +kernel, rfl, by decide +kernel, by decide +kernel⟩
private theorem h_times (B : Bl mg) (F : Def K mg "times" s_times ["q", "r"]) (F_fraction : hFrac P w K mg base) : Has P w K mg base CX0 3 "times" ["q", "r"] (spW K (pur (gOp fun q r => q * r))) := by
  refine F.hasP sc_times (fun ds P h => by obtain ⟨a, b, rfl, _⟩ := h; rfl) fun f cdv A outer s H E hr => ?_
  have nd := sc_times.nd
  refine ⟨_, (jss_one (js_ret (j_h F_fraction (hr.mono (by decide)) rfl (ja_cons (j_mul (j_atV 0 j_int) (j_atV 1 j_int)) (ja_cons (j_mul (j_atV 0 j_int) (j_atV 1 j_int)) ja_nil))))), ?_⟩
  rintro ds M Q ⟨q, r, rfl, m, k⟩
  exact ⟨m.c4, m.c3, _, _, rfl, den_mul q r, m.s, _, Sub.refl _, by rw [r_mul]; exact k⟩

/-! ### the module's fraction 0 -/
noncomputable abbrev Zero4 (K : PySem.W.Frag) (mg : Str → Option Value) : Prop := Cst K mg "ZERO" (frD 0)
private theorem Zero4.of {a : Addr} {od : Option Addr} {sl : Array (Option Value)} {n : Nat} {t0 t1 : Tok} (h : mg "ZERO" = some (.ref a)) (l : K.lookup a = some ⟨.type "tuple", od, .seq #[.int 0 t0, .int 1 t1] n, sl⟩) : Zero4 K mg :=
  ⟨.ref a, .ref a, h, rfl, fun F => by
    rw [frD, Rp]
    refine ⟨a, [.int 0, .int 1], rfl, .inr ⟨_, _, _, l, rfl, rfl, by show 2 ≤ sizeLine; decide, .cons ⟨_, rfl⟩ (.cons ⟨_, rfl⟩ .nil)⟩, ?_⟩
    rw [Rps]
    exact ⟨_, _, rfl, by rw [Rp]; rfl, by rw [Rps]; exact ⟨_, _, rfl, by rw [Rp]; rfl, by rw [Rps]⟩⟩⟩

/-! ### sums of products -/
noncomputable def dot : List Rat → List Rat → Rat
  | q :: qs, r :: rs => q * r + dot qs rs
  | _, _ => 0
private theorem dot_take : ∀ {qs rs : List Rat} {i : Nat} {q r : Rat}, qs[i]? = some q → rs[i]? = some r → dot (qs.take (i + 1)) (rs.take (i + 1)) = dot (qs.take i) (rs.take i) + q * r
  | [], _, _, _, _, h, _ => by simp at h
  | _ :: _, [], _, _, _, _, h => by simp at h
  | a :: qs, b :: rs, 0, q, r, h1, h2 => by
    simp only [List.getElem?_cons_zero, Option.some.injEq] at h1 h2
    subst h1 h2
    simp only [List.take_succ_cons, List.take_zero, dot]
    grind
  | a :: qs, b :: rs, i + 1, q, r, h1, h2 => by
    simp only [List.getElem?_cons_succ] at h1 h2
    have := dot_take (i := i) h1 h2
    simp only [List.take_succ_cons, dot] at this ⊢
    rw [this]
    grind
private theorem sm0 : SmR 1 (0 : Rat) := ⟨by unfold Sm; decide, by unfold Sm; decide⟩
private theorem dot_sm {n m : Nat} {qs rs : List Rat} (h1 : ∀ q ∈ qs, SmR n q) (h2 : ∀ q ∈ rs, SmR m q) (hl : qs.length = rs.length) : ∀ i, i ≤ qs.length → SmR ((n + m + 1) * i + 2) (dot (qs.take i) (rs.take i))
  | 0, _ => by simp only [List.take_zero, dot]; exact sm0.mono (by omega)
  | i + 1, hi => by
    have e1 : qs[i]? = some qs[i] := List.getElem?_eq_getElem (by omega)
    have e2 : rs[i]? = some (rs[i]'(by omega)) := List.getElem?_eq_getElem (by omega)
    rw [dot_take e1 e2]
    have a := dot_sm h1 h2 hl i (by omega)
    have b := smr_mul (h1 _ (List.mem_of_getElem? e1)) (h2 _ (List.mem_of_getElem? e2))
    exact (smr_add a b).mono (by rw [Nat.mul_add]; omega)
private theorem dot_sm' {n m : Nat} {qs rs : List Rat} (h1 : ∀ q ∈ qs, SmR n q) (h2 : ∀ q ∈ rs, SmR m q) (hl : qs.length = rs.length) : SmR ((n + m + 1) * qs.length + 2) (dot qs rs) := by
  have := dot_sm h1 h2 hl qs.length (Nat.le_refl _)
  rw [List.take_length, hl, List.take_length] at this
  rw [hl]
  exact this
structure Two (n m k : Nat) (qs rs : List Rat) : Prop where
  len : qs.length = rs.length
  few : qs.length ≤ k
  bnd : (n + m + 1) * k ≤ 8900
  s1 : ∀ q ∈ qs, SmR n q
  s2 : ∀ q ∈ rs, SmR m q
private theorem Two.sm {n m k : Nat} {qs rs : List Rat} (t : Two n m k qs rs) : SmR ((n + m + 1) * k + 2) (dot qs rs) := (dot_sm' t.s1 t.s2 t.len).mono (by have := Nat.mul_le_mul_left (n + m + 1) t.few; omega)
noncomputable abbrev frL (qs : List Rat) : D := .lst (qs.map frD)
private theorem zip_fr : ∀ {qs rs : List Rat} {i : Nat} {d : D}, (zipD (qs.map frD) (rs.map frD))[i]? = some d → ∃ q r, qs[i]? = some q ∧ rs[i]? = some r ∧ d = .tup [frD q, frD r] := fun {qs rs i d} h => by
  obtain ⟨x, y, h1, h2, rfl⟩ := zipD_get h
  rw [List.getElem?_map, Option.map_eq_some_iff] at h1 h2
  obtain ⟨q, e1, rfl⟩ := h1
  obtain ⟨r, e2, rfl⟩ := h2
  exact ⟨q, r, e1, e2, rfl⟩
noncomputable def gWS : List D → (D → Prop) → Prop := fun ds P => ∃ (qs rs : List Rat) (n m k : Nat), ds = [frL qs, frL rs] ∧ Two n m k qs rs ∧ P (frD (dot qs rs))
noncomputable abbrev s_weighed_sum : Stmt := top 13
private theorem sc_weighed_sum : FnScope ["factors", "told", "total", "factor", "q"] ["factors", "told"] (defScope s_weighed_sum) := ⟨rfl, rfl, rfl, by decide +kernel, rfl, by decide +kernel, by decide +kernel⟩
private theorem h_weighed_sum (B : Bl mg) (F : Def K mg "weighed_sum" s_weighed_sum ["factors", "told"]) (F_plus : Has P w K mg base CX0 3 "plus" ["q", "r"] (spW K (pur (gOp fun q r => q + r)))) (F_times : Has P w K mg base CX0 3 "times" ["q", "r"] (spW K (pur (gOp fun q r => q * r)))) (C_ZERO : Zero4 K mg) : Has P w K mg base CX0 4 "weighed_sum" ["factors", "told"] (spW K (pur gWS)) := by
  refine F.hasP sc_weighed_sum (fun ds P h => by obtain ⟨a, b, _, _, _, rfl, _⟩ := h; rfl) fun f cdv A outer s H E hr => ?_
  have nd := sc_weighed_sum.nd
  refine ⟨_, (jss_cons (js_set (i := 2) nd rfl (Or.inl rfl) (j_glob C_ZERO rfl))
    (jss_cons (js_for PassesOwn.never rfl (ji_zip rfl B.zip (ja_cons (jv 0) (ja_cons (jv 1) ja_nil))) (jg_tup (n := 2) rfl (jgs_cons (jg_name (i := 3) nd rfl (Or.inl rfl)) (jgs_cons (jg_name (i := 4) nd rfl (Or.inl rfl)) jgs_nil)))
    (jss_one (js_set (i := 2) nd rfl (Or.inl rfl) (j_h F_plus (hr.mono (by decide)) rfl (ja_cons (jv 2) (ja_cons (j_h F_times (hr.mono (by decide)) rfl (ja_cons (jv 3) (ja_cons (jv 4) ja_nil))) ja_nil))))))
    (jss_one (js_ret (jv 2))))), ?_⟩
  rintro ds M Q ⟨qs, rs, n, m, k, rfl, t, q⟩
  refine ⟨fun i ρ M' => M' = M ∧ ∃ o3 o4, ρ = [.sh (frL qs), .sh (frL rs), .sh (frD (dot (qs.take i) (rs.take i))), o3, o4], ⟨rfl, _, _, rfl⟩, ?_, ?_⟩
  · rintro i d ρ M' hd ⟨rfl, o3, o4, rfl⟩
    obtain ⟨a, b, ha, hb, rfl⟩ := zip_fr hd
    have hi : i < qs.length := (List.getElem?_eq_some_iff.mp ha).1
    have few := t.few
    have bnd := t.bnd
    have b1 := Nat.mul_le_mul_left (n + m + 1) (show i + 1 ≤ k by omega)
    rw [Nat.mul_add, Nat.mul_one] at b1
    have sa := t.s1 _ (List.mem_of_getElem? ha)
    have sb := t.s2 _ (List.mem_of_getElem? hb)
    refine ⟨rfl, a, b, rfl, Mx.of sa sb (by omega), _, _, rfl, Mx.of (dot_sm t.s1 t.s2 t.len i (by omega)) (smr_mul sa sb) (by omega), rfl, .sh (frD a), .sh (frD b), ?_⟩
    rw [dot_take ha hb]; rfl
  · rintro ρ M' ⟨rfl, o3, o4, rfl⟩
    refine ⟨_, Sub.refl _, ?_⟩
    have e : (zipD (qs.map frD) (rs.map frD)).length = qs.length := by rw [zipD_len, List.length_map, List.length_map, t.len, Nat.min_self]
    rw [e, List.take_length, t.len, List.take_length]
    exact q

/-! ### the fraction 1, opposites, lists that are 0 but at a place -/
noncomputable abbrev One4 (K : PySem.W.Frag) (mg : Str → Option Value) : Prop := Cst K mg "ONE" (frD 1)
private theorem One4.of {a : Addr} {od : Option Addr} {sl : Array (Option Value)} {n : Nat} {t0 t1 : Tok} (h : mg "ONE" = some (.ref a)) (l : K.lookup a = some ⟨.type "tuple", od, .seq #[.int 1 t0, .int 1 t1] n, sl⟩) : One4 K mg :=
  ⟨.ref a, .ref a, h, rfl, fun F => by
    rw [frD, Rp]
    refine ⟨a, [.int 1, .int 1], rfl, .inr ⟨_, _, _, l, rfl, rfl, by show 2 ≤ sizeLine; decide, .cons ⟨_, rfl⟩ (.cons ⟨_, rfl⟩ .nil)⟩, ?_⟩
    rw [Rps]
    exact ⟨_, _, rfl, by rw [Rp]; rfl, by rw [Rps]; exact ⟨_, _, rfl, by rw [Rp]; rfl, by rw [Rps]⟩⟩⟩
noncomputable def gOpp : List D → (D → Prop) → Prop := fun ds P => ∃ q : Rat, ds = [frD q] ∧ P (frD (-q))
noncomputable abbrev s_opposite : Stmt := top 9
private theorem sc_opposite : FnScope ["q"] ["q"] (defScope s_opposite) := ⟨rfl, rfl, rfl, by decide +kernel, rfl, by decide +kernel, by decide +kernel⟩
private theorem h_opposite (B : Bl mg) (F : Def K mg "opposite" s_opposite ["q"]) : Has P w K mg base CX0 1 "opposite" ["q"] (spW K (pur gOpp)) := by
  refine F.hasP sc_opposite (fun ds P h => by obtain ⟨_, rfl, _⟩ := h; rfl) fun f cdv A outer s H E hr => ?_
  have nd := sc_opposite.nd
  refine ⟨_, (jss_one (js_ret (j_tup (ja_cons (j_neg (j_atV 0 j_int)) (ja_cons (j_atV 0 j_int) ja_nil))))), ?_⟩
  rintro ds M Q ⟨q, rfl, k⟩
  have e : frD (-q) = .tup [.int (-q.num), .int (q.den : Int)] := by rw [frD, Rat.neg_num, Rat.neg_den]
  rw [e] at k
  exact ⟨by show 2 ≤ sizeLine; decide, _, Sub.refl _, k⟩
noncomputable def unitQ (n k : Nat) (q : Rat) : List Rat := (List.replicate n 0).set k q
noncomputable def gUnit : List D → (D → Prop) → Prop := fun ds P => ∃ (n k : Nat) (q : Rat), ds = [.int n, .int k, frD q] ∧ k < n ∧ n ≤ 1000 ∧ P (frL (unitQ n k q))
noncomputable abbrev s_all_but_one_0 : Stmt := top 29
private theorem sc_all_but_one_0 : FnScope ["length", "place", "q", "told"] ["length", "place", "q"] (defScope s_all_but_one_0) := ⟨rfl, rfl, rfl, by decide +kernel, rfl, by decide +kernel, by decide +kernel⟩
private theorem h_all_but_one_0 (B : Bl mg) (F : Def K mg "all_but_one_0" s_all_but_one_0 ["length", "place", "q"]) (C_ZERO : Zero4 K mg) : Has P w K mg base CX0 1 "all_but_one_0" ["length", "place", "q"] (spN K gUnit) := by
  refine F.hasN sc_all_but_one_0 (fun ds P h => by obtain ⟨_, _, _, rfl, _⟩ := h; rfl) fun f cdv A outer s H E hr => ?_
  have nd := sc_all_but_one_0.nd
  refine ⟨_, (jss_cons (js_setC (k := 3) nd rfl (Or.inl rfl) ["k"] [none] ⟨rfl, by decide +kernel, by decide +kernel, rfl, rfl, by intro i x j _ h; exact absurd h (by rcases i with _ | _ | _ | i <;> simp)⟩ rfl (ji_rng1 rfl B.range (ja_cons (jv 0) ja_nil)) (fun _ _ _ _ _ => (jg_name (i := 0) (show List.Nodup [("k" : Str)] by decide +kernel) rfl (Or.inl rfl))) (fun _ _ _ _ _ => jc_nil) (fun _ _ _ _ _ => (j_glob C_ZERO rfl)))
    (jss_cons (js_setIxW 3 (jv 2) (jv 1))
    (jss_one (js_retU (ju_v 3))))), ?_⟩
  rintro ds M Q ⟨n, k, q, rfl, kn, n1, kk⟩
  refine ⟨⟨by omega, by omega⟩, fun i out ρ M' => M' = M ∧ out = List.replicate i (frD 0) ∧ ∃ o, ρ = [o], ⟨rfl, rfl, _, rfl⟩, ?_, ?_⟩
  · rintro i d out ρ M' hd ⟨rfl, rfl, o, rfl⟩
    have hi : i < n := by have := (List.getElem?_eq_some_iff.mp hd).1; simpa [rngD] using this
    exact ⟨by rw [List.length_replicate]; exact small1000 (by omega), rfl, by rw [List.replicate_succ'], .sh d, rfl⟩
  · rintro out ρ M' ⟨rfl, rfl, o, rfl⟩
    have ln : (rngD 0 (n : Int).toNat).length = n := by simp [rngD]
    rw [ln]
    refine ⟨trivial, ?_⟩
    have e : ixN (List.replicate n (frD 0)).length (k : Int) = some k := by
      rw [List.length_replicate]
      unfold ixN
      rw [if_pos (by omega), if_pos (by omega)]
      rfl
    show match ixN (List.replicate n (frD 0)).length (k : Int) with | some n => _ | none => False
    rw [e]
    have e2 : frL (unitQ n k q) = .lst ((List.replicate n (frD 0)).set k (frD q)) := by rw [frL, unitQ, List.map_set, List.map_replicate]
    rw [e2] at kk
    refine fun p hp => ⟨_, _, Sub.refl _, .newD ?_ hp, kk⟩
    have e3 : (List.replicate n (frD 0)).set k (frD q) = (unitQ n k q).map frD := by rw [unitQ, List.map_set, List.map_replicate]
    rw [e3]
    exact noLs_map fun _ => rfl

/-! ### the rows of a plan, over trees -/
noncomputable abbrev BR := List Rat × Rat
noncomputable def rQ (r : BR) : D := .tup [frL r.1, frD r.2]
noncomputable def bndAt (n k : Nat) (x : Rat × Rat) : List BR := [(unitQ n k 1, -x.1), (unitQ n k (-1), x.2)]
noncomputable def bndRows (T : List (Rat × Rat)) : List BR := (T.mapIdx fun k x => bndAt T.length k x).flatten
private theorem mapIdx_take {α β : Type} (f : Nat → α → β) {l : List α} {i : Nat} {x : α} (h : l[i]? = some x) : (l.take (i + 1)).mapIdx f = (l.take i).mapIdx f ++ [f i x] := by
  have hi := (List.getElem?_eq_some_iff.mp h).1
  rw [List.take_add_one, h, Option.toList_some, List.mapIdx_append, List.mapIdx_singleton, List.length_take, Nat.min_eq_left (by omega), Nat.zero_add]
noncomputable def bQ (x : Rat × Rat) : D := .tup [frD x.1, frD x.2]
noncomputable def gBR : List D → (D → Prop) → Prop := fun ds P => ∃ T : List (Rat × Rat), ds = [.lst (T.map bQ)] ∧ T.length ≤ 100 ∧ P (.lst ((bndRows T).map rQ))
private theorem bnd_len (n : Nat) : ∀ (l : List (List BR)), (∀ x ∈ l, x.length = 2) → l.flatten.length = 2 * l.length
  | [], _ => rfl
  | a :: l, h => by rw [List.flatten_cons, List.length_append, h a (by simp), bnd_len n l fun x hx => h x (by simp [hx]), List.length_cons]; omega
noncomputable abbrev s_bound_rows : Stmt := top 30
private theorem sc_bound_rows : FnScope ["shims", "told", "k", "pair"] ["shims"] (defScope s_bound_rows) := ⟨rfl, rfl, rfl, by decide +kernel, rfl, by decide +kernel, by decide +kernel⟩
private theorem h_bound_rows (B : Bl2 mg) (F : Def K mg "bound_rows" s_bound_rows ["shims"]) (F_all_but_one_0 : Has P w K mg base CX0 1 "all_but_one_0" ["length", "place", "q"] (spN K gUnit)) (F_opposite : Has P w K mg base CX0 1 "opposite" ["q"] (spW K (pur gOpp))) (C_ONE : One4 K mg) : Has P w K mg base CX0 2 "bound_rows" ["shims"] (spN K gBR) := by
  refine F.hasN sc_bound_rows (fun ds P h => by obtain ⟨_, rfl, _⟩ := h; rfl) fun f cdv A outer s H E hr => ?_
  have nd := sc_bound_rows.nd
  refine ⟨_, (jss_cons (js_setU (i := 1) nd rfl (Or.inl rfl) (ju_new (jnu_n (jn_lst ja_nil))))
    (jss_cons (js_for PassesOwn.never rfl (ji_enu rfl B.enumerate (ja_cons (jv 0) ja_nil)) (jg_tup (n := 2) rfl (jgs_cons (jg_name (i := 2) nd rfl (Or.inl rfl)) (jgs_cons (jg_name (i := 3) nd rfl (Or.inl rfl)) jgs_nil)))
    (jss_cons (js_appU (ju_v 1) (ju_tup (jua_cons (j_hN F_all_but_one_0 (hr.mono (by decide)) rfl (ja_cons (j_lenV 0 rfl B.len) (ja_cons (jv 2) (ja_cons (j_glob C_ONE rfl) ja_nil)))) (jua_cons (ju_d (j_h F_opposite (hr.mono (by decide)) rfl (ja_cons (j_atV 3 j_int) ja_nil))) jua_nil))))
    (jss_one (js_appU (ju_v 1) (ju_tup (jua_cons (j_hN F_all_but_one_0 (hr.mono (by decide)) rfl (ja_cons (j_lenV 0 rfl B.len) (ja_cons (jv 2) (ja_cons (j_h F_opposite (hr.mono (by decide)) rfl (ja_cons (j_glob C_ONE rfl) ja_nil)) ja_nil)))) (jua_cons (ju_d (j_atV 3 j_int)) jua_nil)))))))
    (jss_one (js_retU (ju_v 1))))), ?_⟩
  rintro ds M Q ⟨T, rfl, l1, k⟩
  refine ⟨by show 0 ≤ sizeLine; decide, fun p hp => ⟨fun i ρ M' => Fresh M M' (.lst ((((T.take i).mapIdx fun k x => bndAt T.length k x).flatten).map rQ)) (.adr p) ∧ ∃ o2 o3, ρ = [.sh (.lst (T.map bQ)), .ut (.adr p), o2, o3], ⟨.newD rfl hp, _, _, rfl⟩, ?_, ?_⟩⟩
  · rintro i d ρ M' hd ⟨fr, o2, o3, rfl⟩
    obtain ⟨x, hx, rfl⟩ := enuD_get hd
    rw [List.getElem?_map, Option.map_eq_some_iff] at hx
    obtain ⟨x, hx, rfl⟩ := hx
    have hi := (List.getElem?_eq_some_iff.mp hx).1
    have hlen : ((((T.take i).mapIdx fun k x => bndAt T.length k x).flatten).map rQ).length ≤ 200 := by
      rw [List.length_map, bnd_len 0 _ (by intro y hy; obtain ⟨j, hj, rfl⟩ := List.mem_mapIdx.mp hy; rfl), List.length_mapIdx, List.length_take]
      omega
    have el : ((T.map bQ).length : Int) = (T.length : Int) := by rw [List.length_map]
    obtain ⟨us, e1, n1, st1⟩ := fr.own_of
    refine ⟨rfl, ⟨us, e1⟩, T.length, i, 1, ?_, hi, by omega, fun u M2 f2 => ⟨x.1, rfl, by show 2 ≤ sizeLine; decide, us, st1 _ _ _ f2, by rw [n1]; exact Nat.lt_of_le_of_lt hlen (by decide), ?_⟩⟩
    · rw [el, Nat.zero_add]
    have fr2 := fr.push (Fresh.tup (.cons f2 (.cons (Fresh.leaf (d := frD (-x.1)) rfl) .nil))) (st1 _ _ _ f2)
    obtain ⟨us2, e2, n2, st2⟩ := fr2.own_of
    refine ⟨⟨us2, e2⟩, 1, rfl, T.length, i, -1, ?_, hi, by omega, fun u3 M3 f3 => ⟨by show 2 ≤ sizeLine; decide, us2, st2 _ _ _ f3, ?_, ?_⟩⟩
    · rw [el, Nat.zero_add]
    · rw [n2, List.length_append]; exact Nat.lt_of_le_of_lt (show _ ≤ 201 by simp at hlen ⊢; omega) (by decide)
    have fr3 := fr2.push (Fresh.tup (.cons f3 (.cons (Fresh.leaf (d := frD x.2) rfl) .nil))) (st2 _ _ _ f3)
    refine ⟨?_, .sh (.int i), .sh (bQ x), ?_⟩
    · rw [mapIdx_take _ hx, List.flatten_append, List.map_append]
      rw [List.append_assoc] at fr3
      exact fr3
    · rw [Nat.zero_add]; rfl
  · rintro ρ M' ⟨fr, o2, o3, rfl⟩
    rw [enuD_len, List.length_map, List.take_length] at fr
    exact ⟨_, _, Sub.refl _, fr, k⟩
noncomputable abbrev ZR := List Rat × List Rat × Rat
noncomputable def zQ (z : ZR) : D := .tup [frL z.1, frL z.2.1, frD z.2.2]
noncomputable def rowsQ (T : List (Rat × Rat)) (Z : List ZR) (M : List Rat) : List BR := (Z.map fun z => (z.2.1, dot z.1 M + z.2.2)) ++ bndRows T
structure RowsOk (T : List (Rat × Rat)) (Z : List ZR) (M : List Rat) : Prop where
  lT : T.length ≤ 100
  lZ : Z.length ≤ 100
  dz : ∀ z ∈ Z, ∃ n m t k, Two n m k z.1 M ∧ SmR t z.2.2 ∧ (n + m + 1) * k + t ≤ 8900
noncomputable def gRows : List D → (D → Prop) → Prop := fun ds P => ∃ (d : D) (T : List (Rat × Rat)) (Z : List ZR) (M : List Rat), ds = [.tup [d, .lst (T.map bQ), .lst (Z.map zQ)], frL M] ∧ RowsOk T Z M ∧ P (.lst ((rowsQ T Z M).map rQ))
private theorem bnd_rows_len (T : List (Rat × Rat)) : (bndRows T).length = 2 * T.length := by
  unfold bndRows
  rw [bnd_len 0 _ (by intro y hy; obtain ⟨j, hj, rfl⟩ := List.mem_mapIdx.mp hy; rfl), List.length_mapIdx]
private theorem take_map' {α : Type} {f : α → D} {l : List α} {i : Nat} {x : α} (h : l[i]? = some x) : (l.take i).map f ++ [f x] = (l.take (i + 1)).map f := by
  rw [List.take_add_one, h, List.map_append]; rfl
noncomputable abbrev s_rows_of : Stmt := top 31
private theorem sc_rows_of : FnScope ["plan", "made", "told"] ["plan", "made"] (defScope s_rows_of) := ⟨rfl, rfl, rfl, by decide +kernel, rfl, by decide +kernel, by decide +kernel⟩
private theorem h_rows_of (B : Bl mg) (F : Def K mg "rows_of" s_rows_of ["plan", "made"]) (F_plus : Has P w K mg base CX0 3 "plus" ["q", "r"] (spW K (pur (gOp fun q r => q + r)))) (F_weighed_sum : Has P w K mg base CX0 4 "weighed_sum" ["factors", "told"] (spW K (pur gWS))) (F_bound_rows : Has P w K mg base CX0 2 "bound_rows" ["shims"] (spN K gBR)) : Has P w K mg base CX0 5 "rows_of" ["plan", "made"] (spN K gRows) := by
  refine F.hasN sc_rows_of (fun ds P h => by obtain ⟨_, _, _, _, rfl, _⟩ := h; rfl) fun f cdv A outer s H E hr => ?_
  have nd := sc_rows_of.nd
  refine ⟨_, (jss_cons (js_setCU (k := 2) nd rfl (Or.inl rfl) ["a", "b", "c", "made"] [none, none, none, some 1] ⟨rfl, by decide +kernel, by decide +kernel, rfl, rfl, free_of rfl⟩ rfl (ji_list (j_atV 0 j_int)) (fun _ _ _ _ _ => (jg_tup (n := 3) rfl (jgs_cons (jg_name (i := 0) (show List.Nodup [("a" : Str), ("b" : Str), ("c" : Str), ("made" : Str)] by decide +kernel) rfl (Or.inl rfl)) (jgs_cons (jg_name (i := 1) (show List.Nodup [("a" : Str), ("b" : Str), ("c" : Str), ("made" : Str)] by decide +kernel) rfl (Or.inl rfl)) (jgs_cons (jg_name (i := 2) (show List.Nodup [("a" : Str), ("b" : Str), ("c" : Str), ("made" : Str)] by decide +kernel) rfl (Or.inl rfl)) jgs_nil))))) (fun _ _ _ _ _ => jc_nil) (fun _ _ _ _ _ => (ju_tup (jua_cons (ju_new (jnu_n (jn_list rfl B.list (ja_cons (jv 1) ja_nil)))) (jua_cons (ju_d (j_h F_plus (hr.mono (by decide)) rfl (ja_cons (j_h F_weighed_sum (hr.mono (by decide)) rfl (ja_cons (jv 0) (ja_cons (jv 3) ja_nil))) (ja_cons (jv 2) ja_nil)))) jua_nil)))))
    (jss_one (js_retU (ju_new (jnu_cat (ju_v 2) (j_hN F_bound_rows (hr.mono (by decide)) rfl (ja_cons (j_atV 0 j_int) ja_nil))))))), ?_⟩
  rintro ds M0 Q ⟨d0, T, Z, M, rfl, ok, k⟩
  have lT := ok.lT
  have lZ := ok.lZ
  refine ⟨fun i out ρ M' => Freshs M0 M' ((Z.take i).map fun z => rQ (z.2.1, dot z.1 M + z.2.2)) out ∧ ∃ o1 o2 o3, ρ = [o1, o2, o3, .sh (frL M)], ⟨.nil, _, _, _, rfl⟩, ?_, ?_⟩
  · rintro i d out ρ M' hd ⟨fr, o1, o2, o3, rfl⟩
    rw [List.getElem?_map, Option.map_eq_some_iff] at hd
    obtain ⟨z, hz, rfl⟩ := hd
    obtain ⟨n, m, t, j, tw, st, bd⟩ := ok.dz z (List.mem_of_getElem? hz)
    refine ⟨rfl, fun p hp => ?_⟩
    refine ⟨z.1, M, n, m, j, rfl, tw, _, _, rfl, Mx.of tw.sm st (by omega), by show 2 ≤ sizeLine; decide, ?_, ?_, .sh (frL z.1), .sh (frL z.2.1), .sh (frD z.2.2), rfl⟩
    · obtain ⟨A, h1, _⟩ := fr
      rw [← h1.length, List.length_map, List.length_take]
      exact small1000 (by omega)
    · rw [← take_map' (f := fun z => rQ (z.2.1, dot z.1 M + z.2.2)) hz]
      exact fr.snoc (.tup (.cons (.newD (noLs_map fun _ => rfl) hp) (.cons (.leaf rfl) .nil)))
  · rintro out ρ M' ⟨fr, o1, o2, o3, rfl⟩
    rw [List.length_map, List.take_length] at fr
    intro p hp
    have fA := Fresh.new fr hp
    refine ⟨T, rfl, lT, fun u M2 f2 => ?_⟩
    obtain ⟨q, ws, rfl, b1, b2, M3, b3, b4, b5⟩ := f2.adr
    obtain ⟨us, a1, a2, a3⟩ := fA.own_of
    have lw : ws.length = (bndRows T).length := by
      obtain ⟨A, h1, _⟩ := b3
      rw [← h1.length, List.length_map]
    refine ⟨us, ws, ?_, ?_, ?_, fun r hr => ?_⟩
    · show (match M2 p with | some (.own us) => some us | _ => none) = some us
      rw [a3 _ _ _ f2]
    · show (match M2 q with | some (.own us) => some us | _ => none) = some ws
      rw [b1]
    · rw [a2, lw, List.length_map, bnd_rows_len]
      exact Nat.le_trans (show _ ≤ 300 by omega) (by decide)
    · obtain ⟨M4, s4, f4⟩ := fA.cat f2 (a3 _ _ _ f2) b1 hr
      refine ⟨_, M4, s4, f4, ?_⟩
      have e : (Z.map fun z => rQ (z.2.1, dot z.1 M + z.2.2)) ++ (bndRows T).map rQ = (rowsQ T Z M).map rQ := by
        rw [rowsQ, List.map_append, List.map_map]; rfl
      rw [e]
      exact k

/-! ### the class of tables -/
noncomputable abbrev s_Table : Stmt := top 15
noncomputable abbrev s_init : Stmt := inClass s_Table 0
noncomputable abbrev tNs : List Str := ["held", "bottom", "rows", "scales", "shims"]
noncomputable abbrev tPs : List Str := ["self", "held", "bottom", "rows", "scales", "shims"]
private theorem sc_init : FnScope tPs tPs (defScope s_init) := ⟨rfl, rfl, rfl, by decide +kernel, rfl, by decide +kernel, by decide +kernel⟩
private theorem fa_held : FldAt tNs "held" 0 := fun vs h => by obtain ⟨_, _, _, _, _, rfl⟩ := len5 h; rfl
private theorem fa_bottom : FldAt tNs "bottom" 1 := fun vs h => by obtain ⟨_, _, _, _, _, rfl⟩ := len5 h; rfl
private theorem fa_rows : FldAt tNs "rows" 2 := fun vs h => by obtain ⟨_, _, _, _, _, rfl⟩ := len5 h; rfl
private theorem fa_scales : FldAt tNs "scales" 3 := fun vs h => by obtain ⟨_, _, _, _, _, rfl⟩ := len5 h; rfl
private theorem fa_shims : FldAt tNs "shims" 4 := fun vs h => by obtain ⟨_, _, _, _, _, rfl⟩ := len5 h; rfl
structure TabK (K : PySem.W.Frag) (mg : Str → Option Value) (C fi : Addr) (fd : FuncData) : Prop where
  m : mg "Table" = some (.ref C)
  cl : Cls K C
  na_held : NoAttr K C "held"
  na_bottom : NoAttr K C "bottom"
  na_rows : NoAttr K C "rows"
  na_scales : NoAttr K C "scales"
  na_shims : NoAttr K C "shims"
  made : Mk K C fi
  fn : Fun K "__init__" "Table.__init__" s_init fi fd
  bd : Binds K fd tPs []
structure TabC (P : Program) (w : World) (K : PySem.W.Frag) (mg : Str → Option Value) (base : Heap) (C fi : Addr) (fd : FuncData) : Prop extends TabK K mg C fi fd where
  init : FnOk P w K mg base CX0 1 fi fd tPs (spInit C tNs)
private theorem TabK.ok {C fi : Addr} {fd : FuncData} (T : TabK K mg C fi fd) : TabC P w K mg base C fi fd := by
  refine ⟨T, T.fn.ok sc_init (fun vs H Q E h => by obtain ⟨q, dx, ws, rfl, l, _⟩ := h; simp [l]) fun cdv A outer s H vs Q E hr h => ?_⟩
  refine ⟨_, pss_cons (ps_fldO (f := "held") (L2.pv 0) (L2.pv 1) rfl) (pss_cons (ps_fldO (f := "bottom") (L2.pv 0) (L2.pv 2) rfl) (pss_cons (ps_fldO (f := "rows") (L2.pv 0) (L2.pv 3) rfl) (pss_cons (ps_fldO (f := "scales") (L2.pv 0) (L2.pv 4) rfl) (pss_one (ps_fldO (f := "shims") (L2.pv 0) (L2.pv 5) rfl))))), ?_⟩
  obtain ⟨q, dx, ws, rfl, l, hH, k⟩ := h
  obtain ⟨a, b, c, d, e, rfl⟩ := len5 l
  · refine ⟨_, rfl, _, rfl, q, C, dx, _, rfl, hH, T.cl, T.na_held, by decide, _, rfl, _, rfl, q, C, dx, _, rfl, upd_same, T.cl, T.na_bottom, by show 1 < 1000; decide, _, rfl, _, rfl, q, C, dx, _, rfl, upd_same, T.cl, T.na_rows, by show 2 < 1000; decide, _, rfl, _, rfl, q, C, dx, _, rfl, upd_same, T.cl, T.na_scales, by show 3 < 1000; decide, _, rfl, _, rfl, q, C, dx, _, rfl, upd_same, T.cl, T.na_shims, by show 4 < 1000; decide, ?_⟩
    show Q .non _
    simp only [upd_upd]
    exact k
/-! ### tables as trees -/
noncomputable def lineD (l : List Int) : D := .lst (l.map D.int)
structure Tb where
  held : List D
  bottom : Int
  rows : List (List Int)
  scales : List Int
  shims : List (List Int)
noncomputable def tabU (C : Addr) (t : Tb) : U := .ins C tNs [.lst t.held, .int t.bottom, .lst (t.rows.map lineD), .lst (t.scales.map D.int), .lst (t.shims.map lineD)]
/-! ### the first held row -/
noncomputable abbrev lamP : Pos := ⟨85, 27, 85, 58⟩
noncomputable abbrev lamQ : Str := ("first_held" : Str) ++ ".<locals>." ++ "<lambda>"
noncomputable abbrev s_first_held : Stmt := top 23
private theorem sc_first_held : FnScope ["table", "places"] ["table", "places"] (defScope s_first_held) := ⟨rfl, rfl, rfl, by decide +kernel, rfl, by decide +kernel, by decide +kernel⟩
private theorem one_free {x y : Str} : ∀ z, List.lookup z [(x, NameKind.local), (y, NameKind.free)] = some .free → z = y := fun z h => by
  rw [List.lookup_cons] at h
  cases hz : z == x with
  | true => rw [hz] at h; cases h
  | false =>
    rw [hz, List.lookup_cons] at h
    cases hy : z == y with
    | true => exact eq_of_beq hy
    | false => rw [hy] at h; cases h
noncomputable def gFH (C P0 : Addr) : WFU := fun us M P => ∃ (t : Tb) (ps : List D) (kf : Nat → Int), us = [tabU C t, .d (.lst ps)] ∧ M P0 = some (.tab lamP lamQ) ∧ (∀ j d, ps[j]? = some d → ∃ n : Int, d = .int n ∧ atI t.held n = some (.int (kf j))) ∧ ∀ r, MinD ps kf r → P (.d r) M
private theorem h_first_held {C fi c0 P0 : Addr} {fd : FuncData} (B : Bl2 mg) (F : Def K mg "first_held" s_first_held ["table", "places"]) (hc : CodeAt K mg "first_held" s_first_held c0) (CH : PySem.W.CodeHd base c0 P0) (BM : BMain mg base) (TC : TabC P w K mg base C fi fd) :
    Has P w K mg base CX0 4 "first_held" ["table", "places"] (spU K (gFH C P0)) := by
  refine F.hasUC hc sc_first_held (fun us M P h => by obtain ⟨_, _, _, rfl, _⟩ := h; rfl) fun f A outer s H E hr => ?_
  have nd := sc_first_held.nd
  refine ⟨_, (jss_one (js_ret (j_minKey (i := 0) (jv 1) rfl B.min hr ⟨rfl, rfl, rfl, rfl, rfl, by decide +kernel, one_free⟩ rfl CH BM rfl rfl rfl rfl rfl (fun _ _ _ _ _ => rfl) TC.cl TC.na_held fa_held))), ?_⟩
  rintro us M Q ⟨t, ps, kf, rfl, hM, hk, k⟩
  exact ⟨rfl, rfl, rfl, hM, _, kf, rfl, hk, fun r hr => ⟨_, Sub.refl _, k r hr⟩⟩

/-! ### lines of whole numbers -/
private theorem cmR {i j : Int} (h : -(2 ^ 64) < j ∧ j < 2 ^ 64) : CM i j := .inl (.inr h)
private theorem cmL {i j : Int} (h : -(2 ^ 64) < i ∧ i < 2 ^ 64) : CM i j := .inl (.inl h)
private theorem ixN_ok {n k : Nat} (h : k < n) : ixN n (k : Int) = some k := by
  unfold ixN
  rw [if_pos (by omega), if_pos (by omega)]
  rfl
private theorem at_nat {α : Type} {ds : List α} {k : Nat} {d : α} (h : ds[k]? = some d) : atI ds (k : Int) = some d := by
  have := (List.getElem?_eq_some_iff.mp h).1
  unfold atI
  rw [ixN_ok this]; exact h
private theorem at_last {α : Type} {ds : List α} {d : α} : atI (ds ++ [d]) (-1) = some d := by
  unfold atI ixN
  rw [if_neg (by omega), if_pos (by rw [List.length_append]; simp; omega)]
  show (ds ++ [d])[_]? = _
  have : ((-1 : Int) + ((ds ++ [d]).length : Int)).toNat = ds.length := by rw [List.length_append]; simp; omega
  rw [this]; simp
private theorem RIx.get {ds : List D} {k : Nat} {d : D} {P : D → Prop} (h : ds[k]? = some d) (p : P d) : RIx (.lst ds) (.int (k : Int)) P := by
  show match atI ds (k : Int) with | some d => P d | none => False
  rw [at_nat h]; exact p
private theorem map_get {α : Type} {f : α → D} {l : List α} {i : Nat} {d : D} (h : (l.map f)[i]? = some d) : ∃ x, l[i]? = some x ∧ d = f x := by
  rw [List.getElem?_map, Option.map_eq_some_iff] at h
  obtain ⟨x, e, rfl⟩ := h
  exact ⟨x, e, rfl⟩
private theorem rng_get0 {n i : Nat} {d : D} (h : (rngD 0 n)[i]? = some d) : d = .int (i : Int) ∧ i < n := by
  obtain ⟨h1, h2⟩ := rng_get h
  rw [Int.zero_add] at h1
  exact ⟨h1, h2⟩
private theorem lcm_step {s d : Int} (hs : 0 < s) (hd : 0 < d) : 0 < d.fdiv (Int.gcd s d : Int) ∧ d.fdiv (Int.gcd s d : Int) ≤ d ∧ s ∣ s * d.fdiv (Int.gcd s d : Int) ∧ d ∣ s * d.fdiv (Int.gcd s d : Int) ∧ 0 < (Int.gcd s d : Int) ∧ (Int.gcd s d : Int) ≤ d := by
  have g0 : 0 < (Int.gcd s d : Int) := by
    have := Int.gcd_pos_of_ne_zero_left d (show s ≠ 0 by omega)
    omega
  obtain ⟨a, ha⟩ := Int.gcd_dvd_left s d
  obtain ⟨b, hb⟩ := Int.gcd_dvd_right s d
  have e : d.fdiv (Int.gcd s d : Int) = b := by
    rw [Int.fdiv_eq_ediv_of_nonneg _ (by omega)]
    conv => lhs; lhs; rw [hb]
    exact Int.mul_ediv_cancel_left _ (by omega)
  generalize (Int.gcd s d : Int) = g at *
  have hb0 : 0 < b := by
    apply Classical.byContradiction
    intro z
    have : g * b ≤ 0 := Int.mul_nonpos_of_nonneg_of_nonpos (by omega) (by omega)
    omega
  rw [e]
  refine ⟨hb0, ?_, ⟨b, rfl⟩, ⟨a, ?_⟩, g0, ?_⟩
  · have := Int.mul_le_mul_of_nonneg_right (show (1 : Int) ≤ g by omega) (show 0 ≤ b by omega)
    omega
  · rw [ha, hb, Int.mul_assoc, Int.mul_assoc, Int.mul_comm a]
  · have := Int.mul_le_mul_of_nonneg_left (show (1 : Int) ≤ b by omega) (show 0 ≤ g by omega)
    omega
private theorem sm_le {n : Nat} {a b : Int} (h : Sm n b) (h0 : 0 ≤ a) (h1 : a ≤ b) : Sm n a := by
  unfold Sm at *
  omega
noncomputable def whole (s : Int) (q : Rat) : Int := q.num * (s / (q.den : Int))
noncomputable def gWhole : List D → (D → Prop) → Prop := fun ds P => ∃ (qs : List Rat) (s : Int) (n m : Nat), ds = [frL qs, .int s] ∧ 0 < s ∧ Sm m s ∧ (∀ q ∈ qs, SmR n q) ∧ n + m ≤ 8000 ∧ qs.length ≤ 1000 ∧ P (lineD (qs.map (whole s)))
private theorem fdiv_den (s : Int) (q : Rat) : s.fdiv (q.den : Int) = s / (q.den : Int) := Int.fdiv_eq_ediv_of_nonneg _ (by have := den_pos q; omega)
private theorem div_sm {m : Nat} {s : Int} (q : Rat) (s0 : 0 < s) (h : Sm m s) : Sm m (s / (q.den : Int)) := sm_le h (Int.ediv_nonneg (by omega) (by have := den_pos q; omega)) (Int.ediv_le_self _ (by omega))
noncomputable abbrev s_whole_line : Stmt := top 17
private theorem sc_whole_line : FnScope ["parts", "scale"] ["parts", "scale"] (defScope s_whole_line) := ⟨rfl, rfl, rfl, by decide +kernel, rfl, by decide +kernel, by decide +kernel⟩
private theorem h_whole_line (B : Bl mg) (F : Def K mg "whole_line" s_whole_line ["parts", "scale"]) : Has P w K mg base CX0 1 "whole_line" ["parts", "scale"] (spW K (pur gWhole)) := by
  refine F.hasP sc_whole_line (fun ds P h => by obtain ⟨_, _, _, _, rfl, _⟩ := h; rfl) fun f cdv A outer s H E hr => ?_
  have nd := sc_whole_line.nd
  refine ⟨_, (jss_one (js_ret (j_fz (jn_lc ["q", "scale"] [none, some 1] ⟨rfl, by decide +kernel, by decide +kernel, rfl, rfl, free_of rfl⟩ rfl (ji_list (jv 0)) (fun _ _ _ _ _ => (jg_name (i := 0) (show List.Nodup [("q" : Str), ("scale" : Str)] by decide +kernel) rfl (Or.inl rfl))) (fun _ _ _ _ _ => jc_nil) (fun _ _ _ _ _ => (j_mul (j_atV 0 j_int) (j_fdiv (jv 1) (j_atV 0 j_int)))))))), ?_⟩
  rintro ds M Q ⟨qs, s, n, m, rfl, s0, ss, sq, bd, lq, k⟩
  refine ⟨fun i out ρ M' => M' = M ∧ out = (qs.take i).map (fun q => D.int (whole s q)) ∧ ∃ o, ρ = [o, .sh (.int s)], ⟨rfl, rfl, _, rfl⟩, ?_, ?_⟩
  · rintro i d out ρ M' hd ⟨rfl, rfl, o, rfl⟩
    obtain ⟨q, hq, rfl⟩ := map_get hd
    have hi := (List.getElem?_eq_some_iff.mp hq).1
    have sd := sq q (List.mem_of_getElem? hq)
    refine ⟨⟨by have := den_pos q; omega, sd.2.mono (by omega)⟩, ?_⟩
    have e := fdiv_den s q
    refine ⟨.inr ⟨n, m, by omega, sd.1, by rw [e]; exact div_sm q s0 ss⟩, take_small (by omega), rfl, ?_, .sh (frD q), rfl⟩
    rw [← take_map' (f := fun q => D.int (whole s q)) hq, e]; rfl
  · rintro out ρ M' ⟨rfl, rfl, o, rfl⟩
    rw [List.length_map, List.take_length]
    refine ⟨_, Sub.refl _, ?_⟩
    have e2 : lineD (qs.map (whole s)) = .lst (qs.map fun q => D.int (whole s q)) := by rw [lineD, List.map_map]; rfl
    rw [← e2]; exact k
noncomputable def gUL : List D → (D → Prop) → Prop := fun ds P => ∃ (n k : Nat), ds = [.int n, .int k] ∧ k < n ∧ n ≤ 1000 ∧ P (lineD ((List.replicate n 0).set k 1))
noncomputable abbrev s_unit_line : Stmt := top 18
private theorem sc_unit_line : FnScope ["length", "place", "line"] ["length", "place"] (defScope s_unit_line) := ⟨rfl, rfl, rfl, by decide +kernel, rfl, by decide +kernel, by decide +kernel⟩
private theorem h_unit_line (B : Bl mg) (F : Def K mg "unit_line" s_unit_line ["length", "place"]) : Has P w K mg base CX0 1 "unit_line" ["length", "place"] (spW K (pur gUL)) := by
  refine F.hasP sc_unit_line (fun ds P h => by obtain ⟨_, _, rfl, _⟩ := h; rfl) fun f cdv A outer s H E hr => ?_
  have nd := sc_unit_line.nd
  refine ⟨_, (jss_cons (js_setC (k := 2) nd rfl (Or.inl rfl) ["k"] [none] ⟨rfl, by decide +kernel, by decide +kernel, rfl, rfl, by intro i x j _ h; exact absurd h (by rcases i with _ | _ | _ | i <;> simp)⟩ rfl (ji_rng1 rfl B.range (ja_cons (jv 0) ja_nil)) (fun _ _ _ _ _ => (jg_name (i := 0) (show List.Nodup [("k" : Str)] by decide +kernel) rfl (Or.inl rfl))) (fun _ _ _ _ _ => jc_nil) (fun _ _ _ _ _ => j_int))
    (jss_cons (js_setIxW 2 j_int (jv 1))
    (jss_one (js_ret (jv 2))))), ?_⟩
  rintro ds M Q ⟨n, k, rfl, kn, n1, kk⟩
  refine ⟨⟨by omega, by omega⟩, fun i out ρ M' => M' = M ∧ out = List.replicate i (D.int 0) ∧ ∃ o, ρ = [o], ⟨rfl, rfl, _, rfl⟩, ?_, ?_⟩
  · rintro i d out ρ M' hd ⟨rfl, rfl, o, rfl⟩
    obtain ⟨_, hi⟩ := rng_get0 hd
    exact ⟨by rw [List.length_replicate]; exact small1000 (by omega), rfl, by rw [List.replicate_succ'], .sh d, rfl⟩
  · rintro out ρ M' ⟨rfl, rfl, o, rfl⟩
    rw [rng_len]
    refine ⟨trivial, ?_⟩
    show match ixN (List.replicate ((n : Int)).toNat (D.int 0)).length (k : Int) with | some n => _ | none => False
    rw [Int.toNat_natCast, ixN_ok (by rw [List.length_replicate]; exact kn)]
    refine ⟨_, Sub.refl _, ?_⟩
    have e : lineD ((List.replicate n 0).set k 1) = .lst ((List.replicate n (D.int 0)).set k (.int 1)) := by rw [lineD, List.map_set, List.map_replicate]
    rw [← e]; exact kk

/-! ### how often a row is taken: no more often than any common bottom -/
noncomputable def scl (qs : List Rat) : Int := qs.foldl (fun s q => s * (q.den : Int).fdiv (Int.gcd s (q.den : Int) : Int)) 1
private theorem scl_snoc {qs : List Rat} {q : Rat} : scl (qs ++ [q]) = scl qs * (q.den : Int).fdiv (Int.gcd (scl qs) (q.den : Int) : Int) := by unfold scl; rw [List.foldl_append]; rfl
private theorem lcm_dvd {s d D : Int} (hs : 0 < s) (hd : 0 < d) (h1 : s ∣ D) (h2 : d ∣ D) : s * d.fdiv (Int.gcd s d : Int) ∣ D := by
  have g0 : 0 < (Int.gcd s d : Int) := by
    have := Int.gcd_pos_of_ne_zero_left d (show s ≠ 0 by omega)
    omega
  have e : s * d.fdiv (Int.gcd s d : Int) = (Int.lcm s d : Int) := by
    rw [Int.fdiv_eq_ediv_of_nonneg _ (by omega)]
    have h : (Int.gcd s d : Int) * (Int.lcm s d : Int) = s * d := by
      have := Int.gcd_mul_lcm s d
      have : ((Int.gcd s d * Int.lcm s d : Nat) : Int) = ((s.natAbs * d.natAbs : Nat) : Int) := by rw [this]
      rw [Int.natCast_mul, Int.natCast_mul] at this
      rw [this]
      have a : (s.natAbs : Int) = s := by omega
      have b : (d.natAbs : Int) = d := by omega
      rw [a, b]
    obtain ⟨c, hc⟩ := Int.gcd_dvd_right s d
    have e1 : d / (Int.gcd s d : Int) = c := by
      conv => lhs; lhs; rw [hc]
      exact Int.mul_ediv_cancel_left _ (by omega)
    rw [e1]
    have : (Int.gcd s d : Int) * (s * c) = (Int.gcd s d : Int) * (Int.lcm s d : Int) := by
      rw [h]
      conv => rhs; rw [hc]
      grind
    exact Int.eq_of_mul_eq_mul_left (by omega) this
  rw [e]
  exact Int.coe_lcm_dvd h1 h2
noncomputable def gScale : List D → (D → Prop) → Prop := fun ds P => ∃ (qs : List Rat) (σ : Nat) (D : Int), ds = [frL qs] ∧ 0 < D ∧ Sm σ D ∧ σ ≤ 4000 ∧ (∀ q ∈ qs, (q.den : Int) ∣ D) ∧ P (.int (scl qs))
noncomputable abbrev s_scale_of : Stmt := top 16
private theorem sc_scale_of : FnScope ["parts", "scale", "q"] ["parts"] (defScope s_scale_of) := ⟨rfl, rfl, rfl, by decide +kernel, rfl, by decide +kernel, by decide +kernel⟩
private theorem h_scale_of (B : Bl mg) (F : Def K mg "scale_of" s_scale_of ["parts"]) (F_common_divisor : Has P w K mg base CX0 1 "common_divisor" ["one", "other"] (spW K (pur gGcd))) : Has P w K mg base CX0 2 "scale_of" ["parts"] (spW K (pur gScale)) := by
  refine F.hasP sc_scale_of (fun ds P h => by obtain ⟨_, _, _, rfl, _⟩ := h; rfl) fun f cdv A outer s H E hr => ?_
  have nd := sc_scale_of.nd
  refine ⟨_, (jss_cons (js_set (i := 1) nd rfl (Or.inl rfl) j_int)
    (jss_cons (js_for PassesOwn.never rfl (ji_list (jv 0)) (jg_name (i := 2) nd rfl (Or.inl rfl))
    (jss_one (js_set (i := 1) nd rfl (Or.inl rfl) (j_mul (jv 1) (j_fdiv (j_atV 2 j_int) (j_h F_common_divisor (hr.mono (by decide)) rfl (ja_cons (jv 1) (ja_cons (j_atV 2 j_int) ja_nil))))))))
    (jss_one (js_ret (jv 1))))), ?_⟩
  rintro ds M Q ⟨qs, σ, D, rfl, D0, sD, bd, dv, k⟩
  refine ⟨fun i ρ M' => M' = M ∧ ∃ o : Ent, ρ = [.sh (frL qs), .sh (.int (scl (qs.take i))), o] ∧ 0 < scl (qs.take i) ∧ scl (qs.take i) ∣ D, ⟨rfl, _, rfl, by show (0 : Int) < 1; decide, Int.one_dvd D⟩, ?_, ?_⟩
  · rintro i d ρ M' hd ⟨rfl, o, rfl, s0, sd⟩
    obtain ⟨q, hq, rfl⟩ := map_get hd
    have dq := dv q (List.mem_of_getElem? hq)
    have q0 := den_pos q
    obtain ⟨e0, e1, e2, e3, g0, g1⟩ := lcm_step s0 q0
    have le := Int.le_of_dvd D0 dq
    have ss := sm_le sD (by omega) (Int.le_of_dvd D0 sd)
    have sq := sm_le sD (by omega) (Int.le_trans e1 le)
    have ld := lcm_dvd s0 q0 sd dq
    refine ⟨_, _, rfl, ⟨by omega, (sm_le sD (by omega) (Int.le_trans g1 le)).mono (by omega)⟩, .inr ⟨σ, σ, by omega, ss, sq⟩, rfl, .sh (frD q), ?_, ?_, ?_⟩
    · rw [List.take_add_one, hq, Option.toList_some, scl_snoc]; rfl
    · rw [List.take_add_one, hq, Option.toList_some, scl_snoc]; exact Int.mul_pos s0 e0
    · rw [List.take_add_one, hq, Option.toList_some, scl_snoc]; exact ld
  · rintro ρ M' ⟨rfl, o, rfl, s0, sd⟩
    rw [List.length_map, List.take_length]
    exact ⟨_, Sub.refl _, k⟩

/-! ### lines exchanged -/
noncomputable def exL (ys : List Int) (p : Nat) (b : Int) (xs : List Int) : List Int :=
  if ys.getD p 0 < 0 then ((List.zipWith (fun t o => (t * ys.getD p 0 - xs.getD p 0 * o).fdiv b) xs ys).set p (xs.getD p 0)).map (fun t => -t)
  else (List.zipWith (fun t o => (t * ys.getD p 0 - xs.getD p 0 * o).fdiv b) xs ys).set p (xs.getD p 0)
structure ExOk (n : Nat) (xs ys : List Int) (p : Nat) (b : Int) : Prop where
  len : xs.length = ys.length
  few : xs.length ≤ 1000
  at_ : p < xs.length
  s1 : ∀ x ∈ xs, Sm n x
  s2 : ∀ y ∈ ys, Sm n y
  bd : 2 * n ≤ 8000
  b0 : b ≠ 0
  sb : Sm 9000 b
noncomputable def gEx : List D → (D → Prop) → Prop := fun ds P => ∃ (xs ys : List Int) (p : Nat) (b : Int) (n : Nat), ds = [lineD xs, lineD ys, .int p, .int b] ∧ ExOk n xs ys p b ∧ P (lineD (exL ys p b xs))
private theorem getD_of {l : List Int} {i : Nat} {x : Int} (h : l[i]? = some x) : l.getD i 0 = x := by simp [h]
private theorem zip_ints {xs ys : List Int} {i : Nat} {d : D} (h : (zipD (xs.map D.int) (ys.map D.int))[i]? = some d) : ∃ x y, xs[i]? = some x ∧ ys[i]? = some y ∧ d = .tup [.int x, .int y] := by
  obtain ⟨a, b, h1, h2, rfl⟩ := zipD_get h
  rw [List.getElem?_map, Option.map_eq_some_iff] at h1 h2
  obtain ⟨x, e1, rfl⟩ := h1
  obtain ⟨y, e2, rfl⟩ := h2
  exact ⟨x, y, e1, e2, rfl⟩
noncomputable abbrev s_exchanged : Stmt := top 21
private theorem sc_exchanged : FnScope ["line", "incoming", "place", "bottom", "pivot", "share", "told"] ["line", "incoming", "place", "bottom"] (defScope s_exchanged) := ⟨rfl, rfl, rfl, by decide +kernel, rfl, by decide +kernel, by decide +kernel⟩
private theorem h_exchanged (B : Bl mg) (F : Def K mg "exchanged" s_exchanged ["line", "incoming", "place", "bottom"]) : Has P w K mg base CX0 1 "exchanged" ["line", "incoming", "place", "bottom"] (spW K (pur gEx)) := by
  refine F.hasP sc_exchanged (fun ds P h => by obtain ⟨_, _, _, _, _, rfl, _⟩ := h; rfl) fun f cdv A outer s H E hr => ?_
  have nd := sc_exchanged.nd
  refine ⟨_, (jss_cons (js_set (i := 4) nd rfl (Or.inr rfl) (j_atV 1 (jv 2)))
    (jss_cons (js_set (i := 5) nd rfl (Or.inr rfl) (j_atV 0 (jv 2)))
    (jss_cons (js_setC (k := 6) nd rfl (Or.inl rfl) ["top", "other", "bottom", "pivot", "share"] [none, none, some 3, some 4, some 5] ⟨rfl, by decide +kernel, by decide +kernel, rfl, rfl, free_of rfl⟩ rfl (ji_zip rfl B.zip (ja_cons (jv 0) (ja_cons (jv 1) ja_nil))) (fun _ _ _ _ _ => (jg_tup (n := 2) rfl (jgs_cons (jg_name (i := 0) (show List.Nodup [("top" : Str), ("other" : Str), ("bottom" : Str), ("pivot" : Str), ("share" : Str)] by decide +kernel) rfl (Or.inl rfl)) (jgs_cons (jg_name (i := 1) (show List.Nodup [("top" : Str), ("other" : Str), ("bottom" : Str), ("pivot" : Str), ("share" : Str)] by decide +kernel) rfl (Or.inl rfl)) jgs_nil)))) (fun _ _ _ _ _ => jc_nil) (fun _ _ _ _ _ => (j_fdiv (j_sub (j_mul (jv 0) (jv 3)) (j_mul (jv 4) (jv 1))) (jv 2))))
    (jss_cons (js_setIxW 6 (jv 5) (jv 2))
    (jss_cons (js_if (jt_lt (jv 4) j_int) (jss_one (js_ret (j_fz (jn_lc ["top"] [none] ⟨rfl, by decide +kernel, by decide +kernel, rfl, rfl, by intro i x j _ h; exact absurd h (by rcases i with _ | _ | _ | i <;> simp)⟩ rfl (ji_list (jv 6)) (fun _ _ _ _ _ => (jg_name (i := 0) (show List.Nodup [("top" : Str)] by decide +kernel) rfl (Or.inl rfl))) (fun _ _ _ _ _ => jc_nil) (fun _ _ _ _ _ => (j_neg (jv 0))))))) jss_nil)
    (jss_one (js_ret (jv 6)))))))), ?_⟩
  rintro ds M Q ⟨xs, ys, p, b, n, rfl, ok, k⟩
  have len := ok.len
  have few := ok.few
  have pl := ok.at_
  have bd := ok.bd
  obtain ⟨x, hx⟩ : ∃ x, xs[p]? = some x := ⟨_, List.getElem?_eq_getElem pl⟩
  obtain ⟨y, hy⟩ : ∃ y, ys[p]? = some y := ⟨_, List.getElem?_eq_getElem (by omega)⟩
  have ex := getD_of hx
  have ey := getD_of hy
  have sx := ok.s1 _ (List.mem_of_getElem? hx)
  have sy := ok.s2 _ (List.mem_of_getElem? hy)
  refine RIx.get (d := .int y) (by rw [List.getElem?_map, hy]; rfl) (RIx.get (d := .int x) (by rw [List.getElem?_map, hx]; rfl) ?_)
  refine ⟨fun i out ρ M' => M' = M ∧ out = ((List.zipWith (fun t o => (t * y - x * o).fdiv b) xs ys).take i).map D.int ∧ ∃ o1 o2, ρ = [o1, o2, .sh (.int b), .sh (.int y), .sh (.int x)], ⟨rfl, rfl, _, _, rfl⟩, ?_, ?_⟩
  · rintro i d out ρ M' hd ⟨rfl, rfl, o1, o2, rfl⟩
    obtain ⟨t, o, ht, ho, rfl⟩ := zip_ints hd
    have hi := (List.getElem?_eq_some_iff.mp ht).1
    have st := ok.s1 _ (List.mem_of_getElem? ht)
    have so := ok.s2 _ (List.mem_of_getElem? ho)
    have hz : (List.zipWith (fun t o => (t * y - x * o).fdiv b) xs ys)[i]? = some ((t * y - x * o).fdiv b) := by rw [List.getElem?_zipWith, ht, ho]
    exact ⟨rfl, .inr ⟨n, n, by omega, st, sy⟩, .inr ⟨n, n, by omega, sx, so⟩, ⟨ok.b0, ok.sb⟩, by rw [List.length_map, List.length_take]; exact small1000 (by rw [List.length_zipWith]; omega), rfl, take_map' (f := D.int) hz, .sh (.int t), .sh (.int o), rfl⟩
  · rintro out ρ M' ⟨rfl, rfl, o1, o2, rfl⟩
    have lz : (zipD (xs.map D.int) (ys.map D.int)).length = (List.zipWith (fun t o => (t * y - x * o).fdiv b) xs ys).length := by rw [zipD_len, List.length_map, List.length_map, List.length_zipWith]
    rw [lz, List.take_length]
    unfold exL at k
    rw [ex, ey] at k
    generalize hZ : List.zipWith (fun t o => (t * y - x * o).fdiv b) xs ys = Z at *
    have lZ : Z.length = xs.length := by rw [← hZ, List.length_zipWith]; omega
    refine ⟨trivial, ?_⟩
    show match ixN (Z.map D.int).length (p : Int) with | some n => _ | none => False
    rw [ixN_ok (by rw [List.length_map]; omega)]
    have e2 : (Z.map D.int).set p (.int x) = (Z.set p x).map D.int := by rw [List.map_set]
    show if decide (y < 0) = true then _ else _
    refine iteB (fun c => ?_) (fun c => ?_)
    · rw [if_pos (by simpa using c)] at k
      refine ⟨fun i out ρ M2 => M2 = M' ∧ out = ((Z.set p x).take i).map (fun t => D.int (-t)) ∧ ∃ o, ρ = [o], ⟨rfl, rfl, _, rfl⟩, ?_, ?_⟩
      · rintro i d out ρ M2 hd ⟨rfl, rfl, o, rfl⟩
        rw [e2] at hd
        obtain ⟨t, ht, rfl⟩ := map_get hd
        have hi := (List.getElem?_eq_some_iff.mp ht).1
        rw [List.length_set] at hi
        exact ⟨by rw [List.length_map, List.length_take]; exact small1000 (by rw [List.length_set]; omega), rfl, take_map' (f := fun t => D.int (-t)) ht, .sh (.int t), rfl⟩
      · rintro out ρ M2 ⟨rfl, rfl, o, rfl⟩
        refine ⟨_, Sub.refl _, ?_⟩
        rw [e2, List.length_map, List.take_length]
        have e4 : lineD ((Z.set p x).map fun t => -t) = .lst ((Z.set p x).map fun t => D.int (-t)) := by rw [lineD, List.map_map]; rfl
        rw [← e4]; exact k
    · rw [if_neg (by simpa using c)] at k
      refine ⟨_, Sub.refl _, ?_⟩
      show Q (.lst ((Z.map D.int).set p (.int x))) _
      rw [e2]; exact k
/-! ### a table turned -/
noncomputable def turnT (t : Tb) (i p : Nat) : Tb :=
  { held := t.held.set p (.int i), bottom := if (t.rows.getD i []).getD p 0 < 0 then -(t.rows.getD i []).getD p 0 else (t.rows.getD i []).getD p 0, rows := t.rows.map (exL (t.rows.getD i []) p t.bottom), scales := t.scales, shims := t.shims.map (exL (t.rows.getD i []) p t.bottom) }
structure TbOk (n L : Nat) (t : Tb) : Prop where
  fewR : t.rows.length ≤ 1000
  fewS : t.shims.length ≤ 1000
  fewL : L ≤ 1000
  lr : ∀ l ∈ t.rows, l.length = L
  ls : ∀ l ∈ t.shims, l.length = L
  sr : ∀ l ∈ t.rows, ∀ x ∈ l, Sm n x
  ss : ∀ l ∈ t.shims, ∀ x ∈ l, Sm n x
  bd : 2 * n ≤ 8000
  b0 : t.bottom ≠ 0
  sb : Sm 9000 t.bottom
noncomputable def gTurn (C : Addr) : WFU := fun us M P => ∃ (t : Tb) (i p n L : Nat), us = [tabU C t, .d (.int i), .d (.int p)] ∧ TbOk n L t ∧ i < t.rows.length ∧ p < t.held.length ∧ p < L ∧ P (tabU C (turnT t i p)) M
noncomputable abbrev s_turned : Stmt := top 22
private theorem sc_turned : FnScope ["table", "number", "place", "incoming", "held", "rows", "shims"] ["table", "number", "place"] (defScope s_turned) := ⟨rfl, rfl, rfl, by decide +kernel, rfl, by decide +kernel, by decide +kernel⟩
private theorem h_turned {C fi : Addr} {fd : FuncData} (B : Bl mg) (F : Def K mg "turned" s_turned ["table", "number", "place"]) (TC : TabC P w K mg base C fi fd) (F_exchanged : Has P w K mg base CX0 1 "exchanged" ["line", "incoming", "place", "bottom"] (spW K (pur gEx))) :
    Has P w K mg base CX0 3 "turned" ["table", "number", "place"] (spU K (gTurn C)) := by
  refine F.hasU sc_turned (fun us M P h => by obtain ⟨_, _, _, _, _, rfl, _⟩ := h; rfl) fun f cdv A outer s H E hr => ?_
  have nd := sc_turned.nd
  refine ⟨_, (jss_cons (js_set (i := 3) nd rfl (Or.inr rfl) (j_at (j_fld TC.cl TC.na_rows fa_rows (ju_v 0)) (jv 1)))
    (jss_cons (js_setN (i := 4) nd rfl (Or.inl rfl) (jn_list rfl B.list (ja_cons (j_fld TC.cl TC.na_held fa_held (ju_v 0)) ja_nil)))
    (jss_cons (js_setIxW 4 (jv 1) (jv 2))
    (jss_cons (js_setC (k := 5) nd rfl (Or.inl rfl) ["line", "incoming", "place", "table"] [none, some 3, some 2, some 0] ⟨rfl, by decide +kernel, by decide +kernel, rfl, rfl, free_of rfl⟩ rfl (ji_list (j_fld TC.cl TC.na_rows fa_rows (ju_v 0))) (fun _ _ _ _ _ => (jg_name (i := 0) (show List.Nodup [("line" : Str), ("incoming" : Str), ("place" : Str), ("table" : Str)] by decide +kernel) rfl (Or.inl rfl))) (fun _ _ _ _ _ => jc_nil) (fun _ _ _ _ _ => (j_h F_exchanged (hr.mono (by decide)) rfl (ja_cons (jv 0) (ja_cons (jv 1) (ja_cons (jv 2) (ja_cons (j_fld TC.cl TC.na_bottom fa_bottom (ju_v 3)) ja_nil)))))))
    (jss_cons (js_setC (k := 6) nd rfl (Or.inl rfl) ["line", "incoming", "place", "table"] [none, some 3, some 2, some 0] ⟨rfl, by decide +kernel, by decide +kernel, rfl, rfl, free_of rfl⟩ rfl (ji_list (j_fld TC.cl TC.na_shims fa_shims (ju_v 0))) (fun _ _ _ _ _ => (jg_name (i := 0) (show List.Nodup [("line" : Str), ("incoming" : Str), ("place" : Str), ("table" : Str)] by decide +kernel) rfl (Or.inl rfl))) (fun _ _ _ _ _ => jc_nil) (fun _ _ _ _ _ => (j_h F_exchanged (hr.mono (by decide)) rfl (ja_cons (jv 0) (ja_cons (jv 1) (ja_cons (jv 2) (ja_cons (j_fld TC.cl TC.na_bottom fa_bottom (ju_v 3)) ja_nil)))))))
    (jss_one (js_retU (ju_make TC.made TC.init (hr.mono (by decide)) rfl TC.m TC.bd (ja_cons (jv 4) (ja_cons (j_abs rfl B.abs (ja_cons (j_atV 3 (jv 2)) ja_nil)) (ja_cons (jv 5) (ja_cons (j_fld TC.cl TC.na_scales fa_scales (ju_v 0)) (ja_cons (jv 6) ja_nil))))))))))))), ?_⟩
  rintro us M Q ⟨t, i, p, n, L, rfl, ok, hi, hp, pL, k⟩
  have fewR := ok.fewR
  have fewS := ok.fewS
  obtain ⟨y, hy⟩ : ∃ y, t.rows[i]? = some y := ⟨_, List.getElem?_eq_getElem hi⟩
  have my := List.mem_of_getElem? hy
  have ly := ok.lr y my
  have gy : t.rows.getD i [] = y := by simp [hy]
  have exok : ∀ l, l.length = L → (∀ x ∈ l, Sm n x) → ExOk n l y p t.bottom := fun l h1 h2 => ⟨by rw [h1, ly], by rw [h1]; exact ok.fewL, by rw [h1]; exact pL, h2, ok.sr y my, ok.bd, ok.b0, ok.sb⟩
  obtain ⟨z, hz⟩ : ∃ z, y[p]? = some z := ⟨_, List.getElem?_eq_getElem (by omega)⟩
  have ez := getD_of hz
  refine ⟨rfl, rfl, rfl, RIx.get (d := lineD y) (by rw [List.getElem?_map, hy]; rfl) ⟨rfl, rfl, rfl, trivial, ?_⟩⟩
  show match ixN t.held.length (p : Int) with | some n => _ | none => False
  rw [ixN_ok hp]
  refine ⟨rfl, rfl, rfl, fun j out ρ M' => M' = M ∧ out = (t.rows.take j).map (fun l => lineD (exL y p t.bottom l)) ∧ ∃ o, ρ = [o, .sh (lineD y), .sh (.int p), .ut (tabU C t)], ⟨rfl, rfl, _, rfl⟩, ?_, ?_⟩
  · rintro j d out ρ M' hd ⟨rfl, rfl, o, rfl⟩
    obtain ⟨l, hl, rfl⟩ := map_get hd
    have hj := (List.getElem?_eq_some_iff.mp hl).1
    have ml := List.mem_of_getElem? hl
    exact ⟨rfl, rfl, rfl, l, y, p, t.bottom, n, rfl, exok l (ok.lr l ml) (ok.sr l ml), take_small (by omega), rfl, take_map' (f := fun l => lineD (exL y p t.bottom l)) hl, .sh (lineD l), rfl⟩
  rintro out ρ M' ⟨rfl, rfl, o, rfl⟩
  refine ⟨rfl, rfl, rfl, fun j out ρ M2 => M2 = M' ∧ out = (t.shims.take j).map (fun l => lineD (exL y p t.bottom l)) ∧ ∃ o, ρ = [o, .sh (lineD y), .sh (.int p), .ut (tabU C t)], ⟨rfl, rfl, _, rfl⟩, ?_, ?_⟩
  · rintro j d out ρ M2 hd ⟨rfl, rfl, o, rfl⟩
    obtain ⟨l, hl, rfl⟩ := map_get hd
    have hj := (List.getElem?_eq_some_iff.mp hl).1
    have ml := List.mem_of_getElem? hl
    exact ⟨rfl, rfl, rfl, l, y, p, t.bottom, n, rfl, exok l (ok.ls l ml) (ok.ss l ml), take_small (by omega), rfl, take_map' (f := fun l => lineD (exL y p t.bottom l)) hl, .sh (lineD l), rfl⟩
  rintro out ρ M2 ⟨rfl, rfl, o, rfl⟩
  refine RIx.get (d := .int z) (by rw [List.getElem?_map, hz]; rfl) ⟨rfl, rfl, rfl, rfl, _, Sub.refl _, ?_⟩
  unfold turnT at k
  rw [gy, ez] at k
  unfold tabU at k
  rw [List.map_map, List.map_map] at k
  rw [List.length_map, List.take_length, List.length_map, List.take_length]
  exact k

/-! ### the first row below 0 -/
noncomputable def lastI (l : List Int) : Int := l.getLastD 0
private theorem at_lastI {l : List Int} (h : l ≠ []) : atI (l.map D.int) (-1) = some (.int (lastI l)) := by
  have e : l = l.dropLast ++ [l.getLast h] := (List.dropLast_concat_getLast h).symm
  have e2 : lastI l = l.getLast h := by unfold lastI; rw [List.getLastD_eq_getLast?, List.getLast?_eq_some_getLast h]; rfl
  rw [e2]
  conv => lhs; rw [e, List.map_append]
  exact at_last
noncomputable def BrkIs (rows : List (List Int)) (r : D) : Prop := (r = .non ∧ ∀ l ∈ rows, 0 ≤ lastI l) ∨ ∃ (i : Nat) (l : List Int), r = .int i ∧ rows[i]? = some l ∧ lastI l < 0 ∧ ∀ (j : Nat) (l' : List Int), j < i → rows[j]? = some l' → 0 ≤ lastI l'
noncomputable def gFB (C : Addr) : WFU := fun us M P => ∃ t : Tb, us = [tabU C t] ∧ (∀ l ∈ t.rows, l ≠ []) ∧ ∀ r, BrkIs t.rows r → P (.d r) M
noncomputable abbrev s_first_broken : Stmt := top 24
private theorem sc_first_broken : FnScope ["table", "number", "line"] ["table"] (defScope s_first_broken) := ⟨rfl, rfl, rfl, by decide +kernel, rfl, by decide +kernel, by decide +kernel⟩
private theorem h_first_broken {C fi : Addr} {fd : FuncData} (B : Bl2 mg) (F : Def K mg "first_broken" s_first_broken ["table"]) (TC : TabC P w K mg base C fi fd) : Has P w K mg base CX0 1 "first_broken" ["table"] (spU K (gFB C)) := by
  refine F.hasU sc_first_broken (fun us M P h => by obtain ⟨_, rfl, _⟩ := h; rfl) fun f cdv A outer s H E hr => ?_
  have nd := sc_first_broken.nd
  refine ⟨_, (jss_cons (js_for PassesOwn.never rfl (ji_enu rfl B.enumerate (ja_cons (j_fld TC.cl TC.na_rows fa_rows (ju_v 0)) ja_nil)) (jg_tup (n := 2) rfl (jgs_cons (jg_name (i := 1) nd rfl (Or.inl rfl)) (jgs_cons (jg_name (i := 2) nd rfl (Or.inl rfl)) jgs_nil)))
    (jss_one (js_if (jt_lt (j_atV 2 (j_neg j_int)) j_int) (jss_one (js_ret (jv 1))) jss_nil)))
    (jss_one (js_ret j_non))), ?_⟩
  rintro us M Q ⟨t, rfl, ne, k⟩
  refine ⟨rfl, rfl, rfl, fun i ρ M' => M' = M ∧ (∀ (j : Nat) (l : List Int), j < i → t.rows[j]? = some l → 0 ≤ lastI l) ∧ ∃ o1 o2, ρ = [.ut (tabU C t), o1, o2], ⟨rfl, fun j l h => by omega, _, _, rfl⟩, ?_, ?_⟩
  · rintro i d ρ M' hd ⟨rfl, below, o1, o2, rfl⟩
    obtain ⟨x, hx, rfl⟩ := enuD_get hd
    obtain ⟨l, hl, rfl⟩ := map_get hx
    have e := at_lastI (ne l (List.mem_of_getElem? hl))
    refine ⟨rfl, ?_⟩
    show match atI (l.map D.int) (-1) with | some d => _ | none => False
    rw [e]
    show if decide (lastI l < 0) = true then _ else _
    refine iteB (fun c => ?_) (fun c => ?_)
    · refine ⟨_, Sub.refl _, k _ (.inr ⟨i, l, by rw [Nat.zero_add], hl, by simpa using c, below⟩)⟩
    · refine ⟨rfl, fun j l' hj h => ?_, .sh (.int (0 + i : Nat)), .sh (lineD l), rfl⟩
      by_cases z : j = i
      · subst z; rw [hl] at h; cases h
        have : ¬ lastI l < 0 := by simpa using c
        omega
      · exact below j l' (by omega) h
  · rintro ρ M' ⟨rfl, below, o1, o2, rfl⟩
    rw [enuD_len, List.length_map] at below
    refine ⟨_, Sub.refl _, k _ (.inl ⟨rfl, fun l hl => ?_⟩)⟩
    obtain ⟨j, hj⟩ := List.mem_iff_getElem?.mp hl
    exact below j l (List.getElem?_eq_some_iff.mp hj).1 hj
/-! ### the place that lifts a row -/
noncomputable def LiftIs (hs l : List Int) (r : D) : Prop := (r = .non ∧ ∀ (p : Nat) (x : Int), p < hs.length → l[p]? = some x → x ≤ 0) ∨ ∃ (p : Nat) (x h : Int), r = .int p ∧ l[p]? = some x ∧ 0 < x ∧ hs[p]? = some h ∧ ∀ (p' : Nat) (x' h' : Int), l[p']? = some x' → 0 < x' → hs[p']? = some h' → h ≤ h'
noncomputable def gLift (C P0 : Addr) : WFU := fun us M P => ∃ (t : Tb) (i : Nat) (l hs : List Int), us = [tabU C t, .d (.int i)] ∧ t.rows[i]? = some l ∧ t.held = hs.map D.int ∧ hs.length ≤ l.length ∧ hs.length ≤ 1000 ∧ M P0 = some (.tab lamP lamQ) ∧ ∀ r, LiftIs hs l r → P (.d r) M
private theorem filt_snoc {l : List Int} {i : Nat} : ((List.range (i + 1)).filter fun p => decide (0 < l.getD p 0)) = ((List.range i).filter fun p => decide (0 < l.getD p 0)) ++ (if 0 < l.getD i 0 then [i] else []) := by
  rw [List.range_succ, List.filter_append]
  congr 1
  by_cases h : 0 < l.getD i 0
  · rw [if_pos h, List.filter_cons_of_pos (by simpa using h)]; rfl
  · rw [if_neg h, List.filter_cons_of_neg (by simpa using h)]; rfl
noncomputable abbrev s_lifting_place : Stmt := top 25
private theorem sc_lifting_place : FnScope ["table", "number", "line"] ["table", "number"] (defScope s_lifting_place) := ⟨rfl, rfl, rfl, by decide +kernel, rfl, by decide +kernel, by decide +kernel⟩
private theorem h_lifting_place {C fi P0 : Addr} {fd : FuncData} (B : Bl mg) (F : Def K mg "lifting_place" s_lifting_place ["table", "number"]) (TC : TabC P w K mg base C fi fd) (F_first_held : Has P w K mg base CX0 4 "first_held" ["table", "places"] (spU K (gFH C P0))) :
    Has P w K mg base CX0 5 "lifting_place" ["table", "number"] (spU K (gLift C P0)) := by
  refine F.hasU sc_lifting_place (fun us M P h => by obtain ⟨_, _, _, _, rfl, _⟩ := h; rfl) fun f cdv A outer s H E hr => ?_
  have nd := sc_lifting_place.nd
  refine ⟨_, (jss_cons (js_set (i := 2) nd rfl (Or.inr rfl) (j_at (j_fld TC.cl TC.na_rows fa_rows (ju_v 0)) (jv 1)))
    (jss_one (js_ret (je_u (ju_h F_first_held (hr.mono (by decide)) rfl (jua_cons (ju_v 0) (jua_cons (ju_d (j_fz (jn_lc ["place", "line"] [none, some 2] ⟨rfl, by decide +kernel, by decide +kernel, rfl, rfl, free_of rfl⟩ rfl (ji_rng1 rfl B.range (ja_cons (j_len rfl B.len (ja_cons (j_fld TC.cl TC.na_held fa_held (ju_v 0)) ja_nil)) ja_nil)) (fun _ _ _ _ _ => (jg_name (i := 0) (show List.Nodup [("place" : Str), ("line" : Str)] by decide +kernel) rfl (Or.inl rfl))) (fun _ _ _ _ _ => (jc_one (jt_gt (j_atV 1 (jv 0)) j_int))) (fun _ _ _ _ _ => (jv 0))))) jua_nil))))))), ?_⟩
  rintro us M Q ⟨t, i, l, hs, rfl, hl, hh, hn, h1000, hM, k⟩
  have lh : t.held.length = hs.length := by rw [hh, List.length_map]
  refine ⟨rfl, rfl, rfl, RIx.get (d := lineD l) (by rw [List.getElem?_map, hl]; rfl) ⟨rfl, rfl, rfl, ⟨by omega, by omega⟩, ?_⟩⟩
  refine ⟨fun j out ρ M' => M' = M ∧ out = ((List.range j).filter fun p => decide (0 < l.getD p 0)).map (fun p => D.int (p : Nat)) ∧ ∃ o, ρ = [o, .sh (lineD l)], ⟨rfl, rfl, _, rfl⟩, ?_, ?_⟩
  · rintro j d out ρ M' hd ⟨rfl, rfl, o, rfl⟩
    obtain ⟨rfl, hj⟩ := rng_get0 hd
    rw [Int.toNat_natCast, lh] at hj
    obtain ⟨x, hx⟩ : ∃ x, l[j]? = some x := ⟨_, List.getElem?_eq_getElem (by omega)⟩
    have ex := getD_of hx
    refine RIx.get (d := .int x) (by rw [List.getElem?_map, hx]; rfl) ?_
    show if decide (0 < x) = true then _ else _
    have lf : (((List.range j).filter fun p => decide (0 < l.getD p 0)).map (fun p => D.int (p : Nat))).length ≤ j := by
      rw [List.length_map]
      have := List.length_filter_le (fun p => decide (0 < l.getD p 0)) (List.range j)
      rw [List.length_range] at this
      exact this
    refine iteB (fun c => ?_) (fun c => ?_)
    · have c : 0 < x := by simpa using c
      refine ⟨Nat.lt_of_le_of_lt lf (small1000 (by omega)), rfl, ?_, .sh (.int j), rfl⟩
      rw [filt_snoc, ex, if_pos c, List.map_append]; rfl
    · have c : ¬ 0 < x := by simpa using c
      refine ⟨rfl, ?_, .sh (.int j), rfl⟩
      rw [filt_snoc, ex, if_neg c, List.append_nil]
  · rintro out ρ M' ⟨rfl, rfl, o, rfl⟩
    rw [rng_len, Int.toNat_natCast, lh]
    generalize hps : ((List.range hs.length).filter fun p => decide (0 < l.getD p 0)) = ps
    have mem : ∀ p, p ∈ ps ↔ p < hs.length ∧ 0 < l.getD p 0 := fun p => by rw [← hps, List.mem_filter, List.mem_range]; simp
    refine ⟨t, _, fun j => hs.getD (ps.getD j 0) 0, rfl, hM, fun j d hd => ?_, fun r hr => ⟨_, Sub.refl _, k r ?_⟩⟩
    · rw [List.getElem?_map, Option.map_eq_some_iff] at hd
      obtain ⟨p, hp, rfl⟩ := hd
      obtain ⟨h1, h2⟩ := (mem p).mp (List.mem_of_getElem? hp)
      refine ⟨p, rfl, ?_⟩
      have e : ps.getD j 0 = p := by simp [hp]
      show _ = some (D.int (hs.getD (ps.getD j 0) 0))
      rw [e, hh]
      apply at_nat
      rw [List.getElem?_map, List.getElem?_eq_getElem h1]
      simp [h1]
    · rcases hr with ⟨h1, rfl⟩ | ⟨j, h1, h2⟩
      · refine .inl ⟨rfl, fun p x hp hx => ?_⟩
        have e : ps = [] := by simpa using h1
        apply Classical.byContradiction
        intro z
        have : p ∈ ps := (mem p).mpr ⟨hp, by rw [getD_of hx]; omega⟩
        rw [e] at this; cases this
      · rw [List.getElem?_map, Option.map_eq_some_iff] at h1
        obtain ⟨p, hp, rfl⟩ := h1
        obtain ⟨m1, m2⟩ := (mem p).mp (List.mem_of_getElem? hp)
        have hx : l[p]? = some (l.getD p 0) := by
          rw [List.getElem?_eq_getElem (show p < l.length by omega)]; simp [show p < l.length by omega]
        have hh2 : hs[p]? = some (hs.getD p 0) := by rw [List.getElem?_eq_getElem m1]; simp [m1]
        refine .inr ⟨p, _, _, rfl, hx, m2, hh2, fun p' x' h' e1 e2 e3 => ?_⟩
        have mp' : p' ∈ ps := (mem p').mpr ⟨(List.getElem?_eq_some_iff.mp e3).1, by rw [getD_of e1]; exact e2⟩
        obtain ⟨j', hj'⟩ := List.mem_iff_getElem?.mp mp'
        have := (h2 j' (by rw [List.length_map]; exact (List.getElem?_eq_some_iff.mp hj').1)).1
        have ee : ps.getD j 0 = p := by simp [hp]
        have ee' : ps.getD j' 0 = p' := by simp [hj']
        dsimp only at this
        rw [ee, ee', getD_of e3] at this
        exact this

/-! ### tables of up to three shims: rows as four whole numbers (what stands ahead of each shim, and the rest) -/
structure V4 where
  x : Int
  y : Int
  z : Int
  e : Int
noncomputable def det3 (a b c : V4) : Int := a.x * (b.y * c.z - b.z * c.y) - a.y * (b.x * c.z - b.z * c.x) + a.z * (b.x * c.y - b.y * c.x)
noncomputable abbrev H3 := Nat → V4
noncomputable def hset (H : H3) (p : Nat) (v : V4) : H3 := fun q => if q = p then v else H q
noncomputable def dt (H : H3) : Int := det3 (H 0) (H 1) (H 2)
noncomputable def ent (H : H3) (q : Nat) (v : V4) : Int := dt (hset H q v)
noncomputable def lst (H : H3) (v : V4) : Int := dt H * v.e - (ent H 0 v * (H 0).e + ent H 1 v * (H 1).e + ent H 2 v * (H 2).e)
private theorem cra (a b c v : V4) : det3 v b c * a.x + det3 a v c * b.x + det3 a b v * c.x = det3 a b c * v.x ∧ det3 v b c * a.y + det3 a v c * b.y + det3 a b v * c.y = det3 a b c * v.y ∧ det3 v b c * a.z + det3 a v c * b.z + det3 a b v * c.z = det3 a b c * v.z := by
  unfold det3; exact ⟨by grind, by grind, by grind⟩
private theorem pl1 (a b c v w : V4) : det3 w v c * det3 a b c = det3 a v c * det3 w b c - det3 v b c * det3 a w c := by unfold det3; grind
private theorem pl2 (a b c v w : V4) : det3 w b v * det3 a b c = det3 a b v * det3 w b c - det3 v b c * det3 a b w := by unfold det3; grind
private theorem pl3 (a b c v w : V4) : det3 a w v * det3 a b c = det3 a b v * det3 a w c - det3 a v c * det3 a b w := by unfold det3; grind
private theorem d3_01 (a c : V4) : det3 a a c = 0 := by unfold det3; grind
private theorem d3_02 (a c : V4) : det3 a c a = 0 := by unfold det3; grind
private theorem d3_12 (a c : V4) : det3 c a a = 0 := by unfold det3; grind
private theorem three {q : Nat} (h : q < 3) : q = 0 ∨ q = 1 ∨ q = 2 := by omega
private theorem ent_set {H : H3} {p : Nat} {v w : V4} : ent (hset H p w) p v = ent H p v := by
  unfold ent
  have : hset (hset H p w) p v = hset H p v := by
    funext q
    unfold hset
    by_cases z : q = p
    · rw [if_pos z, if_pos z]
    · rw [if_neg z, if_neg z, if_neg z]
  rw [this]
private theorem ent_turn {H : H3} {p q : Nat} {v w : V4} (hp : p < 3) (hq : q < 3) (ne : q ≠ p) : ent (hset H p w) q v * dt H = ent H q v * ent H p w - ent H p v * ent H q w := by
  rcases three hp with rfl | rfl | rfl <;> rcases three hq with rfl | rfl | rfl <;> first | exact absurd rfl ne | skip
  · exact pl1 (H 0) (H 1) (H 2) v w
  · exact pl2 (H 0) (H 1) (H 2) v w
  · show det3 v w (H 2) * det3 (H 0) (H 1) (H 2) = det3 v (H 1) (H 2) * det3 (H 0) w (H 2) - det3 (H 0) v (H 2) * det3 w (H 1) (H 2)
    rw [pl1 (H 0) (H 1) (H 2) w v]; grind
  · exact pl3 (H 0) (H 1) (H 2) v w
  · show det3 v (H 1) w * det3 (H 0) (H 1) (H 2) = det3 v (H 1) (H 2) * det3 (H 0) (H 1) w - det3 (H 0) (H 1) v * det3 w (H 1) (H 2)
    rw [pl2 (H 0) (H 1) (H 2) w v]; grind
  · show det3 (H 0) v w * det3 (H 0) (H 1) (H 2) = det3 (H 0) v (H 2) * det3 (H 0) (H 1) w - det3 (H 0) (H 1) v * det3 (H 0) w (H 2)
    rw [pl3 (H 0) (H 1) (H 2) w v]; grind
private theorem lst_turn {H : H3} {p : Nat} {v w : V4} (hp : p < 3) : lst (hset H p w) v * dt H = lst H v * ent H p w - ent H p v * lst H w := by
  unfold lst
  have e0 : ∀ q, q < 3 → q ≠ p → ent (hset H p w) q v * dt H = ent H q v * ent H p w - ent H p v * ent H q w := fun q hq ne => ent_turn hp hq ne
  have e1 : dt (hset H p w) = ent H p w := rfl
  have e2 := ent_set (H := H) (p := p) (v := v) (w := w)
  rcases three hp with rfl | rfl | rfl
  · have a1 := e0 1 (by decide) (by decide)
    have a2 := e0 2 (by decide) (by decide)
    rw [e2, e1]
    rw [show (hset H 0 w) 0 = w from rfl, show (hset H 0 w) 1 = H 1 from rfl, show (hset H 0 w) 2 = H 2 from rfl]
    generalize ent (hset H 0 w) 1 v = A at *
    generalize ent (hset H 0 w) 2 v = B at *
    grind
  · have a1 := e0 0 (by decide) (by decide)
    have a2 := e0 2 (by decide) (by decide)
    rw [e2, e1]
    rw [show (hset H 1 w) 0 = H 0 from rfl, show (hset H 1 w) 1 = w from rfl, show (hset H 1 w) 2 = H 2 from rfl]
    generalize ent (hset H 1 w) 0 v = A at *
    generalize ent (hset H 1 w) 2 v = B at *
    grind
  · have a1 := e0 0 (by decide) (by decide)
    have a2 := e0 1 (by decide) (by decide)
    rw [e2, e1]
    rw [show (hset H 2 w) 0 = H 0 from rfl, show (hset H 2 w) 1 = H 1 from rfl, show (hset H 2 w) 2 = w from rfl]
    generalize ent (hset H 2 w) 0 v = A at *
    generalize ent (hset H 2 w) 1 v = B at *
    grind
private theorem ent_self {H : H3} {q : Nat} : ent H q (H q) = dt H := by
  unfold ent
  have : hset H q (H q) = H := by
    funext k
    unfold hset
    by_cases z : k = q
    · rw [if_pos z, z]
    · rw [if_neg z]
  rw [this]
private theorem ent_ne {H : H3} {p q : Nat} (hp : p < 3) (hq : q < 3) (ne : p ≠ q) : ent H p (H q) = 0 := by
  rcases three hp with rfl | rfl | rfl <;> rcases three hq with rfl | rfl | rfl <;> first | exact absurd rfl ne | skip
  · exact d3_01 _ _
  · exact d3_02 _ _
  · exact d3_01 _ _
  · exact d3_12 _ _
  · exact d3_02 _ _
  · exact d3_12 _ _
private theorem dt_ne {H : H3} {p q : Nat} (hp : p < 3) (hq : q < 3) (ne : p ≠ q) (e : H p = H q) : dt H = 0 := by
  rw [← ent_self (q := p), e, ent_ne hp hq ne]
private theorem lst_self {H : H3} {q : Nat} (hq : q < 3) : lst H (H q) = 0 := by
  unfold lst
  rcases three hq with rfl | rfl | rfl
  · rw [ent_self, ent_ne (p := 1) (q := 0) (by decide) (by decide) (by decide), ent_ne (p := 2) (q := 0) (by decide) (by decide) (by decide)]; grind
  · rw [ent_self, ent_ne (p := 0) (q := 1) (by decide) (by decide) (by decide), ent_ne (p := 2) (q := 1) (by decide) (by decide) (by decide)]; grind
  · rw [ent_self, ent_ne (p := 0) (q := 2) (by decide) (by decide) (by decide), ent_ne (p := 1) (q := 2) (by decide) (by decide) (by decide)]; grind
noncomputable def uv : Nat → V4
  | 0 => ⟨1, 0, 0, 0⟩
  | 1 => ⟨0, 1, 0, 0⟩
  | _ => ⟨0, 0, 1, 0⟩
private theorem lst_lin (H : H3) (v : V4) : lst H v = v.x * lst H (uv 0) + v.y * lst H (uv 1) + v.z * lst H (uv 2) + dt H * v.e := by
  have l0 : ∀ u : V4, ent H 0 u = det3 u (H 1) (H 2) := fun _ => rfl
  have l1 : ∀ u : V4, ent H 1 u = det3 (H 0) u (H 2) := fun _ => rfl
  have l2 : ∀ u : V4, ent H 2 u = det3 (H 0) (H 1) u := fun _ => rfl
  have k : ∀ a b c v : V4, det3 v b c = v.x * det3 (uv 0) b c + v.y * det3 (uv 1) b c + v.z * det3 (uv 2) b c ∧ det3 a v c = v.x * det3 a (uv 0) c + v.y * det3 a (uv 1) c + v.z * det3 a (uv 2) c ∧ det3 a b v = v.x * det3 a b (uv 0) + v.y * det3 a b (uv 1) + v.z * det3 a b (uv 2) := by
    intro a b c v
    unfold det3 uv
    exact ⟨by grind, by grind, by grind⟩
  obtain ⟨k0, k1, k2⟩ := k (H 0) (H 1) (H 2) v
  unfold lst
  rw [l0, l1, l2, l0, l1, l2, l0, l1, l2, l0, l1, l2, k0, k1, k2]
  show _ = v.x * (dt H * 0 - _) + v.y * (dt H * 0 - _) + v.z * (dt H * 0 - _) + _
  grind
private theorem lst_two (A B : H3) (v : V4) : dt B * lst A v = ent B 0 v * lst A (B 0) + ent B 1 v * lst A (B 1) + ent B 2 v * lst A (B 2) + dt A * lst B v := by
  rw [lst_lin A v, lst_lin A (B 0), lst_lin A (B 1), lst_lin A (B 2)]
  have l : lst B v = dt B * v.e - (ent B 0 v * (B 0).e + ent B 1 v * (B 1).e + ent B 2 v * (B 2).e) := rfl
  rw [l]
  obtain ⟨c0, c1, c2⟩ := cra (B 0) (B 1) (B 2) v
  rw [show det3 v (B 1) (B 2) = ent B 0 v from rfl, show det3 (B 0) v (B 2) = ent B 1 v from rfl, show det3 (B 0) (B 1) v = ent B 2 v from rfl, show det3 (B 0) (B 1) (B 2) = dt B from rfl] at c0 c1 c2
  generalize lst A (uv 0) = X0 at *
  generalize lst A (uv 1) = X1 at *
  generalize lst A (uv 2) = X2 at *
  generalize ent B 0 v = E0 at *
  generalize ent B 1 v = E1 at *
  generalize ent B 2 v = E2 at *
  grind

/-! ### turning comes to an end: always the first row below 0 comes in, the first held row that lifts it goes out -/
noncomputable def Hh (R : List V4) (hs : List Nat) : H3 := fun q => match hs[q]? with | some j => R.getD j (uv q) | none => uv q
noncomputable def sg (d : Int) : Int := if d < 0 then -1 else 1
noncomputable def tQ (R : List V4) (hs : List Nat) (q : Nat) (v : V4) : Int := sg (dt (Hh R hs)) * ent (Hh R hs) q v
noncomputable def tL (R : List V4) (hs : List Nat) (v : V4) : Int := sg (dt (Hh R hs)) * lst (Hh R hs) v
noncomputable def tB (R : List V4) (hs : List Nat) : Int := sg (dt (Hh R hs)) * dt (Hh R hs)
private theorem sg_sq (d : Int) : sg d * sg d = 1 := by unfold sg; split <;> rfl
private theorem Hh_of {R : List V4} {hs : List Nat} {q j : Nat} {v : V4} (h : hs[q]? = some j) (hv : R[j]? = some v) : Hh R hs q = v := by
  unfold Hh
  rw [h]
  simp [hv]
private theorem Hh_none {R : List V4} {hs : List Nat} {q : Nat} (h : hs.length ≤ q) : Hh R hs q = uv q := by
  unfold Hh
  rw [List.getElem?_eq_none h]
private theorem Hh_same {R : List V4} {hs ks : List Nat} {q : Nat} (h : hs[q]? = ks[q]?) : Hh R hs q = Hh R ks q := by
  unfold Hh; rw [h]
private theorem Hh_set {R : List V4} {hs : List Nat} {p j : Nat} {v : V4} (hp : p < hs.length) (hv : R[j]? = some v) : Hh R (hs.set p j) = hset (Hh R hs) p v := by
  funext q
  unfold hset
  by_cases z : q = p
  · subst z
    rw [if_pos rfl]
    exact Hh_of (List.getElem?_set_self hp) hv
  · rw [if_neg z]
    exact Hh_same (List.getElem?_set_ne (Ne.symm z))
private theorem tL_held {R : List V4} {hs : List Nat} {q : Nat} (hq : q < 3) : tL R hs (Hh R hs q) = 0 := by
  unfold tL; rw [lst_self hq, Int.mul_zero]
private theorem tL_at {R : List V4} {hs : List Nat} {q j : Nat} {v : V4} (hq : q < 3) (h : hs[q]? = some j) (hv : R[j]? = some v) : tL R hs v = 0 := by
  rw [← Hh_of h hv]; exact tL_held hq
private theorem t_two (R : List V4) (a b : List Nat) (v : V4) : tB R b * tL R a v = tQ R b 0 v * tL R a (Hh R b 0) + tQ R b 1 v * tL R a (Hh R b 1) + tQ R b 2 v * tL R a (Hh R b 2) + tB R a * tL R b v := by
  unfold tB tL tQ
  have e := lst_two (Hh R a) (Hh R b) v
  generalize sg (dt (Hh R a)) = s at *
  generalize sg (dt (Hh R b)) = u at *
  have : u * dt (Hh R b) * (s * lst (Hh R a) v) = (u * s) * (dt (Hh R b) * lst (Hh R a) v) := by grind
  rw [this, e]
  grind
structure Good (R : List V4) (s : Nat) (hs : List Nat) : Prop where
  len : hs.length = s
  at_ : ∀ h ∈ hs, h < R.length
  pos : 0 < tB R hs
private theorem Good.inj {R : List V4} {s : Nat} {hs : List Nat} (g : Good R s hs) (hs3 : s ≤ 3) {p q j : Nat} (hp : hs[p]? = some j) (hq : hs[q]? = some j) : p = q := by
  apply Classical.byContradiction
  intro ne
  have l1 := (List.getElem?_eq_some_iff.mp hp).1
  have l2 := (List.getElem?_eq_some_iff.mp hq).1
  have len := g.len
  have hj := g.at_ j (List.mem_of_getElem? hp)
  have hv : R[j]? = some (R[j]'hj) := List.getElem?_eq_getElem hj
  have z := dt_ne (H := Hh R hs) (p := p) (q := q) (by omega) (by omega) ne (by rw [Hh_of hp hv, Hh_of hq hv])
  have := g.pos
  unfold tB at this
  rw [z, Int.mul_zero] at this
  omega
structure StepD (R : List V4) (hs : List Nat) (r p h0 : Nat) (w : V4) : Prop where
  hr : R[r]? = some w
  hp : hs[p]? = some h0
  neg : tL R hs w < 0
  first : ∀ (j : Nat) (v : V4), j < r → R[j]? = some v → 0 ≤ tL R hs v
  lift : 0 < tQ R hs p w
  least : ∀ q h : Nat, hs[q]? = some h → h < h0 → tQ R hs q w ≤ 0
noncomputable def Step (R : List V4) (hs ks : List Nat) : Prop := ∃ r p h0 w, StepD R hs r p h0 w ∧ ks = hs.set p r
private theorem max_of {P : Nat → Prop} : ∀ (n : Nat), (∃ r, P r) → (∀ r, P r → r < n) → ∃ t, P t ∧ ∀ r, P r → r ≤ t := by
  intro n
  induction n with
  | zero => intro ⟨r, h⟩ hb; exact absurd (hb r h) (by omega)
  | succ n ih =>
    intro he hb
    by_cases c : P n
    · exact ⟨n, c, fun r h => by have := hb r h; omega⟩
    · refine ih he fun r h => ?_
      have := hb r h
      have : r ≠ n := fun z => c (z ▸ h)
      omega
private theorem no_round {R : List V4} {s n : Nat} {f : Nat → List Nat} (hs3 : s ≤ 3) (n0 : 0 < n) (rd : f n = f 0) (st : ∀ k, k < n → Good R s (f k) ∧ Step R (f k) (f (k + 1))) : False := by
  obtain ⟨t, ⟨a, a1, pa, ha, wa, da⟩, tmax⟩ := max_of (P := fun r => ∃ k, k < n ∧ ∃ p h0 w, StepD R (f k) r p h0 w ∧ f (k + 1) = (f k).set p r) R.length
    (by obtain ⟨_, r, p, h0, w, d, e⟩ := st 0 n0; exact ⟨r, 0, n0, p, h0, w, d, e⟩)
    (by rintro r ⟨k, _, p, h0, w, d, _⟩; exact (List.getElem?_eq_some_iff.mp d.hr).1)
  obtain ⟨da, ea⟩ := da
  have len : ∀ k, k ≤ n → (f k).length = s := by
    intro k hk
    rcases Nat.lt_or_ge k n with h | h
    · exact (st k h).1.len
    · have : k = n := by omega
      subst this
      rw [rd]; exact (st 0 n0).1.len
  -- a step changes one place, and what comes in is not above t
  have chg : ∀ (k q : Nat), k < n → (f (k + 1))[q]? = (f k)[q]? ∨ ∃ r, (f (k + 1))[q]? = some r ∧ r ≤ t := by
    intro k q hk
    obtain ⟨g, r, p, h0, w, d, e⟩ := st k hk
    rw [e]
    by_cases z : p = q
    · subst z
      exact .inr ⟨r, List.getElem?_set_self (List.getElem?_eq_some_iff.mp d.hp).1, tmax r ⟨k, hk, p, h0, w, d, e⟩⟩
    · exact .inl (List.getElem?_set_ne z)
  have keep : ∀ q : Nat, (∀ k, k ≤ n → (f k)[q]? = (f 0)[q]?) ∨ (∀ k, k ≤ n → ∀ h, (f k)[q]? = some h → h ≤ t) := by
    intro q
    by_cases c : ∀ k, k < n → (f (k + 1))[q]? = (f k)[q]?
    · refine .inl fun k => ?_
      induction k with
      | zero => intro _; rfl
      | succ k ih => intro hk; rw [c k (by omega)]; exact ih (by omega)
    · right
      have ⟨k0, hk0⟩ := Classical.not_forall.mp c
      have ⟨k1, ne⟩ := Classical.not_imp.mp hk0
      have up : ∀ k, k ≤ n → k0 < k → ∀ h, (f k)[q]? = some h → h ≤ t := by
        intro k
        induction k with
        | zero => intro _ h; omega
        | succ k ih =>
          intro h1 h2 h hh
          rcases chg k q (by omega) with z | ⟨r, z, le⟩
          · by_cases c2 : k = k0
            · subst c2; exact absurd z ne
            · rw [z] at hh; exact ih (by omega) (by omega) h hh
          · rw [z] at hh; cases hh; exact le
      have z0 : ∀ h, (f 0)[q]? = some h → h ≤ t := fun h hh => up n (Nat.le_refl _) k1 h (by rw [rd]; exact hh)
      intro k
      induction k with
      | zero => intro _; exact z0
      | succ k ih =>
        intro hk h hh
        rcases chg k q (by omega) with z | ⟨r, z, le⟩
        · rw [z] at hh; exact ih (by omega) h hh
        · rw [z] at hh; cases hh; exact le
  -- t goes out again
  have ga := (st a a1).1
  have lpa := (List.getElem?_eq_some_iff.mp da.hp).1
  have la := ga.len
  have nota : (f a)[pa]? ≠ some t := fun z => by
    have := tL_at (R := R) (by omega) z da.hr
    have := da.neg
    omega
  have ⟨b, hb⟩ : ∃ b, b < n ∧ (f b)[pa]? = some t ∧ (f (b + 1))[pa]? ≠ some t := by
    apply Classical.byContradiction
    intro c
    have c : ∀ b, b < n → (f b)[pa]? = some t → (f (b + 1))[pa]? = some t := fun b h1 h2 => Classical.byContradiction fun h3 => c ⟨b, h1, h2, h3⟩
    have up : ∀ k, a + 1 + k ≤ n → (f (a + 1 + k))[pa]? = some t := by
      intro k
      induction k with
      | zero => intro _; rw [Nat.add_zero, ea]; exact List.getElem?_set_self lpa
      | succ k ih => intro h; exact c (a + 1 + k) (by omega) (ih (by omega))
    have e := up (n - (a + 1)) (by omega)
    rw [show a + 1 + (n - (a + 1)) = n by omega, rd] at e
    have up2 : ∀ k, k ≤ a → (f k)[pa]? = some t := by
      intro k
      induction k with
      | zero => intro _; exact e
      | succ k ih => intro h; exact c k (by omega) (ih (by omega))
    exact nota (up2 a (Nat.le_refl _))
  obtain ⟨b1, bt, bn⟩ := hb
  obtain ⟨gb, r, p, h0, w, d, e⟩ := st b b1
  have ep : p = pa := Classical.byContradiction fun z => bn (by rw [e, List.getElem?_set_ne z]; exact bt)
  subst ep
  have eh : h0 = t := by have := d.hp; rw [bt] at this; cases this; rfl
  subst eh
  have rt := tmax r ⟨b, b1, p, h0, w, d, e⟩
  have lb := gb.len
  have rne : r ≠ h0 := fun z => by
    subst z
    have := tL_at (R := R) (by omega) bt d.hr
    have := d.neg
    omega
  have nn := da.first r w (by omega) d.hr
  have two := t_two R (f a) (f b) w
  have term : ∀ q, q < 3 → tQ R (f b) q w * tL R (f a) (Hh R (f b) q) ≤ 0 := by
    intro q hq
    rcases keep q with k | k
    · rw [Hh_same (show (f b)[q]? = (f a)[q]? by rw [k b (by omega), k a (by omega)]), tL_held hq, Int.mul_zero]
      exact Int.le_refl _
    · cases hh : (f b)[q]? with
      | none =>
        have l1 : (f b).length ≤ q := List.getElem?_eq_none_iff.mp hh
        have : (f a)[q]? = (f b)[q]? := by rw [hh]; exact List.getElem?_eq_none (by omega)
        rw [← Hh_same this, tL_held hq, Int.mul_zero]
        exact Int.le_refl _
      | some h =>
        have hle := k b (by omega) h hh
        have hj := gb.at_ h (List.mem_of_getElem? hh)
        have hv : R[h]? = some (R[h]'hj) := List.getElem?_eq_getElem hj
        rw [Hh_of hh hv]
        by_cases z : h = h0
        · subst z
          have := gb.inj hs3 hh bt
          subst this
          rw [da.hr] at hv
          cases hv
          exact Int.le_of_lt (Int.mul_neg_of_pos_of_neg d.lift da.neg)
        · exact Int.mul_nonpos_of_nonpos_of_nonneg (d.least q h hh (by omega)) (da.first h _ (by omega) hv)
  have last : tB R (f a) * tL R (f b) w < 0 := Int.mul_neg_of_pos_of_neg ga.pos d.neg
  have all : 0 ≤ tB R (f b) * tL R (f a) w := Int.mul_nonneg (Int.le_of_lt gb.pos) nn
  have t0 := term 0 (by decide)
  have t1 := term 1 (by decide)
  have t2 := term 2 (by decide)
  omega
private theorem countP_less {α : Type} {p q : α → Bool} : ∀ {l : List α} {x : α}, (∀ y ∈ l, p y = true → q y = true) → x ∈ l → q x = true → p x = false → l.countP p < l.countP q
  | [], x, _, h, _, _ => by cases h
  | a :: l, x, hi, hx, h1, h2 => by
    have le : l.countP p ≤ l.countP q := List.countP_mono_left fun y hy => hi y (.tail _ hy)
    rcases List.mem_cons.mp hx with rfl | hx
    · rw [List.countP_cons_of_pos h1, List.countP_cons_of_neg (by rw [h2]; simp)]; omega
    · have := countP_less (fun y hy => hi y (.tail _ hy)) hx h1 h2
      by_cases z : p a = true
      · rw [List.countP_cons_of_pos z, List.countP_cons_of_pos (hi a (.head _) z)]; omega
      · rw [List.countP_cons_of_neg z]
        by_cases z2 : q a = true
        · rw [List.countP_cons_of_pos z2]; omega
        · rw [List.countP_cons_of_neg z2]; exact this
noncomputable def Reach (R : List V4) (s : Nat) (hs ks : List Nat) : Prop := ∃ (n : Nat) (f : Nat → List Nat), 0 < n ∧ f 0 = hs ∧ f n = ks ∧ ∀ k, k < n → Good R s (f k) ∧ Step R (f k) (f (k + 1))
private theorem Reach.cons {R : List V4} {s : Nat} {hs ks ls : List Nat} (g : Good R s hs) (st : Step R hs ks) (h : Reach R s ks ls) : Reach R s hs ls := by
  obtain ⟨n, f, n0, e0, en, hf⟩ := h
  refine ⟨n + 1, fun k => match k with | 0 => hs | k + 1 => f k, by omega, rfl, en, fun k hk => ?_⟩
  cases k with
  | zero => show Good R s hs ∧ Step R hs (f 0); rw [e0]; exact ⟨g, st⟩
  | succ k => exact hf k (by omega)
private theorem Reach.one {R : List V4} {s : Nat} {hs ks : List Nat} (g : Good R s hs) (st : Step R hs ks) : Reach R s hs ks :=
  ⟨1, fun k => match k with | 0 => hs | _ + 1 => ks, by decide, rfl, rfl, fun k hk => by
    have : k = 0 := by omega
    subst this
    exact ⟨g, st⟩⟩
noncomputable def allL (N : Nat) : Nat → List (List Nat)
  | 0 => [[]]
  | s + 1 => (List.range N).flatMap fun a => (allL N s).map fun l => a :: l
private theorem mem_allL {N : Nat} : ∀ {s : Nat} {l : List Nat}, l.length = s → (∀ x ∈ l, x < N) → l ∈ allL N s := by
  intro s
  induction s with
  | zero => intro l hl _; rw [List.length_eq_zero_iff.mp hl]; exact .head _
  | succ s ih =>
    intro l hl hx
    cases l with
    | nil => simp at hl
    | cons a l =>
      show a :: l ∈ (List.range N).flatMap _
      exact List.mem_flatMap.mpr ⟨a, List.mem_range.mpr (hx a (.head _)), List.mem_map.mpr ⟨l, ih (by simpa using hl) fun x h => hx x (.tail _ h), rfl⟩⟩
open Classical in
noncomputable def rank (R : List V4) (s : Nat) (hs : List Nat) : Nat := (allL R.length s).countP fun ks => decide (Reach R s hs ks)
private theorem rank_lt {R : List V4} {s : Nat} {hs ks : List Nat} (hs3 : s ≤ 3) (g : Good R s hs) (g2 : Good R s ks) (st : Step R hs ks) : rank R s ks < rank R s hs := by
  unfold rank
  refine countP_less (x := ks) (fun y _ hy => ?_) (mem_allL g2.len g2.at_) (by simpa using Reach.one g st) ?_
  · have hy : Reach R s ks y := by simpa using hy
    simpa using hy.cons g st
  · have : ¬ Reach R s ks ks := by
      rintro ⟨n, f, n0, e0, en, hf⟩
      exact no_round hs3 n0 (by rw [en, e0]) hf
    simpa using this

/-! ### tables told by the held rows -/
noncomputable def ln (s : Nat) (R : List V4) (hs : List Nat) (v : V4) : List Int := (List.range s).map (fun q => tQ R hs q v) ++ [tL R hs v]
noncomputable def tabR (s : Nat) (R : List V4) (S : List Int) (hd : List D) (hs : List Nat) : Tb := { held := hd, bottom := tB R hs, rows := R.map (ln s R hs), scales := S, shims := (List.range s).map fun k => ln s R hs (uv k) }
private theorem ln_len {s : Nat} {R : List V4} {hs : List Nat} {v : V4} : (ln s R hs v).length = s + 1 := by unfold ln; simp
private theorem ln_at {s : Nat} {R : List V4} {hs : List Nat} {v : V4} {q : Nat} (h : q < s) : (ln s R hs v)[q]? = some (tQ R hs q v) := by
  unfold ln
  rw [List.getElem?_append_left (by simpa using h), List.getElem?_map, List.getElem?_range h]; rfl
private theorem ln_last {s : Nat} {R : List V4} {hs : List Nat} {v : V4} : lastI (ln s R hs v) = tL R hs v := by
  unfold ln lastI; simp
private theorem sg_turn {d d' : Int} (h : d ≠ 0) (h' : d' ≠ 0) : (if sg d * d' < 0 then -sg d else sg d) = sg d' := by
  unfold sg
  by_cases c : d < 0
  · by_cases c' : d' < 0
    · rw [if_pos c, if_pos c', if_neg (by omega)]
    · rw [if_pos c, if_neg c', if_pos (by omega)]; rfl
  · by_cases c' : d' < 0
    · rw [if_neg c, if_pos c', if_pos (by omega)]
    · rw [if_neg c, if_neg c', if_neg (by omega)]
private theorem sg_pos {d : Int} (h : d ≠ 0) : 0 < sg d * d := by
  unfold sg
  by_cases c : d < 0
  · rw [if_pos c]; omega
  · rw [if_neg c]; omega
private theorem fdivC {b e : Int} (h : 0 < b) : (b * e).fdiv b = e := by
  rw [Int.fdiv_eq_ediv_of_nonneg _ (by omega), Int.mul_ediv_cancel_left _ (by omega)]
private theorem exL_fn {s p : Nat} {b lx ly lz : Int} {fx fy fz : Nat → Int} (hp : p < s) (hb : 0 < b) (hz : ∀ q, q < s → q ≠ p → fx q * fy p - fx p * fy q = b * fz q) (hzp : fz p = fx p) (hl : lx * fy p - fx p * ly = b * lz) :
    exL ((List.range s).map fy ++ [ly]) p b ((List.range s).map fx ++ [lx]) = if fy p < 0 then ((List.range s).map fun q => -fz q) ++ [-lz] else (List.range s).map fz ++ [lz] := by
  have gy : ((List.range s).map fy ++ [ly]).getD p 0 = fy p := by
    rw [List.getD_eq_getElem?_getD, List.getElem?_append_left (by simpa using hp), List.getElem?_map, List.getElem?_range hp]; rfl
  have gx : ((List.range s).map fx ++ [lx]).getD p 0 = fx p := by
    rw [List.getD_eq_getElem?_getD, List.getElem?_append_left (by simpa using hp), List.getElem?_map, List.getElem?_range hp]; rfl
  have e : (List.zipWith (fun t o => (t * fy p - fx p * o).fdiv b) ((List.range s).map fx ++ [lx]) ((List.range s).map fy ++ [ly])).set p (fx p) = (List.range s).map fz ++ [lz] := by
    rw [List.zipWith_append (by rw [List.length_map, List.length_map]), List.zipWith_map]
    have e1 : List.zipWith (fun t o => (t * fy p - fx p * o).fdiv b) [lx] [ly] = [lz] := by
      show [(lx * fy p - fx p * ly).fdiv b] = [lz]
      rw [hl, fdivC hb]
    rw [e1]
    have lz' : (List.zipWith (fun a c => (fx a * fy p - fx p * fy c).fdiv b) (List.range s) (List.range s)).length = s := by simp
    rw [List.set_append_left _ _ (by rw [lz']; exact hp)]
    congr 1
    apply List.ext_getElem?
    intro i
    by_cases hi : i < s
    · rw [List.getElem?_map, List.getElem?_range hi]
      by_cases z : p = i
      · subst z
        rw [List.getElem?_set_self (by rw [lz']; exact hp), ← hzp]; rfl
      · rw [List.getElem?_set_ne z, List.getElem?_zipWith, List.getElem?_range hi]
        show some ((fx i * fy p - fx p * fy i).fdiv b) = some (fz i)
        rw [hz i hi (Ne.symm z), fdivC hb]
    · rw [List.getElem?_eq_none (by rw [List.length_set, lz']; omega), List.getElem?_eq_none (by simp; omega)]
  unfold exL
  rw [gy, gx, e]
  by_cases c : fy p < 0
  · rw [if_pos c, if_pos c, List.map_append, List.map_map]; rfl
  · rw [if_neg c, if_neg c]
private theorem ln_turn {s p : Nat} {R : List V4} {hs ks : List Nat} {v w : V4} (s3 : s ≤ 3) (hp : p < s) (he : Hh R ks = hset (Hh R hs) p w) (pos : 0 < tB R hs) (ne : tQ R hs p w ≠ 0) : exL (ln s R hs w) p (tB R hs) (ln s R hs v) = ln s R ks v := by
  have d0 : dt (Hh R hs) ≠ 0 := fun z => by unfold tB at pos; rw [z, Int.mul_zero] at pos; omega
  have e1 : dt (Hh R ks) = ent (Hh R hs) p w := by rw [he]; rfl
  have d1 : dt (Hh R ks) ≠ 0 := fun z => ne (by unfold tQ; rw [← e1, z, Int.mul_zero])
  have sq := sg_sq (dt (Hh R hs))
  have st := sg_turn d0 d1
  unfold ln
  rw [exL_fn (fz := fun q => sg (dt (Hh R hs)) * ent (Hh R ks) q v) (lz := sg (dt (Hh R hs)) * lst (Hh R ks) v) hp pos]
  · unfold tQ tL
    rw [← e1]
    by_cases c : sg (dt (Hh R hs)) * dt (Hh R ks) < 0
    · rw [if_pos c] at st
      rw [if_pos c, ← st]
      simp only [Int.neg_mul]
    · rw [if_neg c] at st
      rw [if_neg c, ← st]
  · intro q hq nq
    have := ent_turn (H := Hh R hs) (v := v) (w := w) (show p < 3 by omega) (show q < 3 by omega) nq
    rw [← he] at this
    unfold tQ tB
    generalize sg (dt (Hh R hs)) = σ at *
    generalize ent (Hh R ks) q v = A at *
    grind
  · show sg (dt (Hh R hs)) * ent (Hh R ks) p v = tQ R hs p v
    rw [he, ent_set]; rfl
  · have := lst_turn (H := Hh R hs) (v := v) (w := w) (show p < 3 by omega)
    rw [← he] at this
    unfold tQ tB tL
    generalize sg (dt (Hh R hs)) = σ at *
    generalize lst (Hh R ks) v = A at *
    grind
private theorem tB_turn {p : Nat} {R : List V4} {hs ks : List Nat} {w : V4} (he : Hh R ks = hset (Hh R hs) p w) (ne : tQ R hs p w ≠ 0) : 0 < tB R ks := by
  have e1 : dt (Hh R ks) = ent (Hh R hs) p w := by rw [he]; rfl
  unfold tB
  exact sg_pos fun z => ne (by unfold tQ; rw [← e1, z, Int.mul_zero])
private theorem abs_turn {p : Nat} {R : List V4} {hs ks : List Nat} {w : V4} (he : Hh R ks = hset (Hh R hs) p w) (pos : 0 < tB R hs) : (if tQ R hs p w < 0 then -tQ R hs p w else tQ R hs p w) = tB R ks := by
  have e1 : dt (Hh R ks) = ent (Hh R hs) p w := by rw [he]; rfl
  unfold tB tQ
  rw [← e1]
  generalize dt (Hh R ks) = d'
  unfold tB at pos
  generalize dt (Hh R hs) = d at *
  unfold sg at *
  by_cases c : d < 0
  · rw [if_pos c] at pos ⊢
    by_cases c' : d' < 0
    · rw [if_pos c', if_neg (by omega)]
    · rw [if_neg c']; split <;> omega
  · rw [if_neg c] at pos ⊢
    by_cases c' : d' < 0
    · rw [if_pos c', if_pos (by omega)]; omega
    · rw [if_neg c', if_neg (by omega)]
private theorem turn_tab {s j p : Nat} {R : List V4} {S : List Int} {hd : List D} {hs ks : List Nat} {w : V4} (s3 : s ≤ 3) (hp : p < s) (hw : R[j]? = some w) (he : Hh R ks = hset (Hh R hs) p w) (pos : 0 < tB R hs) (ne : tQ R hs p w ≠ 0) :
    turnT (tabR s R S hd hs) j p = tabR s R S (hd.set p (.int j)) ks := by
  have er : (tabR s R S hd hs).rows.getD j [] = ln s R hs w := by
    show (R.map _).getD j [] = _
    simp [hw]
  have eb : (ln s R hs w).getD p 0 = tQ R hs p w := by rw [List.getD_eq_getElem?_getD, ln_at hp]; rfl
  have ab := abs_turn (R := R) he pos
  unfold turnT
  rw [er, eb, ab]
  have e2 : (tabR s R S hd hs).rows.map (exL (ln s R hs w) p (tB R hs)) = R.map (ln s R ks) := by
    show (R.map _).map _ = _
    rw [List.map_map]
    exact List.map_congr_left fun v _ => ln_turn s3 hp he pos ne
  have e3 : (tabR s R S hd hs).shims.map (exL (ln s R hs w) p (tB R hs)) = (List.range s).map fun k => ln s R ks (uv k) := by
    show ((List.range s).map _).map _ = _
    rw [List.map_map]
    exact List.map_congr_left fun k _ => ln_turn s3 hp he pos ne
  show Tb.mk _ _ ((tabR s R S hd hs).rows.map (exL (ln s R hs w) p (tB R hs))) _ ((tabR s R S hd hs).shims.map (exL (ln s R hs w) p (tB R hs))) = _
  rw [e2, e3]
  rfl
/-! ### how great the numbers of a table are -/
structure SmV (m n : Nat) (v : V4) : Prop where
  x : Sm m v.x
  y : Sm m v.y
  z : Sm m v.z
  e : Sm n v.e
private theorem sm_m {a b : Nat} {i j : Int} (h : Sm a i) (k : Sm b j) {c : Nat} (e : c = a + b) : Sm c (i * j) := e ▸ h.mul k
private theorem det_sm {m n : Nat} {a b c : V4} (h1 : SmV m n a) (h2 : SmV m n b) (h3 : SmV m n c) : Sm (3 * m + 3) (det3 a b c) := by
  unfold det3
  have k1 : ∀ {i j k l : Int}, Sm m i → Sm m j → Sm m k → Sm m l → Sm (2 * m + 1) (i * j - k * l) := fun a b c d => (sm_m a b (by omega)).sub (sm_m c d (c := 2 * m) (by omega))
  have t1 := sm_m h1.x (k1 h2.y h3.z h2.z h3.y) (c := 3 * m + 1) (by omega)
  have t2 := sm_m h1.y (k1 h2.x h3.z h2.z h3.x) (c := 3 * m + 1) (by omega)
  have t3 := sm_m h1.z (k1 h2.x h3.y h2.y h3.x) (c := 3 * m + 1) (by omega)
  exact (t1.sub t2).add (t3.mono (by omega))
structure SmH (m n : Nat) (H : H3) : Prop where
  a : SmV m n (H 0)
  b : SmV m n (H 1)
  c : SmV m n (H 2)
private theorem SmH.ent {m n : Nat} {H : H3} (h : SmH m n H) {v : V4} (k : SmV m n v) (q : Nat) (hq : q < 3) : Sm (3 * m + 3) (ent H q v) := by
  rcases three hq with rfl | rfl | rfl
  · exact det_sm k h.b h.c
  · exact det_sm h.a k h.c
  · exact det_sm h.a h.b k
private theorem SmH.lst {m n : Nat} {H : H3} (h : SmH m n H) {v : V4} (k : SmV m n v) : Sm (3 * m + n + 6) (lst H v) := by
  have d : Sm (3 * m + 3) (dt H) := det_sm h.a h.b h.c
  have t0 := sm_m d k.e (c := 3 * m + n + 3) (by omega)
  have t1 := sm_m (h.ent k 0 (by decide)) h.a.e (c := 3 * m + n + 3) (by omega)
  have t2 := sm_m (h.ent k 1 (by decide)) h.b.e (c := 3 * m + n + 3) (by omega)
  have t3 := sm_m (h.ent k 2 (by decide)) h.c.e (c := 3 * m + n + 3) (by omega)
  exact (t0.mono (by omega)).sub ((t1.add t2).add (t3.mono (by omega)))
private theorem sg_sm {m : Nat} {d x : Int} (h : Sm m x) : Sm m (sg d * x) := by
  unfold sg
  split
  · rw [Int.neg_mul, Int.one_mul]; exact h.neg
  · rw [Int.one_mul]; exact h
private theorem uv_sm {m n : Nat} (h : 1 ≤ m) (k : Nat) : SmV m n (uv k) := by
  have z : ∀ {m}, Sm m 0 := by unfold Sm; exact Nat.pow_pos (by decide)
  have o : Sm m 1 := Sm.mono (a := 1) (by unfold Sm; decide) h
  cases k with
  | zero => exact ⟨o, z, z, z⟩
  | succ k =>
    cases k with
    | zero => exact ⟨z, o, z, z⟩
    | succ k => exact ⟨z, z, o, z⟩
private theorem Hh_sm {m n : Nat} {R : List V4} {hs : List Nat} (h1 : 1 ≤ m) (h : ∀ v ∈ R, SmV m n v) : SmH m n (Hh R hs) := by
  have : ∀ q, SmV m n (Hh R hs q) := fun q => by
    unfold Hh
    split
    · rename_i j _
      rw [List.getD_eq_getElem?_getD]
      cases e : R[j]? with
      | none => exact uv_sm h1 q
      | some v => exact h v (List.mem_of_getElem? e)
    · exact uv_sm h1 q
  exact ⟨this 0, this 1, this 2⟩
structure RvOk (m n s : Nat) (R : List V4) (S : List Int) : Prop where
  m1 : 1 ≤ m
  bd : 6 * m + 2 * n + 12 ≤ 8000
  s3 : s ≤ 3
  few : R.length ≤ 1000
  ls : S.length = R.length
  sR : ∀ v ∈ R, SmV m n v
  sS : ∀ x ∈ S, 0 < x ∧ Sm n x
private theorem RvOk.tab {m n s : Nat} {R : List V4} {S : List Int} (o : RvOk m n s R S) {hd : List D} {hs : List Nat} (pos : 0 < tB R hs) : TbOk (3 * m + n + 6) (s + 1) (tabR s R S hd hs) := by
  have m1 := o.m1
  have bd := o.bd
  have s3 := o.s3
  have sH := Hh_sm (R := R) (hs := hs) m1 o.sR
  have big : ∀ v, SmV m n v → ∀ x ∈ ln s R hs v, Sm (3 * m + n + 6) x := fun v hv x hx => by
    unfold ln at hx
    rcases List.mem_append.mp hx with h | h
    · obtain ⟨q, hq, rfl⟩ := List.mem_map.mp h
      exact (sg_sm (sH.ent hv q (by have := List.mem_range.mp hq; omega))).mono (by omega)
    · rw [List.mem_singleton] at h; subst h
      exact sg_sm (sH.lst hv)
  refine ⟨by show (R.map _).length ≤ _; rw [List.length_map]; exact o.few, by show ((List.range s).map _).length ≤ _; rw [List.length_map, List.length_range]; omega, by omega, fun l hl => ?_, fun l hl => ?_, fun l hl => ?_, fun l hl => ?_, by omega, ?_, ?_⟩
  · obtain ⟨v, _, rfl⟩ := List.mem_map.mp hl; exact ln_len
  · obtain ⟨v, _, rfl⟩ := List.mem_map.mp hl; exact ln_len
  · obtain ⟨v, hv, rfl⟩ := List.mem_map.mp hl; exact big v (o.sR v hv)
  · obtain ⟨k, _, rfl⟩ := List.mem_map.mp hl; exact big _ (uv_sm m1 k)
  · show tB R hs ≠ 0; omega
  · exact (sg_sm (det_sm sH.a sH.b sH.c)).mono (by omega)
private theorem tab_ne {s : Nat} {R : List V4} {S : List Int} {hd : List D} {hs : List Nat} : ∀ l ∈ (tabR s R S hd hs).rows, l ≠ [] := fun l hl z => by
  obtain ⟨v, _, rfl⟩ := List.mem_map.mp hl
  have := ln_len (s := s) (R := R) (hs := hs) (v := v)
  rw [z] at this
  simp at this

private theorem iteY {b : Bool} {p q : Prop} (h : b = true) (x : p) : if b = true then p else q := by
  rw [if_pos h]; exact x
/-! ### settled, for up to three shims -/
noncomputable def Runs (R : List V4) (hs ks : List Nat) : Prop := ∃ (n : Nat) (f : Nat → List Nat), f 0 = hs ∧ f n = ks ∧ ∀ k, k < n → Step R (f k) (f (k + 1))
private theorem Runs.refl {R : List V4} {hs : List Nat} : Runs R hs hs := ⟨0, fun _ => hs, rfl, rfl, fun k h => absurd h (Nat.not_lt_zero k)⟩
private theorem Runs.snoc {R : List V4} {hs ks ls : List Nat} (h : Runs R hs ks) (st : Step R ks ls) : Runs R hs ls := by
  obtain ⟨n, f, e0, en, hf⟩ := h
  refine ⟨n + 1, fun k => if k ≤ n then f k else ls, by dsimp only; rw [if_pos (Nat.zero_le _)]; exact e0, by dsimp only; rw [if_neg (by omega)], fun k hk => ?_⟩
  dsimp only
  rw [if_pos (by omega)]
  by_cases c : k + 1 ≤ n
  · rw [if_pos c]; exact hf k (by omega)
  · rw [if_neg c]
    have : k = n := by omega
    subst this
    rw [en]; exact st
noncomputable def EndR (R : List V4) (hs : List Nat) (r : D) : Prop := (r = .non ∧ ∀ v ∈ R, 0 ≤ tL R hs v) ∨ ∃ (i : Nat) (v : V4), r = .int i ∧ R[i]? = some v ∧ tL R hs v < 0 ∧ (∀ (j : Nat) (u : V4), j < i → R[j]? = some u → 0 ≤ tL R hs u) ∧ ∀ q, q < hs.length → tQ R hs q v ≤ 0
private theorem first_one {R : List V4} {hs : List Nat} {i j : Nat} {v w : V4} (hi : R[i]? = some v) (hj : R[j]? = some w) (ni : tL R hs v < 0) (nj : tL R hs w < 0) (fi : ∀ (k : Nat) (u : V4), k < i → R[k]? = some u → 0 ≤ tL R hs u) (fj : ∀ (k : Nat) (u : V4), k < j → R[k]? = some u → 0 ≤ tL R hs u) : i = j := by
  rcases Nat.lt_trichotomy i j with h | h | h
  · have := fj i v h hi; omega
  · exact h
  · have := fi j w h hj; omega
private theorem EndR.stop {R : List V4} {hs ks : List Nat} {r : D} (h : EndR R hs r) : ¬ Step R hs ks := by
  rintro ⟨i, p, h0, w, d, _⟩
  rcases h with ⟨_, all⟩ | ⟨j, v, _, hv, neg, first, le⟩
  · have := all w (List.mem_of_getElem? d.hr); have := d.neg; omega
  · have e := first_one d.hr hv d.neg neg d.first first
    subst e
    have := d.hr
    rw [hv] at this; cases this
    have := le p (List.getElem?_eq_some_iff.mp d.hp).1
    have := d.lift
    omega
private theorem EndR.one {R : List V4} {hs : List Nat} {r r' : D} (h : EndR R hs r) (h' : EndR R hs r') : r = r' := by
  rcases h with ⟨rfl, all⟩ | ⟨j, v, rfl, hv, neg, first, le⟩
  · rcases h' with ⟨rfl, _⟩ | ⟨i, w, _, hw, n2, _⟩
    · rfl
    · have := all w (List.mem_of_getElem? hw); omega
  · rcases h' with ⟨_, all⟩ | ⟨i, w, rfl, hw, n2, f2, _⟩
    · have := all v (List.mem_of_getElem? hv); omega
    · rw [first_one hv hw neg n2 first f2]
private theorem Step.one {R : List V4} {s : Nat} {hs ks ls : List Nat} (s3 : s ≤ 3) (g : Good R s hs) (h : Step R hs ks) (h' : Step R hs ls) : ks = ls := by
  obtain ⟨i, p, h0, w, d, rfl⟩ := h
  obtain ⟨j, q, h1, w', d', rfl⟩ := h'
  have e := first_one d.hr d'.hr d.neg d'.neg d.first d'.first
  subst e
  have := d.hr
  rw [d'.hr] at this; cases this
  have : p = q := by
    rcases Nat.lt_trichotomy h0 h1 with z | z | z
    · have := d'.least p h0 d.hp z; have := d.lift; omega
    · subst z; exact g.inj s3 d.hp d'.hp
    · have := d.least q h1 d'.hp z; have := d'.lift; omega
  rw [this]
private theorem Step.good {R : List V4} {s : Nat} {hs ks : List Nat} (g : Good R s hs) (h : Step R hs ks) : Good R s ks := by
  obtain ⟨r, p, h0, w, d, rfl⟩ := h
  have hp := (List.getElem?_eq_some_iff.mp d.hp).1
  have := d.lift
  refine ⟨by rw [List.length_set]; exact g.len, fun h hh => ?_, tB_turn (Hh_set hp d.hr) (by omega)⟩
  rcases List.mem_or_eq_of_mem_set hh with z | z
  · exact g.at_ h z
  · rw [z]; exact (List.getElem?_eq_some_iff.mp d.hr).1
private theorem Runs.one {R : List V4} {s : Nat} {hs a b : List Nat} {r r' : D} (s3 : s ≤ 3) (g : Good R s hs) (ha : Runs R hs a) (hb : Runs R hs b) (ea : EndR R a r) (eb : EndR R b r') : a = b ∧ r = r' := by
  obtain ⟨n, f, f0, fn, hf⟩ := ha
  obtain ⟨m, e, e0, em, he⟩ := hb
  have same : ∀ k, k ≤ n → k ≤ m → f k = e k ∧ Good R s (f k) := by
    intro k
    induction k with
    | zero => intro _ _; rw [f0, e0]; exact ⟨rfl, g⟩
    | succ k ih =>
      intro h1 h2
      obtain ⟨z, gk⟩ := ih (by omega) (by omega)
      have s1 := hf k (by omega)
      have s2 := he k (by omega)
      rw [← z] at s2
      exact ⟨s1.one s3 gk s2, s1.good gk⟩
  have : n = m := by
    rcases Nat.lt_trichotomy n m with h | h | h
    · have z := (same n (Nat.le_refl _) (by omega)).1
      have st := he n h
      rw [← z, fn] at st
      exact absurd st ea.stop
    · exact h
    · have z := (same m (by omega) (Nat.le_refl _)).1
      have st := hf m h
      rw [z, em] at st
      exact absurd st eb.stop
  subst this
  have z := (same n (Nat.le_refl _) (Nat.le_refl _)).1
  rw [fn, em] at z
  subst z
  exact ⟨rfl, ea.one eb⟩
noncomputable def hdD (hs : List Nat) : List D := hs.map fun h => .int (h : Nat)
noncomputable def gSet (C P0 : Addr) : WFU := fun us M P => ∃ (m n s : Nat) (R : List V4) (S : List Int) (hs : List Nat), us = [tabU C (tabR s R S (hdD hs) hs)] ∧ RvOk m n s R S ∧ Good R s hs ∧ M P0 = some (.tab lamP lamQ) ∧ ∀ ks r, Runs R hs ks → Good R s ks → EndR R ks r → P (.tup [tabU C (tabR s R S (hdD ks) ks), .d r]) M
private theorem brk_rows {s : Nat} {R : List V4} {S : List Int} {hd : List D} {hs : List Nat} {r : D} (h : BrkIs (tabR s R S hd hs).rows r) : (r = .non ∧ ∀ v ∈ R, 0 ≤ tL R hs v) ∨ ∃ (i : Nat) (v : V4), r = .int i ∧ R[i]? = some v ∧ tL R hs v < 0 ∧ ∀ (j : Nat) (u : V4), j < i → R[j]? = some u → 0 ≤ tL R hs u := by
  rcases h with ⟨rfl, all⟩ | ⟨i, l, rfl, hl, neg, first⟩
  · refine .inl ⟨rfl, fun v hv => ?_⟩
    have := all (ln s R hs v) (List.mem_map.mpr ⟨v, hv, rfl⟩)
    rw [ln_last] at this; exact this
  · rw [show (tabR s R S hd hs).rows = R.map (ln s R hs) from rfl, List.getElem?_map, Option.map_eq_some_iff] at hl
    obtain ⟨v, hv, rfl⟩ := hl
    rw [ln_last] at neg
    refine .inr ⟨i, v, rfl, hv, neg, fun j u hj hu => ?_⟩
    have := first j (ln s R hs u) hj (by show (R.map _)[j]? = _; rw [List.getElem?_map, hu]; rfl)
    rw [ln_last] at this; exact this
noncomputable abbrev s_settled : Stmt := top 26
private theorem sc_settled : FnScope ["table", "number", "place"] ["table"] (defScope s_settled) := ⟨rfl, rfl, rfl, by decide +kernel, rfl, by decide +kernel, by decide +kernel⟩
private theorem h_settled {C fi P0 : Addr} {fd : FuncData} (B : Bl mg) (F : Def K mg "settled" s_settled ["table"]) (TC : TabC P w K mg base C fi fd) (F_first_broken : Has P w K mg base CX0 1 "first_broken" ["table"] (spU K (gFB C))) (F_lifting_place : Has P w K mg base CX0 5 "lifting_place" ["table", "number"] (spU K (gLift C P0))) (F_turned : Has P w K mg base CX0 3 "turned" ["table", "number", "place"] (spU K (gTurn C))) :
    Has P w K mg base CX0 6 "settled" ["table"] (spU K (gSet C P0)) := by
  refine F.hasU sc_settled (fun us M P h => by obtain ⟨_, _, _, _, _, _, rfl, _⟩ := h; rfl) fun f cdv A outer s H E hr => ?_
  have nd := sc_settled.nd
  refine ⟨_, (jss_cons (js_set (i := 1) nd rfl (Or.inl rfl) (je_u (ju_h F_first_broken (hr.mono (by decide)) rfl (jua_cons (ju_v 0) jua_nil))))
    (jss_cons (js_while PassesOwn.never (jt_notN (jv 1) j_non) (jss_cons (js_set (i := 2) nd rfl (Or.inl rfl) (je_u (ju_h F_lifting_place (hr.mono (by decide)) rfl (jua_cons (ju_v 0) (jua_cons (ju_d (jv 1)) jua_nil)))))
    (jss_cons (js_if (jt_isN (jv 2) j_non) (jss_one (js_retU (ju_tup (jua_cons (ju_v 0) (jua_cons (ju_d (jv 1)) jua_nil))))) jss_nil)
    (jss_cons (js_setU (i := 0) nd rfl (Or.inl rfl) (ju_h F_turned (hr.mono (by decide)) rfl (jua_cons (ju_v 0) (jua_cons (ju_d (jv 1)) (jua_cons (ju_d (jv 2)) jua_nil)))))
    (jss_one (js_set (i := 1) nd rfl (Or.inl rfl) (je_u (ju_h F_first_broken (hr.mono (by decide)) rfl (jua_cons (ju_v 0) jua_nil)))))))))
    (jss_one (js_retU (ju_tup (jua_cons (ju_v 0) (jua_cons (ju_d j_non) jua_nil))))))), ?_⟩
  rintro us M Q ⟨m, b, s, R, S, hs, rfl, ok, g, hM, k⟩
  have s3 := ok.s3
  refine ⟨tabR s R S (hdD hs) hs, rfl, tab_ne, fun r br => ?_⟩
  refine ⟨fun n ρ M' => M' = M ∧ ∃ (ks : List Nat) (r : D) (o : Ent), ρ = [.ut (tabU C (tabR s R S (hdD ks) ks)), .sh r, o] ∧ n = rank R s ks ∧ Good R s ks ∧ Runs R hs ks ∧ BrkIs (tabR s R S (hdD ks) ks).rows r, ⟨_, rfl, hs, r, _, rfl, rfl, g, .refl, br⟩, ?_⟩
  clear g br r
  rintro n ρ M' ⟨rfl, ks, r, o, rfl, rfl, g, run, br⟩
  show if (!isN r) = true then _ else _
  rcases brk_rows br with ⟨rfl, all⟩ | ⟨i, v, rfl, hv, neg, first⟩
  · exact iteN rfl ⟨by show 2 ≤ sizeLine; decide, _, Sub.refl _, k ks .non run g (.inl ⟨rfl, all⟩)⟩
  · have hi := (List.getElem?_eq_some_iff.mp hv).1
    have len := g.len
    have eh : hdD ks = (ks.map fun h => ((h : Nat) : Int)).map D.int := by unfold hdD; rw [List.map_map]; rfl
    refine iteY rfl ⟨tabR s R S (hdD ks) ks, i, ln s R ks v, ks.map fun h => ((h : Nat) : Int), rfl, by show (R.map _)[i]? = _; rw [List.getElem?_map, hv]; rfl, eh, by rw [List.length_map, ln_len]; omega, by rw [List.length_map]; omega, hM, fun r lift => ?_⟩
    show if isN r = true then _ else _
    rcases lift with ⟨rfl, le⟩ | ⟨p, x, hh, rfl, hx, px, hp, least⟩
    · refine iteY rfl ⟨by show 2 ≤ sizeLine; decide, _, Sub.refl _, k ks (.int i) run g (.inr ⟨i, v, rfl, hv, neg, first, fun q hq => le q _ (by rw [List.length_map]; exact hq) (ln_at (by omega))⟩)⟩
    · rw [List.getElem?_map, Option.map_eq_some_iff] at hp
      obtain ⟨h0, hp, rfl⟩ := hp
      have lp := (List.getElem?_eq_some_iff.mp hp).1
      rw [ln_at (by omega)] at hx
      cases hx
      have he := Hh_set (R := R) lp hv
      have sd : StepD R ks i p h0 v := ⟨hv, hp, neg, first, px, fun q h hq hlt => by
        apply Classical.byContradiction
        intro z
        have lq := (List.getElem?_eq_some_iff.mp hq).1
        have := least q (tQ R ks q v) h (ln_at (by omega)) (by omega) (by rw [List.getElem?_map, hq]; rfl)
        omega⟩
      have st : Step R ks (ks.set p i) := ⟨i, p, h0, v, sd, rfl⟩
      have g2 := st.good g
      refine iteN rfl ⟨tabR s R S (hdD ks) ks, i, p, 3 * m + b + 6, s + 1, rfl, ok.tab g.pos, by show i < (R.map _).length; rw [List.length_map]; exact hi, by show p < (hdD ks).length; unfold hdD; rw [List.length_map]; exact lp, by omega, ?_⟩
      rw [turn_tab s3 (by omega) hv he g.pos (by omega)]
      have e2 : (hdD ks).set p (.int i) = hdD (ks.set p i) := by unfold hdD; rw [List.map_set]
      rw [e2]
      exact ⟨tabR s R S (hdD (ks.set p i)) (ks.set p i), rfl, tab_ne, fun r br => ⟨_, rank_lt s3 g g2 st, rfl, ks.set p i, r, .sh (.int p), rfl, rfl, g2, run.snoc st, br⟩⟩

/-! ### the first table -/
noncomputable def vecOf (c : Int) (r : BR) : V4 := ⟨whole c (r.1.getD 0 0), whole c (r.1.getD 1 0), whole c (r.1.getD 2 0), whole c r.2⟩
noncomputable def scB (r : BR) : Int := scl (r.1 ++ [r.2])
noncomputable def RV (Rs : List BR) : List V4 := Rs.map fun r => vecOf (scB r) r
noncomputable def SV (Rs : List BR) : List Int := Rs.map scB
noncomputable def lows (N s : Nat) : List Nat := (List.range s).map fun k => N - 2 * (s - k)
noncomputable def DiagV (k : Nat) (v : V4) : Prop := match k with
  | 0 => 0 < v.x ∧ v.y = 0 ∧ v.z = 0
  | 1 => v.x = 0 ∧ 0 < v.y ∧ v.z = 0
  | _ => v.x = 0 ∧ v.y = 0 ∧ 0 < v.z
private theorem diag_pos {H : H3} (h : ∀ q, q < 3 → DiagV q (H q)) : 0 < dt H := by
  obtain ⟨a1, a2, a3⟩ := h 0 (by decide)
  obtain ⟨b1, b2, b3⟩ := h 1 (by decide)
  obtain ⟨c1, c2, c3⟩ := h 2 (by decide)
  unfold dt det3
  rw [a2, a3, b1, b3, c1, c2]
  have := Int.mul_pos a1 (Int.mul_pos b2 c3)
  grind
private theorem uv_diag (q : Nat) (h : q < 3) : DiagV q (uv q) := by
  rcases three h with rfl | rfl | rfl <;> exact ⟨by decide, by decide, by decide⟩
private theorem whole_0 (c : Int) : whole c 0 = 0 := by unfold whole; rw [show (0 : Rat).num = 0 from rfl, Int.zero_mul]
structure LowOk (n t σ s : Nat) (Rs : List BR) : Prop where
  n1 : 1 ≤ n
  nt : n ≤ t
  bd : 6 * n + 2 * t + 8 * σ + 12 ≤ 8000
  s3 : s ≤ 3
  few : Rs.length ≤ 1000
  two : 2 * s ≤ Rs.length
  len : ∀ r ∈ Rs, r.1.length = s
  sb : ∀ r ∈ Rs, ∀ q ∈ r.1, SmR n q
  sd : ∀ r ∈ Rs, SmR t r.2
  dn : ∀ r ∈ Rs, ∃ D : Int, 0 < D ∧ Sm σ D ∧ ∀ q ∈ r.1 ++ [r.2], (q.den : Int) ∣ D
  low : ∀ k, k < s → ∃ r, Rs[Rs.length - 2 * (s - k)]? = some r ∧ r.1 = unitQ s k 1
private theorem gcd_step2 {s d : Int} (hs : 0 < s) (hd : 0 < d) : 0 < s * d.fdiv (Int.gcd s d : Int) ∧ s ∣ s * d.fdiv (Int.gcd s d : Int) ∧ d ∣ s * d.fdiv (Int.gcd s d : Int) := by
  obtain ⟨e0, _, e2, e3, _, _⟩ := lcm_step hs hd
  exact ⟨Int.mul_pos hs e0, e2, e3⟩
private theorem scl_ok (qs : List Rat) : 0 < scl qs ∧ ∀ q ∈ qs, (q.den : Int) ∣ scl qs := by
  have go : ∀ (qs : List Rat) (s : Int), 0 < s → 0 < qs.foldl (fun s q => s * (q.den : Int).fdiv (Int.gcd s (q.den : Int) : Int)) s ∧ s ∣ qs.foldl (fun s q => s * (q.den : Int).fdiv (Int.gcd s (q.den : Int) : Int)) s ∧ ∀ q ∈ qs, (q.den : Int) ∣ qs.foldl (fun s q => s * (q.den : Int).fdiv (Int.gcd s (q.den : Int) : Int)) s := by
    intro qs
    induction qs with
    | nil => intro s h; exact ⟨h, Int.dvd_refl s, fun q hq => nomatch hq⟩
    | cons q qs ih =>
      intro s h
      obtain ⟨p, d1, d2⟩ := gcd_step2 h (den_pos q)
      obtain ⟨i1, i2, i3⟩ := ih _ p
      refine ⟨i1, Int.dvd_trans d1 i2, fun r hr => ?_⟩
      rcases List.mem_cons.mp hr with rfl | hr
      · exact Int.dvd_trans d2 i2
      · exact i3 r hr
  obtain ⟨a, _, c⟩ := go qs 1 (by decide)
  exact ⟨a, c⟩
private theorem whole_sm' {n m : Nat} {s : Int} {q : Rat} (h : SmR n q) (s0 : 0 < s) (hs : Sm m s) : Sm (n + m) (whole s q) := by
  unfold whole
  exact h.1.mul (div_sm q s0 hs)
private theorem sm_getD {n : Nat} {qs : List Rat} (h : ∀ q ∈ qs, SmR n q) (n1 : 1 ≤ n) (i : Nat) : SmR n (qs.getD i 0) := by
  rw [List.getD_eq_getElem?_getD]
  cases e : qs[i]? with
  | none => exact SmR.mono (a := 1) ⟨by unfold Sm; decide, by unfold Sm; decide⟩ n1
  | some q => exact h q (List.mem_of_getElem? e)
private theorem vec_sm {n t m : Nat} {c : Int} {r : BR} (n1 : 1 ≤ n) (hb : ∀ q ∈ r.1, SmR n q) (hd : SmR t r.2) (c0 : 0 < c) (hc : Sm m c) : SmV (n + m) (t + m) (vecOf c r) :=
  ⟨whole_sm' (sm_getD hb n1 0) c0 hc, whole_sm' (sm_getD hb n1 1) c0 hc, whole_sm' (sm_getD hb n1 2) c0 hc, whole_sm' hd c0 hc⟩
private theorem scl_le {qs : List Rat} {D : Int} (h : ∀ q ∈ qs, (q.den : Int) ∣ D) : scl qs ∣ D := by
  have go : ∀ (qs : List Rat) (s : Int), 0 < s → s ∣ D → (∀ q ∈ qs, (q.den : Int) ∣ D) → qs.foldl (fun s q => s * (q.den : Int).fdiv (Int.gcd s (q.den : Int) : Int)) s ∣ D := by
    intro qs
    induction qs with
    | nil => intro s _ h _; exact h
    | cons q qs ih => intro s h hd hq; exact ih _ (gcd_step2 h (den_pos q)).1 (lcm_dvd h (den_pos q) hd (hq q (.head _))) fun r hr => hq r (.tail _ hr)
  exact go qs 1 (by decide) (Int.one_dvd D) h
private theorem LowOk.sc {n t σ s : Nat} {Rs : List BR} (o : LowOk n t σ s Rs) : ∀ r ∈ Rs, Sm σ (scB r) := fun r hr => by
  obtain ⟨D, D0, sD, dv⟩ := o.dn r hr
  exact sm_le sD (Int.le_of_lt (scl_ok _).1) (Int.le_of_dvd D0 (scl_le dv))
private theorem LowOk.rv {n t σ s : Nat} {Rs : List BR} (o : LowOk n t σ s Rs) : RvOk (n + σ) (t + σ) s (RV Rs) (SV Rs) := by
  have sc := o.sc
  have bd := o.bd
  have n1 := o.n1
  refine ⟨by omega, by omega, o.s3, by unfold RV; rw [List.length_map]; exact o.few, by unfold RV SV; rw [List.length_map, List.length_map], fun v hv => ?_, fun x hx => ?_⟩
  · obtain ⟨r, hr, rfl⟩ := List.mem_map.mp hv
    exact vec_sm n1 (o.sb r hr) (o.sd r hr) (scl_ok _).1 (sc r hr)
  · obtain ⟨r, hr, rfl⟩ := List.mem_map.mp hx
    exact ⟨(scl_ok _).1, (sc r hr).mono (by omega)⟩
private theorem s4 {s : Nat} (h : s ≤ 3) : s = 0 ∨ s = 1 ∨ s = 2 ∨ s = 3 := by omega
private theorem sk6 {s k : Nat} (s3 : s ≤ 3) (hk : k < s) : (s = 1 ∧ k = 0) ∨ (s = 2 ∧ k = 0) ∨ (s = 2 ∧ k = 1) ∨ (s = 3 ∧ k = 0) ∨ (s = 3 ∧ k = 1) ∨ (s = 3 ∧ k = 2) := by omega
private theorem low_diag {n t σ s k : Nat} {Rs : List BR} (o : LowOk n t σ s Rs) (hk : k < s) : ∃ w, (RV Rs)[Rs.length - 2 * (s - k)]? = some w ∧ DiagV k w := by
  obtain ⟨r, hr, e⟩ := o.low k hk
  refine ⟨vecOf (scB r) r, by unfold RV; rw [List.getElem?_map, hr]; rfl, ?_⟩
  have c0 := (scl_ok (r.1 ++ [r.2])).1
  have w1 : 0 < whole (scB r) 1 := by
    unfold whole
    rw [show (1 : Rat).num = 1 from rfl, show (1 : Rat).den = 1 from rfl, Int.one_mul]
    show 0 < scB r / 1
    rw [Int.ediv_one]; exact c0
  have w0 := whole_0 (scB r)
  have s3 := o.s3
  unfold vecOf
  rw [e]
  rcases sk6 s3 hk with ⟨rfl, rfl⟩ | ⟨rfl, rfl⟩ | ⟨rfl, rfl⟩ | ⟨rfl, rfl⟩ | ⟨rfl, rfl⟩ | ⟨rfl, rfl⟩
  · exact ⟨w1, w0, w0⟩
  · exact ⟨w1, w0, w0⟩
  · exact ⟨w0, w1, w0⟩
  · exact ⟨w1, w0, w0⟩
  · exact ⟨w0, w1, w0⟩
  · exact ⟨w0, w0, w1⟩
private theorem lows_at {N s k : Nat} (h : k < s) : (lows N s)[k]? = some (N - 2 * (s - k)) := by
  unfold lows; rw [List.getElem?_map, List.getElem?_range h]; rfl
private theorem lows_len {N s : Nat} : (lows N s).length = s := by unfold lows; rw [List.length_map, List.length_range]
private theorem low_H {n t σ s k q : Nat} {Rs : List BR} (o : LowOk n t σ s Rs) (hk : k ≤ s) (hq : q < 3) : DiagV q (Hh (RV Rs) ((lows Rs.length s).take k) q) := by
  by_cases c : q < k
  · obtain ⟨w, hw, d⟩ := low_diag o (show q < s by omega)
    rw [Hh_of (by rw [List.getElem?_take_of_lt c]; exact lows_at (by omega)) hw]
    exact d
  · rw [Hh_none (by rw [List.length_take, lows_len]; omega)]
    exact uv_diag q hq
private theorem tB_dt {R : List V4} {hs : List Nat} (h : 0 < dt (Hh R hs)) : tB R hs = dt (Hh R hs) := by
  unfold tB sg; rw [if_neg (by omega), Int.one_mul]
private theorem low_step {n t σ s k : Nat} {Rs : List BR} (o : LowOk n t σ s Rs) (hk : k < s) : ∃ w, (RV Rs)[Rs.length - 2 * (s - k)]? = some w ∧ Hh (RV Rs) ((lows Rs.length s).take (k + 1)) = hset (Hh (RV Rs) ((lows Rs.length s).take k)) k w ∧ 0 < tB (RV Rs) ((lows Rs.length s).take k) ∧ tQ (RV Rs) ((lows Rs.length s).take k) k w ≠ 0 := by
  obtain ⟨w, hw, d⟩ := low_diag o hk
  have he : Hh (RV Rs) ((lows Rs.length s).take (k + 1)) = hset (Hh (RV Rs) ((lows Rs.length s).take k)) k w := by
    funext q
    unfold hset
    by_cases z : q = k
    · subst z
      rw [if_pos rfl]
      exact Hh_of (by rw [List.getElem?_take_of_lt (by omega)]; exact lows_at hk) hw
    · rw [if_neg z]
      apply Hh_same
      by_cases c : q < k
      · rw [List.getElem?_take_of_lt (by omega), List.getElem?_take_of_lt c]
      · rw [List.getElem?_eq_none (by rw [List.length_take, lows_len]; omega), List.getElem?_eq_none (by rw [List.length_take, lows_len]; omega)]
  have p0 := diag_pos (H := Hh (RV Rs) ((lows Rs.length s).take k)) fun q hq => low_H o (show k ≤ s by omega) hq
  have p1 := diag_pos (H := Hh (RV Rs) ((lows Rs.length s).take (k + 1))) fun q hq => low_H o (show k + 1 ≤ s by omega) hq
  refine ⟨w, hw, he, by rw [tB_dt p0]; exact p0, ?_⟩
  have : tQ (RV Rs) ((lows Rs.length s).take k) k w = dt (Hh (RV Rs) ((lows Rs.length s).take (k + 1))) := by
    rw [he]
    unfold tQ sg
    rw [if_neg (by omega), Int.one_mul]; rfl
  omega
private theorem low_good {n t σ s : Nat} {Rs : List BR} (o : LowOk n t σ s Rs) : Good (RV Rs) s (lows Rs.length s) := by
  have two := o.two
  have e : (lows Rs.length s).take s = lows Rs.length s := by rw [List.take_of_length_le (by rw [lows_len]; exact Nat.le_refl _)]
  have p1 := diag_pos (H := Hh (RV Rs) ((lows Rs.length s).take s)) fun q hq => low_H o (Nat.le_refl s) hq
  rw [e] at p1
  refine ⟨lows_len, fun h hh => ?_, by rw [tB_dt p1]; exact p1⟩
  unfold lows at hh
  obtain ⟨k, hk, rfl⟩ := List.mem_map.mp hh
  have := List.mem_range.mp hk
  unfold RV
  rw [List.length_map]; omega
private theorem H_nil {R : List V4} : Hh R [] = uv := by funext q; exact Hh_none (Nat.zero_le _)
private theorem tQ_nil {R : List V4} {v : V4} : tQ R [] 0 v = v.x ∧ tQ R [] 1 v = v.y ∧ tQ R [] 2 v = v.z ∧ tL R [] v = v.e ∧ tB R [] = 1 := by
  have d : dt uv = 1 := by decide
  have e0 : ent uv 0 v = v.x := by show det3 v (uv 1) (uv 2) = _; unfold det3 uv; grind
  have e1 : ent uv 1 v = v.y := by show det3 (uv 0) v (uv 2) = _; unfold det3 uv; grind
  have e2 : ent uv 2 v = v.z := by show det3 (uv 0) (uv 1) v = _; unfold det3 uv; grind
  have l : lst uv v = v.e := by
    unfold lst
    rw [d, e0, e1, e2]
    show 1 * v.e - (v.x * 0 + v.y * 0 + v.z * 0) = v.e
    grind
  unfold tQ tL tB
  rw [H_nil, d, e0, e1, e2, l]
  have : sg 1 = 1 := rfl
  rw [this]
  exact ⟨Int.one_mul _, Int.one_mul _, Int.one_mul _, Int.one_mul _, rfl⟩
private theorem ln_nil {s : Nat} {R : List V4} {c : Int} {r : BR} (s3 : s ≤ 3) (hl : r.1.length = s) : ln s R [] (vecOf c r) = (r.1 ++ [r.2]).map (whole c) := by
  obtain ⟨a0, a1, a2, a3, _⟩ := tQ_nil (R := R) (v := vecOf c r)
  unfold ln
  rw [a3]
  obtain ⟨b, d⟩ := r
  rcases s4 s3 with rfl | rfl | rfl | rfl
  · cases List.length_eq_zero_iff.mp hl; rfl
  · obtain ⟨x, rfl⟩ := len1 hl; show [tQ R [] 0 _, _] = _; rw [a0]; rfl
  · obtain ⟨x, y, rfl⟩ := len2 hl; show [tQ R [] 0 _, tQ R [] 1 _, _] = _; rw [a0, a1]; rfl
  · obtain ⟨x, y, z, rfl⟩ := len3 hl; show [tQ R [] 0 _, tQ R [] 1 _, tQ R [] 2 _, _] = _; rw [a0, a1, a2]; rfl
private theorem ln_unit {s k : Nat} {R : List V4} (s3 : s ≤ 3) (hk : k < s) : ln s R [] (uv k) = (List.replicate (s + 1) 0).set k 1 := by
  obtain ⟨a0, a1, a2, a3, _⟩ := tQ_nil (R := R) (v := uv k)
  unfold ln
  rw [a3]
  rcases sk6 s3 hk with ⟨rfl, rfl⟩ | ⟨rfl, rfl⟩ | ⟨rfl, rfl⟩ | ⟨rfl, rfl⟩ | ⟨rfl, rfl⟩ | ⟨rfl, rfl⟩
  · show [tQ R [] 0 _, _] = _; rw [a0]; rfl
  · show [tQ R [] 0 _, tQ R [] 1 _, _] = _; rw [a0, a1]; rfl
  · show [tQ R [] 0 _, tQ R [] 1 _, _] = _; rw [a0, a1]; rfl
  · show [tQ R [] 0 _, tQ R [] 1 _, tQ R [] 2 _, _] = _; rw [a0, a1, a2]; rfl
  · show [tQ R [] 0 _, tQ R [] 1 _, tQ R [] 2 _, _] = _; rw [a0, a1, a2]; rfl
  · show [tQ R [] 0 _, tQ R [] 1 _, tQ R [] 2 _, _] = _; rw [a0, a1, a2]; rfl
noncomputable def hdK (N s k : Nat) : List D := hdD ((lows N s).take k) ++ List.replicate (s - k) .non
private theorem hdK_set {N s k : Nat} (hk : k < s) : (hdK N s k).set k (.int ((N - 2 * (s - k) : Nat) : Int)) = hdK N s (k + 1) := by
  unfold hdK hdD
  have l : (((lows N s).take k).map fun h => D.int (h : Nat)).length = k := by rw [List.length_map, List.length_take, lows_len]; omega
  rw [List.set_append_right _ _ (by rw [l]; exact Nat.le_refl _), l, Nat.sub_self]
  obtain ⟨m, hm⟩ : ∃ m, s - k = m + 1 := ⟨s - k - 1, by omega⟩
  rw [show s - (k + 1) = m by omega, hm, List.replicate_succ, List.set_cons_zero, List.take_add_one, lows_at hk, Option.toList_some, List.map_append, List.append_assoc, hm]
  rfl

/-! ### the table at the lows -/
noncomputable def gLows (C : Addr) : WFU := fun us M P => ∃ (n t δ s : Nat) (Rs : List BR), us = [.d (.int s), .d (.lst (Rs.map rQ))] ∧ LowOk n t δ s Rs ∧ P (tabU C (tabR s (RV Rs) (SV Rs) (hdD (lows Rs.length s)) (lows Rs.length s))) M
private theorem zip_get2 {α β : Type} {f : α → D} {g : β → D} {xs : List α} {ys : List β} {i : Nat} {d : D} (h : (zipD (xs.map f) (ys.map g))[i]? = some d) : ∃ x y, xs[i]? = some x ∧ ys[i]? = some y ∧ d = .tup [f x, g y] := by
  obtain ⟨a, b, h1, h2, rfl⟩ := zipD_get h
  rw [List.getElem?_map, Option.map_eq_some_iff] at h1 h2
  obtain ⟨x, e1, rfl⟩ := h1
  obtain ⟨y, e2, rfl⟩ := h2
  exact ⟨x, y, e1, e2, rfl⟩
private theorem tab0 {C : Addr} {n t δ s : Nat} {Rs : List BR} (o : LowOk n t δ s Rs) : U.ins C tNs [.lst (List.replicate s D.non), .int 1, .lst (Rs.map fun r => lineD ((r.1 ++ [r.2]).map (whole (scB r)))), .lst ((SV Rs).map D.int), .lst ((List.range s).map fun k => lineD ((List.replicate (s + 1) 0).set k 1))] = tabU C (tabR s (RV Rs) (SV Rs) (hdK Rs.length s 0) []) := by
  unfold tabU tabR
  have e1 : hdK Rs.length s 0 = List.replicate s D.non := by unfold hdK; rw [List.take_zero, Nat.sub_zero]; rfl
  have e2 : ((RV Rs).map (ln s (RV Rs) [])).map lineD = Rs.map fun r => lineD ((r.1 ++ [r.2]).map (whole (scB r))) := by
    unfold RV
    rw [List.map_map, List.map_map]
    exact List.map_congr_left fun r hr => congrArg lineD (ln_nil o.s3 (o.len r hr))
  have e3 : ((List.range s).map fun k => ln s (RV Rs) [] (uv k)).map lineD = (List.range s).map fun k => lineD ((List.replicate (s + 1) 0).set k 1) := by
    rw [List.map_map]
    exact List.map_congr_left fun k hk => congrArg lineD (ln_unit o.s3 (List.mem_range.mp hk))
  dsimp only
  rw [e1, e2, e3, (tQ_nil (R := RV Rs) (v := uv 0)).2.2.2.2]
noncomputable abbrev s_table_at_lows : Stmt := top 19
private theorem sc_table_at_lows : FnScope ["shim_count", "rows", "parts", "scales", "lines", "shims", "table", "k"] ["shim_count", "rows"] (defScope s_table_at_lows) := ⟨rfl, rfl, rfl, by decide +kernel, rfl, by decide +kernel, by decide +kernel⟩
private theorem h_table_at_lows {C fi : Addr} {fd : FuncData} (B : Bl mg) (F : Def K mg "table_at_lows" s_table_at_lows ["shim_count", "rows"]) (TC : TabC P w K mg base C fi fd) (F_scale_of : Has P w K mg base CX0 2 "scale_of" ["parts"] (spW K (pur gScale))) (F_whole_line : Has P w K mg base CX0 1 "whole_line" ["parts", "scale"] (spW K (pur gWhole)))
    (F_unit_line : Has P w K mg base CX0 1 "unit_line" ["length", "place"] (spW K (pur gUL))) (F_turned : Has P w K mg base CX0 3 "turned" ["table", "number", "place"] (spU K (gTurn C))) :
    Has P w K mg base CX0 4 "table_at_lows" ["shim_count", "rows"] (spU K (gLows C)) := by
  refine F.hasU sc_table_at_lows (fun us M P h => by obtain ⟨_, _, _, _, _, rfl, _⟩ := h; rfl) fun f cdv A outer s H E hr => ?_
  have nd := sc_table_at_lows.nd
  refine ⟨_, (jss_cons (js_setC (k := 2) nd rfl (Or.inl rfl) ["b", "d"] [none, none] ⟨rfl, by decide +kernel, by decide +kernel, rfl, rfl, by intro i x j _ h; exact absurd h (by rcases i with _ | _ | _ | i <;> simp)⟩ rfl (ji_list (jv 1)) (fun _ _ _ _ _ => (jg_tup (n := 2) rfl (jgs_cons (jg_name (i := 0) (show List.Nodup [("b" : Str), ("d" : Str)] by decide +kernel) rfl (Or.inl rfl)) (jgs_cons (jg_name (i := 1) (show List.Nodup [("b" : Str), ("d" : Str)] by decide +kernel) rfl (Or.inl rfl)) jgs_nil)))) (fun _ _ _ _ _ => jc_nil) (fun _ _ _ _ _ => (j_fz (jn_cat (jv 0) (j_fz (jn_lst (ja_cons (jv 1) ja_nil)))))))
    (jss_cons (js_setC (k := 3) nd rfl (Or.inl rfl) ["told"] [none] ⟨rfl, by decide +kernel, by decide +kernel, rfl, rfl, by intro i x j _ h; exact absurd h (by rcases i with _ | _ | _ | i <;> simp)⟩ rfl (ji_list (jv 2)) (fun _ _ _ _ _ => (jg_name (i := 0) (show List.Nodup [("told" : Str)] by decide +kernel) rfl (Or.inl rfl))) (fun _ _ _ _ _ => jc_nil) (fun _ _ _ _ _ => (j_h F_scale_of (hr.mono (by decide)) rfl (ja_cons (jv 0) ja_nil))))
    (jss_cons (js_setC (k := 4) nd rfl (Or.inl rfl) ["told", "scale"] [none, none] ⟨rfl, by decide +kernel, by decide +kernel, rfl, rfl, by intro i x j _ h; exact absurd h (by rcases i with _ | _ | _ | i <;> simp)⟩ rfl (ji_zip rfl B.zip (ja_cons (jv 2) (ja_cons (jv 3) ja_nil))) (fun _ _ _ _ _ => (jg_tup (n := 2) rfl (jgs_cons (jg_name (i := 0) (show List.Nodup [("told" : Str), ("scale" : Str)] by decide +kernel) rfl (Or.inl rfl)) (jgs_cons (jg_name (i := 1) (show List.Nodup [("told" : Str), ("scale" : Str)] by decide +kernel) rfl (Or.inl rfl)) jgs_nil)))) (fun _ _ _ _ _ => jc_nil) (fun _ _ _ _ _ => (j_h F_whole_line (hr.mono (by decide)) rfl (ja_cons (jv 0) (ja_cons (jv 1) ja_nil)))))
    (jss_cons (js_setC (k := 5) nd rfl (Or.inl rfl) ["k", "shim_count"] [none, some 0] ⟨rfl, by decide +kernel, by decide +kernel, rfl, rfl, free_of rfl⟩ rfl (ji_rng1 rfl B.range (ja_cons (jv 0) ja_nil)) (fun _ _ _ _ _ => (jg_name (i := 0) (show List.Nodup [("k" : Str), ("shim_count" : Str)] by decide +kernel) rfl (Or.inl rfl))) (fun _ _ _ _ _ => jc_nil) (fun _ _ _ _ _ => (j_h F_unit_line (hr.mono (by decide)) rfl (ja_cons (j_add (jv 1) j_int) (ja_cons (jv 0) ja_nil)))))
    (jss_cons (js_setU (i := 6) nd rfl (Or.inl rfl) (ju_make TC.made TC.init (hr.mono (by decide)) rfl TC.m TC.bd (ja_cons (j_fz (jn_lc ["k"] [none] ⟨rfl, by decide +kernel, by decide +kernel, rfl, rfl, by intro i x j _ h; exact absurd h (by rcases i with _ | _ | _ | i <;> simp)⟩ rfl (ji_rng1 rfl B.range (ja_cons (jv 0) ja_nil)) (fun _ _ _ _ _ => (jg_name (i := 0) (show List.Nodup [("k" : Str)] by decide +kernel) rfl (Or.inl rfl))) (fun _ _ _ _ _ => jc_nil) (fun _ _ _ _ _ => j_non))) (ja_cons j_int (ja_cons (jv 4) (ja_cons (jv 3) (ja_cons (jv 5) ja_nil)))))))
    (jss_cons (js_for PassesOwn.never rfl (ji_rng1 rfl B.range (ja_cons (jv 0) ja_nil)) (jg_name (i := 7) nd rfl (Or.inl rfl))
    (jss_one (js_setU (i := 6) nd rfl (Or.inl rfl) (ju_h F_turned (hr.mono (by decide)) rfl (jua_cons (ju_v 6) (jua_cons (ju_d (j_sub (j_lenV 1 rfl B.len) (j_mul j_int (j_sub (jv 0) (jv 7))))) (jua_cons (ju_d (jv 7)) jua_nil)))))))
    (jss_one (js_retU (ju_v 6))))))))), ?_⟩
  rintro us M Q ⟨n, t, δ, s, Rs, rfl, ok, k⟩
  have few := ok.few
  have two := ok.two
  have bd := ok.bd
  have s3 := ok.s3
  have sc := ok.sc
  have rv := ok.rv
  refine ⟨fun i out ρ M' => M' = M ∧ out = (Rs.take i).map (fun r => frL (r.1 ++ [r.2])) ∧ ∃ o1 o2, ρ = [o1, o2], ⟨rfl, rfl, _, _, rfl⟩, ?_, ?_⟩
  · rintro i d out ρ M' hd ⟨rfl, rfl, o1, o2, rfl⟩
    obtain ⟨r, hr, rfl⟩ := map_get hd
    have hl := ok.len r (List.mem_of_getElem? hr)
    refine ⟨rfl, by show 1 ≤ sizeLine; decide, ?_, take_small (by omega), rfl, ?_, .sh (frL r.1), .sh (frD r.2), rfl⟩
    · rw [List.length_map, hl]; exact Nat.le_trans (show s + 1 ≤ 4 by omega) (by decide)
    · rw [← take_map' (f := fun r : BR => frL (r.1 ++ [r.2])) hr]
      show _ ++ [D.lst (r.1.map frD ++ [frD r.2])] = _ ++ [D.lst ((r.1 ++ [r.2]).map frD)]
      rw [List.map_append]; rfl
  rintro out ρ M' ⟨rfl, rfl, o1, o2, rfl⟩
  rw [List.length_map, List.take_length]
  refine ⟨fun i out ρ M2 => M2 = M' ∧ out = (Rs.take i).map (fun r => D.int (scB r)) ∧ ∃ o, ρ = [o], ⟨rfl, rfl, _, rfl⟩, ?_, ?_⟩
  · rintro i d out ρ M2 hd ⟨rfl, rfl, o, rfl⟩
    obtain ⟨r, hr, rfl⟩ := map_get hd
    have mr := List.mem_of_getElem? hr
    obtain ⟨D, D0, sD, dv⟩ := ok.dn r mr
    exact ⟨r.1 ++ [r.2], δ, D, rfl, D0, sD, by omega, dv, take_small (by omega), rfl, take_map' (f := fun r : BR => L3.D.int (scB r)) hr, .sh (frL (r.1 ++ [r.2])), rfl⟩
  rintro out ρ M2 ⟨rfl, rfl, o, rfl⟩
  rw [List.length_map, List.take_length]
  have eS : (Rs.map fun r => D.int (scB r)) = (SV Rs).map D.int := by unfold SV; rw [List.map_map]; rfl
  refine ⟨fun i out ρ M3 => M3 = M2 ∧ out = (Rs.take i).map (fun r => lineD ((r.1 ++ [r.2]).map (whole (scB r)))) ∧ ∃ o1 o2, ρ = [o1, o2], ⟨rfl, rfl, _, _, rfl⟩, ?_, ?_⟩
  · rintro i d out ρ M3 hd ⟨rfl, rfl, o1, o2, rfl⟩
    obtain ⟨r, r', h1, h2, rfl⟩ := zip_get2 (f := fun r : BR => frL (r.1 ++ [r.2])) (g := fun r : BR => L3.D.int (scB r)) hd
    rw [h1] at h2; cases h2
    have mr := List.mem_of_getElem? h1
    have hl := ok.len r mr
    refine ⟨rfl, r.1 ++ [r.2], scB r, t, δ, rfl, (scl_ok _).1, sc r mr, fun q hq => ?_, by omega, by rw [List.length_append, hl]; exact Nat.le_trans (show s + 1 ≤ 4 by omega) (by decide), take_small (by omega), rfl, take_map' (f := fun r : BR => lineD ((r.1 ++ [r.2]).map (whole (scB r)))) h1, .sh (frL (r.1 ++ [r.2])), .sh (.int (scB r)), rfl⟩
    rcases List.mem_append.mp hq with z | z
    · exact (ok.sb r mr q z).mono ok.nt
    · rw [List.mem_singleton] at z; subst z; exact ok.sd r mr
  rintro out ρ M3 ⟨rfl, rfl, o1, o2, rfl⟩
  have lz : (zipD (Rs.map fun r : BR => frL (r.1 ++ [r.2])) (Rs.map fun r : BR => L3.D.int (scB r))).length = Rs.length := by rw [zipD_len, List.length_map, List.length_map, Nat.min_self]
  rw [lz, List.take_length]
  refine ⟨⟨by omega, by omega⟩, fun i out ρ M4 => M4 = M3 ∧ out = (List.range i).map (fun k => lineD ((List.replicate (s + 1) 0).set k 1)) ∧ ∃ o1, ρ = [o1, .sh (.int s)], ⟨rfl, rfl, _, rfl⟩, ?_, ?_⟩
  · rintro i d out ρ M4 hd ⟨rfl, rfl, o1, rfl⟩
    obtain ⟨rfl, hi⟩ := rng_get0 hd
    rw [Int.toNat_natCast] at hi
    refine ⟨s + 1, i, rfl, by omega, by omega, by rw [List.length_map, List.length_range]; exact small1000 (by omega), rfl, ?_, .sh (.int (i : Nat)), rfl⟩
    rw [List.range_succ, List.map_append]; rfl
  rintro out ρ M4 ⟨rfl, rfl, o1, rfl⟩
  rw [rng_len, Int.toNat_natCast]
  refine ⟨⟨by omega, by omega⟩, fun i out ρ M5 => M5 = M4 ∧ out = List.replicate i D.non ∧ ∃ o1, ρ = [o1], ⟨rfl, rfl, _, rfl⟩, ?_, ?_⟩
  · rintro i d out ρ M5 hd ⟨rfl, rfl, o1, rfl⟩
    obtain ⟨rfl, hi⟩ := rng_get0 hd
    rw [Int.toNat_natCast] at hi
    exact ⟨by rw [List.length_replicate]; exact small1000 (by omega), rfl, by rw [List.replicate_succ'], .sh (.int (i : Nat)), rfl⟩
  rintro out ρ M5 ⟨rfl, rfl, o1, rfl⟩
  rw [rng_len, Int.toNat_natCast, eS]
  refine ⟨rfl, ⟨by omega, by omega⟩, ?_⟩
  have e0 := tab0 (C := C) ok
  refine ⟨fun i ρ M6 => M6 = M5 ∧ ∃ (o7 : Ent), ρ = [.sh (.int s), .sh (.lst (Rs.map rQ)), .sh (.lst (Rs.map fun r => frL (r.1 ++ [r.2]))), .sh (.lst ((SV Rs).map D.int)), .sh (.lst (Rs.map fun r => lineD ((r.1 ++ [r.2]).map (whole (scB r))))), .sh (.lst ((List.range s).map fun k => lineD ((List.replicate (s + 1) 0).set k 1))), .ut (tabU C (tabR s (RV Rs) (SV Rs) (hdK Rs.length s i) ((lows Rs.length s).take i))), o7], ⟨rfl, .un, ?_⟩, ?_, ?_⟩
  · rw [List.take_zero, ← e0]; rfl
  · intro i d ρ M6 hd hI
    refine wabsG fun EE hE => ?_
    obtain ⟨rfl, o7, rfl⟩ := hI
    obtain ⟨rfl, hi⟩ := rng_get0 hd
    rw [Int.toNat_natCast] at hi
    obtain ⟨w, hw, he, pos, ne⟩ := low_step ok hi
    have lh : (hdK Rs.length s i).length = s := by unfold hdK hdD; rw [List.length_append, List.length_map, List.length_take, lows_len, List.length_replicate]; omega
    refine ⟨cmL ⟨by decide, by decide⟩, tabR s (RV Rs) (SV Rs) (hdK Rs.length s i) ((lows Rs.length s).take i), Rs.length - 2 * (s - i), i, 3 * (n + δ) + (t + δ) + 6, s + 1, ?_, rv.tab pos, ?_, by show i < (hdK Rs.length s i).length; rw [lh]; exact hi, by omega, ?_⟩
    · have : (((Rs.map rQ).length : Nat) : Int) - 2 * ((s : Int) - ((i : Nat) : Int)) = ((Rs.length - 2 * (s - i) : Nat) : Int) := by rw [List.length_map]; omega
      dsimp only
      rw [this]
    · show Rs.length - 2 * (s - i) < ((RV Rs).map _).length
      unfold RV
      rw [List.length_map, List.length_map]; omega
    · rw [turn_tab s3 hi hw he pos ne, hdK_set hi]
      subst hE
      exact ⟨rfl, .sh (.int (i : Nat)), rfl⟩
  · rintro ρ M6 ⟨rfl, o7, rfl⟩
    refine ⟨_, Sub.refl _, ?_⟩
    rw [rng_len, Int.toNat_natCast]
    have e1 : (lows Rs.length s).take s = lows Rs.length s := by rw [List.take_of_length_le (by rw [lows_len]; exact Nat.le_refl _)]
    have e2 : hdK Rs.length s s = hdD (lows Rs.length s) := by unfold hdK; rw [e1, Nat.sub_self, List.replicate_zero, List.append_nil]
    rw [e1, e2]
    exact k

/-! ### defs that tell new lists and need a thing that changes (the lambda's code) -/
noncomputable def spNM (K : PySem.W.Frag) (g : List D → Mm → (D → Prop) → Prop) : Sp := fun vs H Q _ => ∃ Z F M ds P, AgM K Z F M H ∧ Rps K F ds vs ∧ g ds M P ∧ ∀ v H' F' u d M', Same F F' → AgM K Z F' M' H' → RU K F' u v → Fresh M M' d u → P d → Q v H'
noncomputable def uFnM (g : List D → Mm → (D → Prop) → Prop) (fl : WA) : WU := fun ρ M P => fl ρ M fun ds ρ1 M1 => g ds M1 fun d => ∀ u M2, Fresh M1 M2 d u → P u ρ1 M2
private theorem j_hNM {X : Cx} {e : Expr} {es : List Expr} {pos p : Pos} {fl : WA} {x : Str} {g : List D → Mm → (D → Prop) → Prop} {k : Nat} {ps : List Str} (F : Has X.prog X.w X.K X.mg X.base CX0 k x ps (spNM X.K g)) (hr : Room k X.A) (hg : Gl X x) (ha : JA X (e :: es) fl) (hdb : (x == ("__debug__" : Str)) = false := by decide) (he : starEach (e :: es) X.env = (false, eval e X.env) :: starEach es X.env := by rfl) (hpl : (backTo pos (starEach es X.env)).any (·.1) = false := by rfl) :
    JU X (.Call (.Name x p) (e :: es) [] pos) (uFnM g fl) := ⟨imE (pe_h F hr hg pass0 ha.h hdb he hpl) fun σ H Q hh => ex5 hh fun Z F ρ M P ag hf k => ⟨Z, F, ρ, M, _, ag, hf, fun vs H1 F1 ds ρ1 M1 s1 ag1 r1 h1 => by
  show spNM X.K g (vs ++ []) H1 Q E0
  rw [List.append_nil]
  exact ⟨_, F1, M1, ds, _, ag1.m.inner, r1, h1, fun v H' F' u d M' s' m' r fr h => k v H' F' u ρ1 M' (s1.trans s') (ag1.back s' m') r (h u M' fr)⟩⟩⟩
private theorem spNM_toW {K : PySem.W.Frag} {g : List D → Mm → (D → Prop) → Prop} {vs : List V} {H : Hp} {Q : VK} {E : XK} (h : spW K (fun ds M P => g ds M fun d => P d M) vs H Q E) : spNM K g vs H Q E := by
  obtain ⟨Z, F, M, ds, P, a, r, hg, k⟩ := h
  refine ⟨Z, F, M, ds, _, a, r, hg, fun v H' F' u d M' s' a' ru fr pd => ?_⟩
  obtain ⟨A, h1, h2, h3, h4⟩ := fr
  have th := h1.there
  refine k v H' (frz A H' F') d M (s'.trans (frz_same a' th)) ⟨frz_sm a', fun q o e => ?_, fun q o e => ?_⟩ (h1.rp a' (frz_same a' th) (fun q hq => frz_in hq) ru) pd
  · obtain ⟨z1, z2, z3⟩ := a'.zz q o e
    have nq : q ∉ A := fun hq => by obtain ⟨_, y⟩ := th q hq; rw [z3] at y; cases y
    exact ⟨z1, by rw [frz_out nq]; exact z2, by rw [← h4 q nq]; exact z3⟩
  · have nq : q ∉ A := fun hq => by rw [h3 q hq] at e; cases e
    obtain ⟨z1, z2⟩ := a'.mo q o ((h4 q nq).trans e)
    exact ⟨by rw [frz_out nq]; exact z1, z2.same (frz_same a' th) rfl⟩
private theorem toWM {P : Program} {w : World} {K : PySem.W.Frag} {mg : Str → Option Value} {base : Heap} {k : Nat} {x : Str} {ps : List Str} {g : List D → Mm → (D → Prop) → Prop} (h : Has P w K mg base CX0 k x ps (spNM K g)) : Has P w K mg base CX0 k x ps (spW K (fun ds M P => g ds M fun d => P d M)) := by
  obtain ⟨f, fd, F, b, kp, m⟩ := h.ex
  exact ⟨f, fd, F.imp fun vs H Q E h => spNM_toW h, b, kp, m⟩
private theorem hasNM {P : Program} {w : World} {K : PySem.W.Frag} {mg : Str → Option Value} {base : Heap} {k : Nat} {x : Str} {st : Stmt} {N ps : List Str} {g : List D → Mm → (D → Prop) → Prop} (F : Def K mg x st ps) (sc : FnScope N ps (defScope st)) (len : ∀ ds M P, g ds M P → ds.length = ps.length)
    (hbody : ∀ (f : Addr) (cdv : Value) (A : Around) (outer : List Env) (s : Shared) (H : Hp) (E : XK), Room k (A.deeper (envOfC x (defScope st) s.heap.objs.size f cdv)) →
      ∃ G, JSs (cxOf CX0 P w K mg base N x (defScope st) f cdv A outer s H E).nox (defBody st) G ∧ ∀ ds M Q, g ds M Q → G (endN M Q) (startR N ds) M) : Has P w K mg base CX0 (k + 1) x ps (spNM K g) := by
  refine F.has sc (fun vs H Q E h => ?_) fun f cdv A outer s H vs Q E hr h => ?_
  · obtain ⟨Z, F', M, ds, P, m, r, hg, _⟩ := h
    rw [← r.length]
    exact len ds M P hg
  · obtain ⟨Z, F', M, ds, P', m, r, hg, kk⟩ := h
    obtain ⟨G, hG, hh⟩ := hbody f cdv A outer s H E hr
    exact ⟨_, hG.h, Z, F', startR N ds, M, endN M P', ag_start N m r, hh ds M P' hg, ⟨fun _ _ _ _ _ _ _ q => q.elim, fun _ _ _ _ _ _ _ q => q.elim, fun _ _ _ _ _ _ _ q => q.elim, fun v H' F2 u M' s' m' r' ⟨d, M2, hs, fr, q⟩ => kk v H' F2 u d M2 s' (m'.sub hs) r' fr q⟩⟩
/-! ### the choice at a table, a new list -/
noncomputable def gCA (C : Addr) : WFU := fun us M P => ∃ t : Tb, us = [tabU C t] ∧ (∀ l ∈ t.shims, l ≠ []) ∧ t.shims.length ≤ 1000 ∧ t.bottom ≠ 0 ∧ Sm 9000 t.bottom ∧ ∀ p, M p = none → P (.adr p) (mset M p (.own ((t.shims.map fun l => frD (Rat.divInt (lastI l) t.bottom)).map U.d)))
noncomputable abbrev s_choice_at : Stmt := top 20
private theorem sc_choice_at : FnScope ["table"] ["table"] (defScope s_choice_at) := ⟨rfl, rfl, rfl, by decide +kernel, rfl, by decide +kernel, by decide +kernel⟩
private theorem h_choice_at {C fi : Addr} {fd : FuncData} (B : Bl mg) (F : Def K mg "choice_at" s_choice_at ["table"]) (TC : TabC P w K mg base C fi fd) (F_fraction : hFrac P w K mg base) : Has P w K mg base CX0 3 "choice_at" ["table"] (spU K (gCA C)) := by
  refine F.hasU sc_choice_at (fun us M P h => by obtain ⟨_, rfl, _⟩ := h; rfl) fun f cdv A outer s H E hr => ?_
  have nd := sc_choice_at.nd
  refine ⟨_, (jss_one (js_retU (ju_new (jnu_n (jn_lc ["line", "table"] [none, some 0] ⟨rfl, by decide +kernel, by decide +kernel, rfl, rfl, free_of rfl⟩ rfl (ji_list (j_fld TC.cl TC.na_shims fa_shims (ju_v 0))) (fun _ _ _ _ _ => (jg_name (i := 0) (show List.Nodup [("line" : Str), ("table" : Str)] by decide +kernel) rfl (Or.inl rfl))) (fun _ _ _ _ _ => jc_nil) (fun _ _ _ _ _ => (j_h F_fraction (hr.mono (by decide)) rfl (ja_cons (j_atV 0 (j_neg j_int)) (ja_cons (j_fld TC.cl TC.na_bottom fa_bottom (ju_v 1)) ja_nil))))))))), ?_⟩
  rintro us M Q ⟨t, rfl, ne, few, b0, sb, k⟩
  refine ⟨rfl, rfl, rfl, fun j out ρ M' => M' = M ∧ out = (t.shims.take j).map (fun l => frD (Rat.divInt (lastI l) t.bottom)) ∧ ∃ o, ρ = [o, .ut (tabU C t)], ⟨rfl, rfl, _, rfl⟩, ?_, ?_⟩
  · rintro j d out ρ M' hd ⟨rfl, rfl, o, rfl⟩
    obtain ⟨l, hl, rfl⟩ := map_get hd
    have hj := (List.getElem?_eq_some_iff.mp hl).1
    have e := at_lastI (ne l (List.mem_of_getElem? hl))
    show match atI (l.map D.int) (-1) with | some d => _ | none => False
    rw [e]
    exact ⟨rfl, rfl, rfl, _, _, rfl, b0, sb, take_small (by omega), rfl, take_map' (f := fun l => frD (Rat.divInt (lastI l) t.bottom)) hl, .sh (lineD l), rfl⟩
  · rintro out ρ M' ⟨rfl, rfl, o, rfl⟩
    intro p hp
    refine ⟨_, Sub.refl _, ?_⟩
    rw [List.length_map, List.take_length]; exact k p hp

/-! ### weights that bar, for up to three shims -/
noncomputable def topsK (R : List V4) (S : List Int) (hs : List Nat) (i : Nat) (v : V4) : Nat → List Int
  | 0 => (List.replicate R.length 0).set i (tB R hs * S.getD i 0)
  | k + 1 => (topsK R S hs i v k).set (hs.getD k 0) (-tQ R hs k v * S.getD (hs.getD k 0) 0)
noncomputable def gT (T : List Int) : Int := T.foldl (fun g t => ((Int.gcd g t : Nat) : Int)) 0
private theorem gT_snoc {T : List Int} {t : Int} : gT (T ++ [t]) = ((Int.gcd (gT T) t : Nat) : Int) := by unfold gT; rw [List.foldl_append]; rfl
private theorem gT_nn (T : List Int) : 0 ≤ gT T := by
  rcases List.eq_nil_or_concat T with rfl | ⟨T', t, rfl⟩
  · exact Int.le_refl _
  · rw [List.concat_eq_append, gT_snoc]; omega
private theorem gT_dvd : ∀ (n : Nat) (T : List Int), T.length = n → ∀ t ∈ T, gT T ∣ t := by
  intro n
  induction n with
  | zero => intro T h t ht; rw [List.length_eq_zero_iff.mp h] at ht; cases ht
  | succ n ih =>
    intro T h t ht
    rcases List.eq_nil_or_concat T with rfl | ⟨T', x, rfl⟩
    · cases ht
    · rw [List.concat_eq_append] at h ht ⊢
      rw [gT_snoc]
      rcases List.mem_append.mp ht with z | z
      · exact Int.dvd_trans (Int.gcd_dvd_left _ _) (ih T' (by simpa using h) t z)
      · rw [List.mem_singleton] at z; subst z; exact Int.gcd_dvd_right _ _
private theorem tops_len {R : List V4} {S : List Int} {hs : List Nat} {i : Nat} {v : V4} (k : Nat) : (topsK R S hs i v k).length = R.length := by
  induction k with
  | zero => unfold topsK; rw [List.length_set, List.length_replicate]
  | succ k ih => unfold topsK; rw [List.length_set]; exact ih
private theorem held_ne {R : List V4} {s i q : Nat} {hs : List Nat} {v : V4} (g : Good R s hs) (s3 : s ≤ 3) (hv : R[i]? = some v) (neg : tL R hs v < 0) (hq : q < s) : hs.getD q 0 ≠ i := fun z => by
  have len := g.len
  have e : hs[q]? = some i := by rw [← z, List.getD_eq_getElem?_getD, List.getElem?_eq_getElem (show q < hs.length by omega)]; rfl
  have := tL_at (R := R) (show q < 3 by omega) e hv
  omega
private theorem held_at {R : List V4} {s q : Nat} {hs : List Nat} (g : Good R s hs) (hq : q < s) : hs[q]? = some (hs.getD q 0) ∧ hs.getD q 0 < R.length := by
  have len := g.len
  have e : hs[q]? = some (hs.getD q 0) := by rw [List.getD_eq_getElem?_getD, List.getElem?_eq_getElem (show q < hs.length by omega)]; rfl
  exact ⟨e, g.at_ _ (List.mem_of_getElem? e)⟩
private theorem tops_zero {R : List V4} {S : List Int} {s i : Nat} {hs : List Nat} {v : V4} (g : Good R s hs) (s3 : s ≤ 3) (hv : R[i]? = some v) (neg : tL R hs v < 0) : ∀ (k q : Nat), k ≤ q → q < s → (topsK R S hs i v k)[hs.getD q 0]? = some 0 := by
  intro k
  induction k with
  | zero =>
    intro q _ hq
    unfold topsK
    rw [List.getElem?_set_ne (Ne.symm (held_ne g s3 hv neg hq)), List.getElem?_replicate, if_pos (held_at g hq).2]
  | succ k ih =>
    intro q h1 hq
    unfold topsK
    have ne : hs.getD k 0 ≠ hs.getD q 0 := fun z => by
      have e1 := (held_at g (show k < s by omega)).1
      have e2 := (held_at g hq).1
      rw [← z] at e2
      have := g.inj s3 e1 e2
      omega
    rw [List.getElem?_set_ne ne]
    exact ih q (by omega) hq
private theorem tops_i {R : List V4} {S : List Int} {s i : Nat} {hs : List Nat} {v : V4} (g : Good R s hs) (s3 : s ≤ 3) (hv : R[i]? = some v) (neg : tL R hs v < 0) : ∀ k, k ≤ s → (topsK R S hs i v k)[i]? = some (tB R hs * S.getD i 0) := by
  intro k
  induction k with
  | zero => intro _; unfold topsK; rw [List.getElem?_set_self (by rw [List.length_replicate]; exact (List.getElem?_eq_some_iff.mp hv).1)]
  | succ k ih => intro h; unfold topsK; rw [List.getElem?_set_ne (held_ne g s3 hv neg (by omega))]; exact ih (by omega)
private theorem tops_mem {R : List V4} {S : List Int} {hs : List Nat} {i : Nat} {v : V4} : ∀ (k : Nat) (t : Int), t ∈ topsK R S hs i v k → t = 0 ∨ t = tB R hs * S.getD i 0 ∨ ∃ q, q < k ∧ t = -tQ R hs q v * S.getD (hs.getD q 0) 0 := by
  intro k
  induction k with
  | zero =>
    intro t ht
    unfold topsK at ht
    rcases List.mem_or_eq_of_mem_set ht with z | z
    · exact .inl (List.eq_of_mem_replicate z)
    · exact .inr (.inl z)
  | succ k ih =>
    intro t ht
    unfold topsK at ht
    rcases List.mem_or_eq_of_mem_set ht with z | z
    · rcases ih t z with a | a | ⟨q, a, b⟩
      · exact .inl a
      · exact .inr (.inl a)
      · exact .inr (.inr ⟨q, by omega, b⟩)
    · exact .inr (.inr ⟨k, by omega, z⟩)
noncomputable def wsOf (T : List Int) : List Rat := T.map fun t => ((t / gT T : Int) : Rat)
private theorem frD_int (t : Int) : frD (t : Rat) = .tup [.int t, .int 1] := by
  rw [frD, Rat.num_intCast, Rat.den_intCast]; rfl
noncomputable def gBar (C : Addr) : WFU := fun us M P => ∃ (m n s i : Nat) (R : List V4) (S : List Int) (hs : List Nat) (v : V4), us = [tabU C (tabR s R S (hdD hs) hs), .d (.int i)] ∧ RvOk m n s R S ∧ Good R s hs ∧ R[i]? = some v ∧ tL R hs v < 0 ∧ ∀ p, M p = none → P (.adr p) (mset M p (.own (((wsOf (topsK R S hs i v s)).map frD).map U.d)))
noncomputable abbrev s_barring_weights : Stmt := top 27
private theorem sc_barring_weights : FnScope ["table", "number", "tops", "place", "held", "shared", "top"] ["table", "number"] (defScope s_barring_weights) := ⟨rfl, rfl, rfl, by decide +kernel, rfl, by decide +kernel, by decide +kernel⟩
private theorem h_barring_weights {C fi : Addr} {fd : FuncData} (B : Bl2 mg) (F : Def K mg "barring_weights" s_barring_weights ["table", "number"]) (TC : TabC P w K mg base C fi fd) (F_common_divisor : Has P w K mg base CX0 1 "common_divisor" ["one", "other"] (spW K (pur gGcd))) :
    Has P w K mg base CX0 2 "barring_weights" ["table", "number"] (spU K (gBar C)) := by
  refine F.hasU sc_barring_weights (fun us M P h => by obtain ⟨_, _, _, _, _, _, _, _, rfl, _⟩ := h; rfl) fun f cdv A outer s H E hr => ?_
  have nd := sc_barring_weights.nd
  refine ⟨_, (jss_cons (js_setC (k := 2) nd rfl (Or.inl rfl) ["line"] [none] ⟨rfl, by decide +kernel, by decide +kernel, rfl, rfl, by intro i x j _ h; exact absurd h (by rcases i with _ | _ | _ | i <;> simp)⟩ rfl (ji_list (j_fld TC.cl TC.na_rows fa_rows (ju_v 0))) (fun _ _ _ _ _ => (jg_name (i := 0) (show List.Nodup [("line" : Str)] by decide +kernel) rfl (Or.inl rfl))) (fun _ _ _ _ _ => jc_nil) (fun _ _ _ _ _ => j_int))
    (jss_cons (js_setIxW 2 (j_mul (j_fld TC.cl TC.na_bottom fa_bottom (ju_v 0)) (j_at (j_fld TC.cl TC.na_scales fa_scales (ju_v 0)) (jv 1))) (jv 1))
    (jss_cons (js_for PassesOwn.never rfl (ji_enu rfl B.enumerate (ja_cons (j_fld TC.cl TC.na_held fa_held (ju_v 0)) ja_nil)) (jg_tup (n := 2) rfl (jgs_cons (jg_name (i := 3) nd rfl (Or.inl rfl)) (jgs_cons (jg_name (i := 4) nd rfl (Or.inl rfl)) jgs_nil)))
    (jss_one (js_setIxW 2 (j_mul (j_neg (j_at (j_at (j_fld TC.cl TC.na_rows fa_rows (ju_v 0)) (jv 1)) (jv 3))) (j_at (j_fld TC.cl TC.na_scales fa_scales (ju_v 0)) (jv 4))) (jv 4))))
    (jss_cons (js_set (i := 5) nd rfl (Or.inr rfl) j_int)
    (jss_cons (js_for PassesOwn.never rfl (ji_list (jv 2)) (jg_name (i := 6) nd rfl (Or.inl rfl))
    (jss_one (js_set (i := 5) nd rfl (Or.inr rfl) (j_h F_common_divisor (hr.mono (by decide)) rfl (ja_cons (jv 5) (ja_cons (jv 6) ja_nil))))))
    (jss_one (js_retU (ju_new (jnu_n (jn_lc ["top", "shared"] [none, some 5] ⟨rfl, by decide +kernel, by decide +kernel, rfl, rfl, free_of rfl⟩ rfl (ji_list (jv 2)) (fun _ _ _ _ _ => (jg_name (i := 0) (show List.Nodup [("top" : Str), ("shared" : Str)] by decide +kernel) rfl (Or.inl rfl))) (fun _ _ _ _ _ => jc_nil) (fun _ _ _ _ _ => (j_tup (ja_cons (j_fdiv (jv 0) (jv 1)) (ja_cons j_int ja_nil)))))))))))))), ?_⟩
  rintro us M Q ⟨m, n, s, i, R, S, hs, v, rfl, ok, g, hv, neg, k⟩
  have few := ok.few
  have bd := ok.bd
  have ls := ok.ls
  have s3 := ok.s3
  have len := g.len
  have hi := (List.getElem?_eq_some_iff.mp hv).1
  have sH := Hh_sm (R := R) (hs := hs) ok.m1 ok.sR
  have sB : Sm (3 * m + 3) (tB R hs) := sg_sm (det_sm sH.a sH.b sH.c)
  have sv := ok.sR v (List.mem_of_getElem? hv)
  have S_at : ∀ j, j < R.length → S[j]? = some (S.getD j 0) := fun j hj => by rw [List.getD_eq_getElem?_getD, List.getElem?_eq_getElem (by omega)]; rfl
  have sS : ∀ j, j < R.length → 0 < S.getD j 0 ∧ Sm n (S.getD j 0) := fun j hj => ok.sS _ (List.mem_of_getElem? (S_at j hj))
  have rl : (tabR s R S (hdD hs) hs).rows.length = R.length := by show (R.map _).length = _; rw [List.length_map]
  refine ⟨rfl, rfl, rfl, fun j out ρ M' => M' = M ∧ out = List.replicate j (D.int 0) ∧ ∃ o, ρ = [o], ⟨rfl, rfl, _, rfl⟩, ?_, ?_⟩
  · rintro j d out ρ M' hd ⟨rfl, rfl, o, rfl⟩
    have hj := (List.getElem?_eq_some_iff.mp hd).1
    rw [List.length_map, rl] at hj
    exact ⟨by rw [List.length_replicate]; exact small1000 (by omega), rfl, by rw [List.replicate_succ'], .sh d, rfl⟩
  rintro out ρ M' ⟨rfl, rfl, o, rfl⟩
  rw [List.length_map, rl]
  refine ⟨rfl, rfl, rfl, rfl, rfl, rfl, RIx.get (d := .int (S.getD i 0)) (by show (S.map D.int)[i]? = _; rw [List.getElem?_map, S_at i hi]; rfl) ⟨.inr ⟨3 * m + 3, n, by omega, sB, (sS i hi).2⟩, trivial, ?_⟩⟩
  show match ixN (List.replicate R.length (D.int 0)).length (i : Int) with | some n => _ | none => False
  rw [ixN_ok (by rw [List.length_replicate]; exact hi)]
  have e1 : (List.replicate R.length (D.int 0)).set i (.int (tB R hs * S.getD i 0)) = (topsK R S hs i v 0).map D.int := by unfold topsK; rw [List.map_set, List.map_replicate]
  refine ⟨rfl, rfl, rfl, fun j ρ M2 => M2 = M' ∧ ∃ o3 o4, ρ = [.ut (tabU C (tabR s R S (hdD hs) hs)), .sh (.int i), .ow ((topsK R S hs i v j).map D.int), o3, o4, .un, .un], ⟨rfl, _, _, by rw [← e1]; rfl⟩, ?_, ?_⟩
  · intro j d ρ M2 hd hI
    refine wabsG fun EE hE => ?_
    obtain ⟨rfl, o3, o4, rfl⟩ := hI
    obtain ⟨z, hz, rfl⟩ := enuD_get hd
    have hz : (hs.map fun h => D.int (h : Nat))[j]? = some z := hz
    obtain ⟨h, hh, rfl⟩ := map_get (f := fun h : Nat => D.int (h : Nat)) hz
    have hj : j < s := by have := (List.getElem?_eq_some_iff.mp hh).1; omega
    have eh : hs.getD j 0 = h := by rw [List.getD_eq_getElem?_getD, hh]; rfl
    have hR := (held_at g hj).2
    rw [eh] at hR
    have sq : Sm (3 * m + 3) (tQ R hs j v) := sg_sm (sH.ent sv j (by omega))
    rw [Nat.zero_add]
    refine ⟨rfl, rfl, rfl, rfl, RIx.get (d := lineD (ln s R hs v)) (by show ((R.map (ln s R hs)).map lineD)[i]? = _; rw [List.getElem?_map, List.getElem?_map, hv]; rfl) (RIx.get (d := .int (tQ R hs j v)) (by rw [List.getElem?_map, ln_at hj]; rfl) ⟨rfl, rfl, rfl, RIx.get (d := .int (S.getD h 0)) (by show (S.map D.int)[h]? = _; rw [List.getElem?_map, S_at h hR]; rfl) ⟨.inr ⟨3 * m + 3, n, by omega, sq.neg, (sS h hR).2⟩, trivial, ?_⟩⟩)⟩
    show match ixN ((topsK R S hs i v j).map D.int).length (h : Int) with | some n => _ | none => False
    rw [ixN_ok (by rw [List.length_map, tops_len]; exact hR)]
    subst hE
    refine ⟨rfl, .sh (.int (j : Nat)), .sh (.int h), ?_⟩
    have e2 : (topsK R S hs i v (j + 1)).map D.int = ((topsK R S hs i v j).map D.int).set h (.int (-tQ R hs j v * S.getD h 0)) := by
      show ((topsK R S hs i v j).set (hs.getD j 0) _).map D.int = _
      rw [List.map_set, eh]
    rw [e2]
    rfl
  rintro ρ M2 ⟨rfl, o3, o4, rfl⟩
  have ln1 : (enuD 0 (hdD hs)).length = s := by rw [enuD_len]; unfold hdD; rw [List.length_map, len]
  rw [show (enuD 0 (tabR s R S (hdD hs) hs).held).length = s from ln1]
  have lt : (topsK R S hs i v s).length = R.length := tops_len s
  have ti := tops_i (S := S) g s3 hv neg s (Nat.le_refl _)
  have tp : 0 < tB R hs * S.getD i 0 := Int.mul_pos g.pos (sS i hi).1
  have ts : Sm (3 * m + 3 + n) (tB R hs * S.getD i 0) := sB.mul (sS i hi).2
  generalize topsK R S hs i v s = T at *
  refine ⟨fun j ρ M3 => M3 = M2 ∧ ∃ (o6 : Ent), ρ = [.ut (tabU C (tabR s R S (hdD hs) hs)), .sh (.int i), .sh (.lst (T.map D.int)), o3, o4, .sh (.int (gT (T.take j))), o6], ⟨rfl, _, rfl⟩, ?_, ?_⟩
  · intro j d ρ M3 hd hI
    refine wabsG fun EE hE => ?_
    obtain ⟨rfl, o6, rfl⟩ := hI
    obtain ⟨t, ht, rfl⟩ := map_get hd
    refine ⟨_, t, rfl, ?_⟩
    subst hE
    refine ⟨rfl, .sh (.int t), ?_⟩
    rw [List.take_add_one, ht, Option.toList_some, gT_snoc]; rfl
  rintro ρ M3 ⟨rfl, o6, rfl⟩
  rw [List.length_map, List.take_length]
  have dv := gT_dvd _ T rfl
  have g0 := gT_nn T
  have di := dv _ (List.mem_of_getElem? ti)
  unfold wsOf at k
  generalize gT T = G at *
  have g1 : 0 < G := by
    rcases Int.lt_or_eq_of_le g0 with z | z
    · exact z
    · rw [← z] at di
      have := Int.zero_dvd.mp di
      omega
  have gs : Sm 9000 G := sm_le (ts.mono (by omega)) g0 (Int.le_of_dvd tp di)
  refine ⟨fun j out ρ M4 => M4 = M3 ∧ out = (T.take j).map (fun t => frD ((t / G : Int) : Rat)) ∧ ∃ o, ρ = [o, .sh (.int G)], ⟨rfl, rfl, _, rfl⟩, ?_, ?_⟩
  · rintro j d out ρ M4 hd ⟨rfl, rfl, o, rfl⟩
    obtain ⟨t, ht, rfl⟩ := map_get hd
    have hj := (List.getElem?_eq_some_iff.mp ht).1
    refine ⟨⟨by omega, gs⟩, by show 2 ≤ sizeLine; decide, take_small (by omega), rfl, ?_, .sh (.int t), rfl⟩
    dsimp only
    rw [← take_map' (f := fun t => frD ((t / G : Int) : Rat)) ht, frD_int, Int.fdiv_eq_ediv_of_nonneg _ g0]
  · rintro out ρ M4 ⟨rfl, rfl, o, rfl⟩
    intro p hp
    rw [List.length_map, List.take_length]
    refine ⟨_, Sub.refl _, ?_⟩
    have := k p hp
    rw [List.map_map (f := fun t => ((t / G : Int) : Rat))] at this
    exact this

/-! ### what the end of turning says of the rows -/
private theorem whole_rat {s : Int} {q : Rat} (h : (q.den : Int) ∣ s) : ((whole s q : Int) : Rat) = q * (s : Rat) := by
  obtain ⟨k, rfl⟩ := h
  have hd : (q.den : Int) ≠ 0 := den_ne q
  unfold whole
  rw [Int.mul_ediv_cancel_left _ hd, Rat.intCast_mul, Rat.intCast_mul]
  have e : q * ((q.den : Int) : Rat) = (q.num : Rat) := by
    have h1 : ((q.num : Int) : Rat) / ((q.den : Int) : Rat) = q := by rw [← Rat.divInt_eq_div]; exact Rat.num_divInt_den q
    have h2 : ((q.den : Int) : Rat) ≠ 0 := by
      intro z
      exact hd (by exact_mod_cast z)
    conv => lhs; lhs; rw [← h1]
    rw [Rat.div_mul_cancel h2]
  rw [← Rat.mul_assoc, e]
private theorem cast_pos {s : Int} (h : 0 < s) : (0 : Rat) < (s : Rat) := by exact_mod_cast h
private theorem rat_nn {a c : Rat} (hc : 0 < c) (h : 0 ≤ a * c) : 0 ≤ a := by
  apply Classical.byContradiction
  intro z
  have z : 0 < -a := by grind
  have := Rat.mul_pos z hc
  grind
private theorem rat_neg {a c : Rat} (hc : 0 < c) (h : a * c < 0) : a < 0 := by
  apply Classical.byContradiction
  intro z
  have := Rat.mul_nonneg (show 0 ≤ a by grind) (Rat.le_of_lt hc)
  grind
noncomputable def comp (k : Nat) (v : V4) : Int := match k with
  | 0 => v.x
  | 1 => v.y
  | _ => v.z
private theorem sc_dvd {r : BR} {q : Rat} (h : q ∈ r.1 ++ [r.2]) : (q.den : Int) ∣ scB r := (scl_ok _).2 q h
private theorem sc_pos (r : BR) : 0 < scB r := (scl_ok _).1
private theorem getD_den {r : BR} (k : Nat) : ((r.1.getD k 0).den : Int) ∣ scB r := by
  rw [List.getD_eq_getElem?_getD]
  cases e : r.1[k]? with
  | none => exact Int.one_dvd _
  | some q => exact sc_dvd (List.mem_append_left _ (List.mem_of_getElem? e))
private theorem comp_rat {r : BR} {k : Nat} (hk : k < 3) : ((comp k (vecOf (scB r) r) : Int) : Rat) = r.1.getD k 0 * (scB r : Rat) := by
  rcases three hk with rfl | rfl | rfl
  · exact whole_rat (getD_den 0)
  · exact whole_rat (getD_den 1)
  · exact whole_rat (getD_den 2)
private theorem e_rat {r : BR} : ((vecOf (scB r) r).e : Rat) = r.2 * (scB r : Rat) := whole_rat (sc_dvd (List.mem_append_right _ (List.mem_singleton.mpr rfl)))
private theorem tL_lin (R : List V4) (hs : List Nat) (v : V4) : tL R hs v = v.x * tL R hs (uv 0) + v.y * tL R hs (uv 1) + v.z * tL R hs (uv 2) + tB R hs * v.e := by
  unfold tL tB
  rw [lst_lin (Hh R hs) v]
  grind
private theorem tQ_cra (R : List V4) (hs : List Nat) (v : V4) {k : Nat} (hk : k < 3) : tB R hs * comp k v = tQ R hs 0 v * comp k (Hh R hs 0) + tQ R hs 1 v * comp k (Hh R hs 1) + tQ R hs 2 v * comp k (Hh R hs 2) := by
  obtain ⟨c0, c1, c2⟩ := cra (Hh R hs 0) (Hh R hs 1) (Hh R hs 2) v
  have f : ∀ {A B C D a b c d : Int}, A * a + B * b + C * c = D * d → sg (dt (Hh R hs)) * D * d = sg (dt (Hh R hs)) * A * a + sg (dt (Hh R hs)) * B * b + sg (dt (Hh R hs)) * C * c := fun h => by
    generalize sg (dt (Hh R hs)) = u
    grind
  rcases three hk with rfl | rfl | rfl
  · exact f c0
  · exact f c1
  · exact f c2
private theorem tQ_e (R : List V4) (hs : List Nat) (v : V4) : tL R hs v = tB R hs * v.e - (tQ R hs 0 v * (Hh R hs 0).e + tQ R hs 1 v * (Hh R hs 1).e + tQ R hs 2 v * (Hh R hs 2).e) := by
  unfold tL tB tQ lst
  grind
noncomputable def xsOf (s : Nat) (R : List V4) (hs : List Nat) : List Rat := (List.range s).map fun k => Rat.divInt (tL R hs (uv k)) (tB R hs)
private theorem dot_s {s : Nat} (s3 : s ≤ 3) {b : List Rat} (hb : b.length = s) (f : Nat → Rat) : dot b ((List.range s).map f) = b.getD 0 0 * f 0 + b.getD 1 0 * f 1 + b.getD 2 0 * f 2 := by
  rcases s4 s3 with rfl | rfl | rfl | rfl
  · cases List.length_eq_zero_iff.mp hb; show (0 : Rat) = 0 * f 0 + 0 * f 1 + 0 * f 2; grind
  · obtain ⟨x, rfl⟩ := len1 hb; show x * f 0 + 0 = x * f 0 + 0 * f 1 + 0 * f 2; grind
  · obtain ⟨x, y, rfl⟩ := len2 hb; show x * f 0 + (y * f 1 + 0) = x * f 0 + y * f 1 + 0 * f 2; grind
  · obtain ⟨x, y, z, rfl⟩ := len3 hb; show x * f 0 + (y * f 1 + (z * f 2 + 0)) = x * f 0 + y * f 1 + z * f 2; grind
noncomputable def KeepsL (Rs : List BR) (xs : List Rat) : Prop := ∀ r ∈ Rs, 0 ≤ dot r.1 xs + r.2
private theorem end_keeps {n t δ s : Nat} {Rs : List BR} {hs : List Nat} (ok : LowOk n t δ s Rs) (pos : 0 < tB (RV Rs) hs) (all : ∀ v ∈ RV Rs, 0 ≤ tL (RV Rs) hs v) : KeepsL Rs (xsOf s (RV Rs) hs) := by
  intro r hr
  have nn := all _ (List.mem_map.mpr ⟨r, hr, rfl⟩)
  rw [tL_lin] at nn
  unfold xsOf
  rw [dot_s ok.s3 (ok.len r hr)]
  have p1 := cast_pos pos
  have hX : ∀ k, Rat.divInt (tL (RV Rs) hs (uv k)) (tB (RV Rs) hs) * ((tB (RV Rs) hs : Int) : Rat) = ((tL (RV Rs) hs (uv k) : Int) : Rat) := fun k => by
    rw [Rat.divInt_eq_div, Rat.div_mul_cancel (by grind)]
  have h0 := hX 0
  have h1 := hX 1
  have h2 := hX 2
  have c0 := comp_rat (r := r) (k := 0) (by decide)
  have c1 := comp_rat (r := r) (k := 1) (by decide)
  have c2 := comp_rat (r := r) (k := 2) (by decide)
  have ce := e_rat (r := r)
  have cs := cast_pos (sc_pos r)
  have nq : (0 : Rat) ≤ ((comp 0 (vecOf (scB r) r) : Int) : Rat) * ((tL (RV Rs) hs (uv 0) : Int) : Rat) + ((comp 1 (vecOf (scB r) r) : Int) : Rat) * ((tL (RV Rs) hs (uv 1) : Int) : Rat) + ((comp 2 (vecOf (scB r) r) : Int) : Rat) * ((tL (RV Rs) hs (uv 2) : Int) : Rat) + ((tB (RV Rs) hs : Int) : Rat) * (((vecOf (scB r) r).e : Int) : Rat) := by
    exact_mod_cast nn
  rw [c0, c1, c2, ce, ← h0, ← h1, ← h2] at nq
  generalize Rat.divInt (tL (RV Rs) hs (uv 0)) (tB (RV Rs) hs) = X0 at *
  generalize Rat.divInt (tL (RV Rs) hs (uv 1)) (tB (RV Rs) hs) = X1 at *
  generalize Rat.divInt (tL (RV Rs) hs (uv 2)) (tB (RV Rs) hs) = X2 at *
  generalize ((tB (RV Rs) hs : Int) : Rat) = bt at *
  generalize ((scB r : Int) : Rat) = sc at *
  generalize r.1.getD 0 0 = b0 at *
  generalize r.1.getD 1 0 = b1 at *
  generalize r.1.getD 2 0 = b2 at *
  refine rat_nn (Rat.mul_pos p1 cs) ?_
  have e : (b0 * X0 + b1 * X1 + b2 * X2 + r.2) * (bt * sc) = b0 * sc * (X0 * bt) + b1 * sc * (X1 * bt) + b2 * sc * (X2 * bt) + bt * (r.2 * sc) := by grind
  rw [e]
  exact nq
/-! ### the weights bar -/
private theorem dot_nil {rs : List Rat} : dot [] rs = 0 := by cases rs <;> rfl
private theorem dot_rep : ∀ (n : Nat) (rs : List Rat), dot (List.replicate n 0) rs = 0 := by
  intro n
  induction n with
  | zero => intro rs; exact dot_nil
  | succ n ih =>
    intro rs
    cases rs with
    | nil => rfl
    | cons r rs =>
      rw [List.replicate_succ, dot, ih, Rat.zero_mul, Rat.add_zero]
private theorem dot_set {v : Rat} : ∀ {qs rs : List Rat} {i : Nat} {q r : Rat}, qs[i]? = some q → rs[i]? = some r → dot (qs.set i v) rs = dot qs rs + (v - q) * r := by
  intro qs
  induction qs with
  | nil => intro rs i q r h; simp at h
  | cons a qs ih =>
    intro rs i q r h1 h2
    cases rs with
    | nil => simp at h2
    | cons b rs =>
      cases i with
      | zero =>
        simp only [List.getElem?_cons_zero] at h1 h2
        cases h1; cases h2
        rw [List.set_cons_zero, dot, dot]; grind
      | succ i =>
        rw [List.getElem?_cons_succ] at h1 h2
        rw [List.set_cons_succ, dot, dot, ih h1 h2]; grind
private theorem dot_div {G : Int} : ∀ {T : List Int} {rs : List Rat}, (∀ t ∈ T, G ∣ t) → dot (T.map fun t => ((t / G : Int) : Rat)) rs * (G : Rat) = dot (T.map fun t => ((t : Int) : Rat)) rs := by
  intro T
  induction T with
  | nil => intro rs _; rw [List.map_nil, List.map_nil, dot_nil, Rat.zero_mul]
  | cons t T ih =>
    intro rs h
    cases rs with
    | nil => show (0 : Rat) * _ = 0; rw [Rat.zero_mul]
    | cons r rs =>
      have i := ih (rs := rs) fun u hu => h u (.tail _ hu)
      have e : ((t / G : Int) : Rat) * (G : Rat) = (t : Rat) := by rw [← Rat.intCast_mul, Int.ediv_mul_cancel (h t (.head _))]
      rw [List.map_cons, List.map_cons, dot, dot, ← i, ← e]
      grind
noncomputable def sumN (f : Nat → Rat) : Nat → Rat
  | 0 => 0
  | k + 1 => sumN f k + f k
private theorem dot_tops {R : List V4} {S : List Int} {s i : Nat} {hs : List Nat} {v : V4} {col : List Rat} (g : Good R s hs) (s3 : s ≤ 3) (hv : R[i]? = some v) (neg : tL R hs v < 0) (hc : col.length = R.length) : ∀ k, k ≤ s → dot ((topsK R S hs i v k).map fun t => ((t : Int) : Rat)) col = ((tB R hs * S.getD i 0 : Int) : Rat) * col.getD i 0 + sumN (fun q => ((-tQ R hs q v * S.getD (hs.getD q 0) 0 : Int) : Rat) * col.getD (hs.getD q 0) 0) k := by
  have cat : ∀ j, j < R.length → col[j]? = some (col.getD j 0) := fun j hj => by rw [List.getD_eq_getElem?_getD, List.getElem?_eq_getElem (by omega)]; rfl
  have hi := (List.getElem?_eq_some_iff.mp hv).1
  intro k
  induction k with
  | zero =>
    intro _
    unfold topsK sumN
    rw [List.map_set, List.map_replicate, dot_set (q := 0) (by rw [List.getElem?_replicate, if_pos hi]; rfl) (cat i hi)]
    rw [show (((0 : Int)) : Rat) = 0 from rfl, dot_rep]
    grind
  | succ k ih =>
    intro hk
    unfold topsK sumN
    rw [List.map_set, dot_set (q := 0) (by rw [List.getElem?_map, tops_zero g s3 hv neg k k (Nat.le_refl _) (by omega)]; rfl) (cat _ (held_at g (by omega)).2), ih (by omega)]
    grind
private theorem sum3 {s : Nat} (s3 : s ≤ 3) {f : Nat → Rat} (h : ∀ q, s ≤ q → q < 3 → f q = 0) : sumN f s = f 0 + f 1 + f 2 := by
  rcases s4 s3 with rfl | rfl | rfl | rfl
  · rw [h 0 (by decide) (by decide), h 1 (by decide) (by decide), h 2 (by decide) (by decide)]; show (0 : Rat) = 0 + 0 + 0; grind
  · rw [h 1 (by decide) (by decide), h 2 (by decide) (by decide)]; show 0 + f 0 = _; grind
  · rw [h 2 (by decide) (by decide)]; show 0 + f 0 + f 1 = _; grind
  · show 0 + f 0 + f 1 + f 2 = _; grind
private theorem sum_congr {f g : Nat → Rat} : ∀ (s : Nat), (∀ q, q < s → f q = g q) → sumN f s = sumN g s := by
  intro s
  induction s with
  | zero => intro _; rfl
  | succ s ih => intro h; show sumN f s + f s = sumN g s + g s; rw [ih fun q hq => h q (by omega), h s (by omega)]
structure BarsL (n s : Nat) (Rs : List BR) (ws : List Rat) : Prop where
  len : ws.length = Rs.length
  nn : ∀ w ∈ ws, 0 ≤ w
  z : ∀ k, k < s → dot ws (Rs.map fun r => r.1.getD k 0) = 0
  lt : dot ws (Rs.map fun r => r.2) < 0
  s : ∀ w ∈ ws, SmR n w
private theorem end_bars {n t δ s i : Nat} {Rs : List BR} {hs : List Nat} {v : V4} (ok : LowOk n t δ s Rs) (rv : RvOk (n + δ) (t + δ) s (RV Rs) (SV Rs)) (g : Good (RV Rs) s hs) (hv : (RV Rs)[i]? = some v) (neg : tL (RV Rs) hs v < 0) (le : ∀ q, q < hs.length → tQ (RV Rs) hs q v ≤ 0) : BarsL (3 * n + t + 4 * δ + 10) s Rs (wsOf (topsK (RV Rs) (SV Rs) hs i v s)) := by
  have s3 := ok.s3
  have len := g.len
  have lR : (RV Rs).length = Rs.length := by unfold RV; rw [List.length_map]
  have hi := (List.getElem?_eq_some_iff.mp hv).1
  have row : ∀ j, j < (RV Rs).length → ∃ r, Rs[j]? = some r ∧ (RV Rs)[j]? = some (vecOf (scB r) r) ∧ (SV Rs).getD j 0 = scB r := fun j hj => by
    rw [lR] at hj
    have e : Rs[j]? = some (Rs[j]'hj) := List.getElem?_eq_getElem hj
    refine ⟨_, e, by unfold RV; rw [List.getElem?_map, e]; rfl, ?_⟩
    unfold SV
    rw [List.getD_eq_getElem?_getD, List.getElem?_map, e]; rfl
  obtain ⟨ri, hri, hvi, hsi⟩ := row i hi
  rw [hv] at hvi
  cases hvi
  have Hq : ∀ q, q < s → ∃ r, Rs[hs.getD q 0]? = some r ∧ Hh (RV Rs) hs q = vecOf (scB r) r ∧ (SV Rs).getD (hs.getD q 0) 0 = scB r := fun q hq => by
    obtain ⟨h1, h2⟩ := held_at g hq
    obtain ⟨r, a, b, c⟩ := row _ h2
    exact ⟨r, a, Hh_of h1 b, c⟩
  have Hu : ∀ q, s ≤ q → Hh (RV Rs) hs q = uv q := fun q hq => Hh_none (by omega)
  have tp : 0 < tB (RV Rs) hs * (SV Rs).getD i 0 := by rw [hsi]; exact Int.mul_pos g.pos (sc_pos ri)
  have lt := tops_len (R := RV Rs) (S := SV Rs) (hs := hs) (i := i) (v := vecOf (scB ri) ri) s
  have dv := gT_dvd _ (topsK (RV Rs) (SV Rs) hs i (vecOf (scB ri) ri) s) rfl
  have g0 := gT_nn (topsK (RV Rs) (SV Rs) hs i (vecOf (scB ri) ri) s)
  have ti := tops_i (S := SV Rs) g s3 hv neg s (Nat.le_refl _)
  have g1 : 0 < gT (topsK (RV Rs) (SV Rs) hs i (vecOf (scB ri) ri) s) := by
    rcases Int.lt_or_eq_of_le g0 with z | z
    · exact z
    · have di := dv _ (List.mem_of_getElem? ti)
      rw [← z] at di
      have := Int.zero_dvd.mp di
      omega
  have sH := Hh_sm (R := RV Rs) (hs := hs) rv.m1 rv.sR
  have sv := rv.sR _ (List.mem_of_getElem? hv)
  have tn : ∀ t' ∈ topsK (RV Rs) (SV Rs) hs i (vecOf (scB ri) ri) s, 0 ≤ t' ∧ Sm (3 * n + t + 4 * δ + 10) t' := fun t' ht => by
    rcases tops_mem s t' ht with rfl | rfl | ⟨q, hq, rfl⟩
    · exact ⟨Int.le_refl _, by unfold Sm; exact Nat.pow_pos (by decide)⟩
    · refine ⟨Int.le_of_lt tp, ?_⟩
      have := (rv.sS _ (List.mem_of_getElem? (i := i) (show (SV Rs)[i]? = some ((SV Rs).getD i 0) by rw [List.getD_eq_getElem?_getD, List.getElem?_eq_getElem (by rw [rv.ls]; exact hi)]; rfl))).2
      exact (sm_m (sg_sm (det_sm sH.a sH.b sH.c)) this rfl).mono (by omega)
    · have hq3 : q < 3 := by omega
      have l1 := le q (by omega)
      obtain ⟨r, a, b, c⟩ := Hq q hq
      have h2 := (held_at g hq).2
      have := (rv.sS _ (List.mem_of_getElem? (i := hs.getD q 0) (show (SV Rs)[hs.getD q 0]? = some ((SV Rs).getD (hs.getD q 0) 0) by rw [List.getD_eq_getElem?_getD (l := SV Rs), List.getElem?_eq_getElem (by rw [rv.ls]; exact h2)]; rfl)))
      refine ⟨Int.mul_nonneg (by omega) (Int.le_of_lt this.1), ?_⟩
      exact (sm_m (Sm.neg (sg_sm (sH.ent sv q hq3))) this.2 rfl).mono (by omega)
  have colat : ∀ (f : BR → Rat) (j : Nat) (r : BR), Rs[j]? = some r → (Rs.map f).getD j 0 = f r := fun f j r h => by rw [List.getD_eq_getElem?_getD, List.getElem?_map, h]; rfl
  have key : ∀ (f : BR → Rat) (c : V4 → Int), (∀ r, ((c (vecOf (scB r) r) : Int) : Rat) = f r * (scB r : Rat)) → (∀ q, s ≤ q → q < 3 → c (uv q) = 0) →
      dot ((topsK (RV Rs) (SV Rs) hs i (vecOf (scB ri) ri) s).map fun t => ((t : Int) : Rat)) (Rs.map f) = ((tB (RV Rs) hs * c (vecOf (scB ri) ri) - (tQ (RV Rs) hs 0 (vecOf (scB ri) ri) * c (Hh (RV Rs) hs 0) + tQ (RV Rs) hs 1 (vecOf (scB ri) ri) * c (Hh (RV Rs) hs 1) + tQ (RV Rs) hs 2 (vecOf (scB ri) ri) * c (Hh (RV Rs) hs 2)) : Int) : Rat) := fun f c hf hz => by
    rw [dot_tops g s3 hv neg (by rw [List.length_map, lR]) s (Nat.le_refl _), colat f i ri hri, hsi]
    have e1 : sumN (fun q => ((-tQ (RV Rs) hs q (vecOf (scB ri) ri) * (SV Rs).getD (hs.getD q 0) 0 : Int) : Rat) * (Rs.map f).getD (hs.getD q 0) 0) s = sumN (fun q => ((-tQ (RV Rs) hs q (vecOf (scB ri) ri) * c (Hh (RV Rs) hs q) : Int) : Rat)) s := by
      refine sum_congr s fun q hq => ?_
      obtain ⟨r, a, b, e⟩ := Hq q hq
      rw [colat f _ r a, e, b, Rat.intCast_mul, Rat.intCast_mul, hf r]
      grind
    rw [e1, sum3 s3 fun q h1 h2 => by rw [Hu q h1, hz q h1 h2, Int.mul_zero]; rfl]
    have e2 : ((tB (RV Rs) hs * scB ri : Int) : Rat) * f ri = ((tB (RV Rs) hs * c (vecOf (scB ri) ri) : Int) : Rat) := by
      rw [Rat.intCast_mul, Rat.intCast_mul, hf ri]; grind
    rw [e2, ← Rat.intCast_add, ← Rat.intCast_add, ← Rat.intCast_add]
    congr 1
    grind
  have cg := cast_pos g1
  refine ⟨?_, fun w hw => ?_, fun k hk => ?_, ?_, fun w hw => ?_⟩
  · unfold wsOf; rw [List.length_map, lt, lR]
  · unfold wsOf at hw
    obtain ⟨t', ht, rfl⟩ := List.mem_map.mp hw
    exact_mod_cast Int.ediv_nonneg (tn t' ht).1 g0
  · have e := dot_div (rs := Rs.map fun r => r.1.getD k 0) dv
    rw [key (fun r => r.1.getD k 0) (comp k) (fun r => comp_rat (by omega)) (fun q h1 h2 => by
      have : k ≠ q := by omega
      rcases three (show k < 3 by omega) with rfl | rfl | rfl <;> rcases three h2 with rfl | rfl | rfl <;> first | exact absurd rfl this | rfl)] at e
    rw [tQ_cra (RV Rs) hs _ (show k < 3 by omega), Int.sub_self] at e
    rcases Rat.mul_eq_zero.mp e with z | z
    · exact z
    · grind
  · have e := dot_div (rs := Rs.map fun r => r.2) dv
    rw [key (fun r => r.2) (fun v => v.e) (fun r => e_rat) (fun q h1 h2 => by rcases three h2 with rfl | rfl | rfl <;> rfl), ← tQ_e] at e
    refine rat_neg cg ?_
    unfold wsOf
    rw [e]
    exact_mod_cast neg
  · unfold wsOf at hw
    obtain ⟨t', ht, rfl⟩ := List.mem_map.mp hw
    obtain ⟨t0, st⟩ := tn t' ht
    refine ⟨?_, ?_⟩
    · rw [Rat.num_intCast]; exact sm_le st (Int.ediv_nonneg t0 g0) (Int.ediv_le_self _ t0)
    · rw [Rat.den_intCast]; exact (show Sm 1 ((1 : Nat) : Int) by unfold Sm; decide).mono (by omega)

/-! ### a choice, or weights that bar, told as a new list -/
noncomputable def CfIs (s : Nat) (Rs : List BR) (d : D) : Prop := ∃ ks r, Runs (RV Rs) (lows Rs.length s) ks ∧ Good (RV Rs) s ks ∧ EndR (RV Rs) ks r ∧ ((r = .non ∧ d = .tup [.str "choice", frL (xsOf s (RV Rs) ks)]) ∨ ∃ (i : Nat) (v : V4), r = .int i ∧ (RV Rs)[i]? = some v ∧ d = .tup [.str "bars", frL (wsOf (topsK (RV Rs) (SV Rs) ks i v s))])
private theorem CfIs.one {n t δ s : Nat} {Rs : List BR} {d d' : D} (ok : LowOk n t δ s Rs) (h : CfIs s Rs d) (h' : CfIs s Rs d') : d = d' := by
  obtain ⟨ks, r, run, g, en, h⟩ := h
  obtain ⟨ks', r', run', g', en', h'⟩ := h'
  obtain ⟨rfl, rfl⟩ := Runs.one ok.s3 (low_good ok) run run' en en'
  rcases h with ⟨e, rfl⟩ | ⟨i, v, e, hv, rfl⟩
  · rcases h' with ⟨_, rfl⟩ | ⟨i', v', e', _⟩
    · rfl
    · rw [e] at e'; cases e'
  · rcases h' with ⟨e', _⟩ | ⟨i', v', e', hv', rfl⟩
    · rw [e] at e'; cases e'
    · rw [e] at e'
      have e' : (i : Int) = (i' : Int) := by injection e'
      have : i = i' := by omega
      subst this
      rw [hv] at hv'; cases hv'
      rfl
noncomputable def CfSays (N s : Nat) (Rs : List BR) (d : D) : Prop := (∃ xs, d = .tup [.str "choice", frL xs] ∧ xs.length = s ∧ KeepsL Rs xs ∧ ∀ x ∈ xs, SmR N x) ∨ ∃ ws, d = .tup [.str "bars", frL ws] ∧ BarsL N s Rs ws
private theorem CfIs.says {n t δ s : Nat} {Rs : List BR} {d : D} (ok : LowOk n t δ s Rs) (h : CfIs s Rs d) : CfSays (3 * n + t + 4 * δ + 10) s Rs d := by
  have rv := ok.rv
  obtain ⟨ks, r, run, g, en, h⟩ := h
  rcases h with ⟨rfl, rfl⟩ | ⟨i, v, rfl, hv, rfl⟩
  · left
    rcases en with ⟨_, all⟩ | ⟨_, _, e, _⟩
    · refine ⟨_, rfl, by unfold xsOf; rw [List.length_map, List.length_range], end_keeps ok g.pos all, fun x hx => ?_⟩
      unfold xsOf at hx
      obtain ⟨k, _, rfl⟩ := List.mem_map.mp hx
      have sH := Hh_sm (R := RV Rs) (hs := ks) rv.m1 rv.sR
      have p := g.pos
      exact fr_sm (by omega) ((sg_sm (sH.lst (uv_sm rv.m1 k))).mono (by omega)) ((sg_sm (det_sm sH.a sH.b sH.c)).mono (by omega))
    · cases e
  · right
    rcases en with ⟨e, _⟩ | ⟨j, w, e, hw, neg, _, le⟩
    · cases e
    · have e : (i : Int) = (j : Int) := by injection e
      have : i = j := by omega
      subst this
      rw [hv] at hw; cases hw
      exact ⟨_, rfl, end_bars ok rv g hv neg le⟩
noncomputable def gCF (P0 : Addr) : List D → Mm → (D → Prop) → Prop := fun ds M Q => ∃ (d0 : D) (T : List (Rat × Rat)) (Z : List ZR) (made : List Rat) (n t δ : Nat), ds = [.tup [d0, .lst (T.map bQ), .lst (Z.map zQ)], frL made] ∧ RowsOk T Z made ∧ LowOk n t δ T.length (rowsQ T Z made) ∧ M P0 = some (.tab lamP lamQ) ∧
  ∀ d, CfIs T.length (rowsQ T Z made) d → Q d
private theorem noLs_fr (xs : List Rat) : noLs (xs.map frD) = true := noLs_map fun _ => rfl
noncomputable abbrev s_choice_for : Stmt := top 32
private theorem sc_choice_for : FnScope ["plan", "made", "end"] ["plan", "made"] (defScope s_choice_for) := ⟨rfl, rfl, rfl, by decide +kernel, rfl, by decide +kernel, by decide +kernel⟩
private theorem h_choice_for {C fi P0 : Addr} {fd : FuncData} (B : Bl mg) (F : Def K mg "choice_for" s_choice_for ["plan", "made"]) (TC : TabC P w K mg base C fi fd) (F_settled : Has P w K mg base CX0 6 "settled" ["table"] (spU K (gSet C P0))) (F_table_at_lows : Has P w K mg base CX0 4 "table_at_lows" ["shim_count", "rows"] (spU K (gLows C)))
    (F_rows_of : Has P w K mg base CX0 5 "rows_of" ["plan", "made"] (spN K gRows)) (F_choice_at : Has P w K mg base CX0 3 "choice_at" ["table"] (spU K (gCA C))) (F_barring_weights : Has P w K mg base CX0 2 "barring_weights" ["table", "number"] (spU K (gBar C))) :
    Has P w K mg base CX0 7 "choice_for" ["plan", "made"] (spNM K (gCF P0)) := by
  refine hasNM F sc_choice_for (fun ds M P h => by obtain ⟨_, _, _, _, _, _, _, rfl, _⟩ := h; rfl) fun f cdv A outer s H E hr => ?_
  have nd := sc_choice_for.nd
  refine ⟨_, (jss_cons (js_setU (i := 2) nd rfl (Or.inl rfl) (ju_h F_settled (hr.mono (by decide)) rfl (jua_cons (ju_h F_table_at_lows (hr.mono (by decide)) rfl (jua_cons (ju_d (j_len rfl B.len (ja_cons (j_atV 0 j_int) ja_nil))) (jua_cons (ju_d (j_h (L3.Has.toW F_rows_of) (hr.mono (by decide)) rfl (ja_cons (jv 0) (ja_cons (jv 1) ja_nil)))) jua_nil))) jua_nil)))
    (jss_cons (js_if (jt_isN (je_u (ju_at (ju_v 2) j_int)) j_non) (jss_one (js_retU (ju_tup (jua_cons (ju_d j_str) (jua_cons (ju_h F_choice_at (hr.mono (by decide)) rfl (jua_cons (ju_at (ju_v 2) j_int) jua_nil)) jua_nil))))) jss_nil)
    (jss_one (js_retU (ju_tup (jua_cons (ju_d j_str) (jua_cons (ju_h F_barring_weights (hr.mono (by decide)) rfl (jua_cons (ju_at (ju_v 2) j_int) (jua_cons (ju_at (ju_v 2) j_int) jua_nil))) jua_nil))))))), ?_⟩
  rintro ds M Q ⟨d0, T, Z, made, n, t, δ, rfl, rok, ok, hM, k⟩
  refine ⟨d0, T, Z, made, rfl, rok, ?_⟩
  refine ⟨n, t, δ, T.length, rowsQ T Z made, by rw [← List.length_map (f := bQ)], ok, ?_⟩
  generalize rowsQ T Z made = Rs at *
  have rv := ok.rv
  have s3 := ok.s3
  refine ⟨_, _, T.length, RV Rs, SV Rs, lows Rs.length T.length, rfl, rv, low_good ok, hM, fun ks r run g en => ⟨.d r, rfl, ?_⟩⟩
  show if isN r = true then _ else _
  have en0 := en
  rcases en with ⟨rfl, all⟩ | ⟨i, v, rfl, hv, neg, first, le⟩
  · have tb := rv.tab (hd := hdD ks) (hs := ks) g.pos
    refine iteY rfl ⟨_, rfl, tabR T.length (RV Rs) (SV Rs) (hdD ks) ks, rfl, fun l hl => ?_, tb.fewS, tb.b0, tb.sb, fun p hp => ⟨by show 2 ≤ sizeLine; decide, .tup [.str "choice", frL (xsOf T.length (RV Rs) ks)], _, Sub.refl _, ?_, k _ ⟨ks, .non, run, g, en0, .inl ⟨rfl, rfl⟩⟩⟩⟩
    · obtain ⟨j, _, rfl⟩ := List.mem_map.mp hl
      intro z
      have := ln_len (s := T.length) (R := RV Rs) (hs := ks) (v := uv j)
      rw [z] at this
      simp at this
    · have e : ((tabR T.length (RV Rs) (SV Rs) (hdD ks) ks).shims.map fun l => frD (Rat.divInt (lastI l) (tabR T.length (RV Rs) (SV Rs) (hdD ks) ks).bottom)) = (xsOf T.length (RV Rs) ks).map frD := by
        unfold xsOf
        show ((List.range T.length).map fun k => ln T.length (RV Rs) ks (uv k)).map _ = _
        rw [List.map_map, List.map_map]
        refine List.map_congr_left fun j _ => ?_
        show frD (Rat.divInt (lastI (ln T.length (RV Rs) ks (uv j))) (tB (RV Rs) ks)) = _
        rw [ln_last]; rfl
      rw [e]
      exact Fresh.tup (.cons (.leaf rfl) (.cons (.newD (noLs_fr _) hp) .nil))
  · refine iteN rfl ⟨_, rfl, _, rfl, _, _, T.length, i, RV Rs, SV Rs, ks, v, rfl, rv, g, hv, neg, fun p hp => ⟨by show 2 ≤ sizeLine; decide, .tup [.str "bars", frL (wsOf (topsK (RV Rs) (SV Rs) ks i v T.length))], _, Sub.refl _, Fresh.tup (.cons (.leaf rfl) (.cons (.newD (noLs_fr _) hp) .nil)), k _ ⟨ks, .int i, run, g, en0, .inr ⟨i, v, rfl, hv, rfl⟩⟩⟩⟩
/-! ### the rows of a plan are such -/
private theorem bnd_at {T : List (Rat × Rat)} {k : Nat} {x : Rat × Rat} (h : T[k]? = some x) : (bndRows T)[2 * k]? = some (unitQ T.length k 1, -x.1) ∧ (bndRows T)[2 * k + 1]? = some (unitQ T.length k (-1), x.2) := by
  unfold bndRows
  have go : ∀ (l : List (List BR)) (k : Nat) (a b : BR), (∀ y ∈ l, y.length = 2) → l[k]? = some [a, b] → l.flatten[2 * k]? = some a ∧ l.flatten[2 * k + 1]? = some b := by
    intro l
    induction l with
    | nil => intro k a b _ h; simp at h
    | cons y l ih =>
      intro k a b hl h
      have ly := hl y (.head _)
      cases k with
      | zero =>
        simp only [List.getElem?_cons_zero] at h
        cases h
        exact ⟨rfl, rfl⟩
      | succ k =>
        rw [List.getElem?_cons_succ] at h
        obtain ⟨e1, e2⟩ := ih k a b (fun z hz => hl z (.tail _ hz)) h
        rw [List.flatten_cons]
        refine ⟨?_, ?_⟩
        · rw [List.getElem?_append_right (by omega), ly, show 2 * (k + 1) - 2 = 2 * k by omega]; exact e1
        · rw [List.getElem?_append_right (by omega), ly, show 2 * (k + 1) + 1 - 2 = 2 * k + 1 by omega]; exact e2
  refine go _ k _ _ (fun y hy => ?_) ?_
  · obtain ⟨j, hj, rfl⟩ := List.mem_mapIdx.mp hy; rfl
  · rw [List.getElem?_mapIdx, h]; rfl
private theorem bnd_mem {T : List (Rat × Rat)} {r : BR} (h : r ∈ bndRows T) : ∃ (k : Nat) (x : Rat × Rat), T[k]? = some x ∧ (r = (unitQ T.length k 1, -x.1) ∨ r = (unitQ T.length k (-1), x.2)) := by
  unfold bndRows at h
  obtain ⟨l, hl, hr⟩ := List.mem_flatten.mp h
  obtain ⟨k, hk, rfl⟩ := List.mem_mapIdx.mp hl
  refine ⟨k, T[k], List.getElem?_eq_getElem hk, ?_⟩
  unfold bndAt at hr
  rcases List.mem_cons.mp hr with z | z
  · exact .inl z
  · exact .inr (List.mem_singleton.mp z)
private theorem rows_low {n t δ : Nat} {T : List (Rat × Rat)} {Z : List ZR} {made : List Rat} (n1 : 1 ≤ n) (nt : n ≤ t) (bd : 6 * n + 2 * t + 8 * δ + 12 ≤ 8000) (s3 : T.length ≤ 3) (lZ : Z.length ≤ 900) (lz : ∀ z ∈ Z, z.2.1.length = T.length) (sb : ∀ z ∈ Z, ∀ q ∈ z.2.1, SmR n q) (sd : ∀ z ∈ Z, SmR t (dot z.1 made + z.2.2)) (sT : ∀ x ∈ T, SmR t x.1 ∧ SmR t x.2) (dz : ∀ z ∈ Z, ∃ D : Int, 0 < D ∧ Sm δ D ∧ (∀ q ∈ z.2.1, (q.den : Int) ∣ D) ∧ ((dot z.1 made + z.2.2).den : Int) ∣ D) (dT : ∀ x ∈ T, Sm δ (x.1.den : Int) ∧ Sm δ (x.2.den : Int)) : LowOk n t δ T.length (rowsQ T Z made) := by
  have lr : (rowsQ T Z made).length = Z.length + 2 * T.length := by unfold rowsQ; rw [List.length_append, List.length_map, bnd_rows_len]
  have o1 : SmR n 1 := SmR.mono (a := 1) ⟨by unfold Sm; decide, by unfold Sm; decide⟩ n1
  have o2 : SmR n (-1) := SmR.mono (a := 1) ⟨by unfold Sm; decide, by unfold Sm; decide⟩ n1
  have o0 : SmR n 0 := SmR.mono (a := 1) ⟨by unfold Sm; decide, by unfold Sm; decide⟩ n1
  have un : ∀ (k : Nat) (x : Rat), SmR n x → ∀ q ∈ unitQ T.length k x, SmR n q := fun k x hx q hq => by
    unfold unitQ at hq
    rcases List.mem_or_eq_of_mem_set hq with z | z
    · rw [List.eq_of_mem_replicate z]; exact o0
    · rw [z]; exact hx
  have ul : ∀ (k : Nat) (x : Rat), (unitQ T.length k x).length = T.length := fun k x => by unfold unitQ; rw [List.length_set, List.length_replicate]
  refine ⟨n1, nt, bd, s3, by omega, by omega, fun r hr => ?_, fun r hr => ?_, fun r hr => ?_, fun r hr => ?_, fun k hk => ?_⟩
  · rcases List.mem_append.mp hr with h | h
    · obtain ⟨z, hz, rfl⟩ := List.mem_map.mp h; exact lz z hz
    · obtain ⟨k, x, _, rfl | rfl⟩ := bnd_mem h <;> exact ul _ _
  · rcases List.mem_append.mp hr with h | h
    · obtain ⟨z, hz, rfl⟩ := List.mem_map.mp h; exact sb z hz
    · obtain ⟨k, x, _, rfl | rfl⟩ := bnd_mem h
      · exact un k 1 o1
      · exact un k (-1) o2
  · rcases List.mem_append.mp hr with h | h
    · obtain ⟨z, hz, rfl⟩ := List.mem_map.mp h; exact sd z hz
    · obtain ⟨k, x, hx, rfl | rfl⟩ := bnd_mem h
      · obtain ⟨a, b⟩ := (sT x (List.mem_of_getElem? hx)).1
        exact ⟨by rw [Rat.neg_num]; exact a.neg, by rw [Rat.neg_den]; exact b⟩
      · exact (sT x (List.mem_of_getElem? hx)).2
  · have u1 : ∀ (k : Nat) (x y : Rat), x.den = 1 → ∀ q ∈ unitQ T.length k x ++ [y], (q.den : Int) ∣ (y.den : Int) := fun k x y hx q hq => by
      rcases List.mem_append.mp hq with a | a
      · unfold unitQ at a
        rcases List.mem_or_eq_of_mem_set a with z | z
        · rw [List.eq_of_mem_replicate z]; exact Int.one_dvd _
        · rw [z, hx]; exact Int.one_dvd _
      · rw [List.mem_singleton] at a; subst a; exact Int.dvd_refl _
    rcases List.mem_append.mp hr with h | h
    · obtain ⟨z, hz, rfl⟩ := List.mem_map.mp h
      obtain ⟨D, D0, sD, d1, d2⟩ := dz z hz
      refine ⟨D, D0, sD, fun q hq => ?_⟩
      rcases List.mem_append.mp hq with a | a
      · exact d1 q a
      · rw [List.mem_singleton] at a; subst a; exact d2
    · obtain ⟨k, x, hx, rfl | rfl⟩ := bnd_mem h
      · exact ⟨_, den_pos _, by rw [Rat.neg_den]; exact (dT x (List.mem_of_getElem? hx)).1, u1 k 1 (-x.1) rfl⟩
      · exact ⟨_, den_pos _, (dT x (List.mem_of_getElem? hx)).2, u1 k (-1) x.2 rfl⟩
  · refine ⟨(unitQ T.length k 1, -(T[k]'hk).1), ?_, rfl⟩
    have := (bnd_at (List.getElem?_eq_getElem hk)).1
    unfold rowsQ
    rw [List.length_append, List.length_map, bnd_rows_len, List.getElem?_append_right (by rw [List.length_map]; omega), List.length_map, show Z.length + 2 * T.length - 2 * (T.length - k) - Z.length = 2 * k by omega]
    exact this

/-! ### fractions over a common bottom -/
noncomputable def Wh (D n : Nat) (q : Rat) : Prop := ∃ k : Int, q = Rat.divInt k D ∧ Sm n k
private theorem Wh.mono {D a b : Nat} {q : Rat} (h : Wh D a q) (k : a ≤ b) : Wh D b q := let ⟨x, e, s⟩ := h; ⟨x, e, s.mono k⟩
private theorem Wh.add {D n : Nat} {q r : Rat} (h : Wh D n q) (k : Wh D n r) : Wh D (n + 1) (q + r) := by
  obtain ⟨a, rfl, sa⟩ := h
  obtain ⟨b, rfl, sb⟩ := k
  refine ⟨a + b, ?_, sa.add sb⟩
  rw [Rat.divInt_eq_div, Rat.divInt_eq_div, Rat.divInt_eq_div, Rat.intCast_add, Rat.div_def, Rat.div_def, Rat.div_def, Rat.add_mul]
private theorem Wh.mul {D E n m : Nat} {q r : Rat} (h : Wh D n q) (k : Wh E m r) : Wh (D * E) (n + m) (q * r) := by
  obtain ⟨a, rfl, sa⟩ := h
  obtain ⟨b, rfl, sb⟩ := k
  exact ⟨a * b, by rw [Rat.divInt_mul_divInt, Int.natCast_mul], sa.mul sb⟩
private theorem Wh.up {D n m : Nat} {q : Rat} (c : Nat) (h : Wh D n q) (c0 : c ≠ 0) (sc : Sm m (c : Int)) : Wh (D * c) (n + m) q := by
  obtain ⟨a, rfl, sa⟩ := h
  refine ⟨a * c, ?_, sa.mul sc⟩
  rw [Int.natCast_mul, Rat.divInt_mul_right (by omega)]
private theorem Wh.smr {D n : Nat} {q : Rat} (h : Wh D n q) (d0 : D ≠ 0) (sD : Sm n (D : Int)) : SmR n q := by
  obtain ⟨a, rfl, sa⟩ := h
  exact fr_sm (by omega) sa sD
private theorem Wh.den {D n m : Nat} {q : Rat} (h : Wh D n q) (d0 : D ≠ 0) (sD : Sm m (D : Int)) : Sm m (q.den : Int) := by
  obtain ⟨a, rfl, _⟩ := h
  have hb : (D : Int) ≠ 0 := by omega
  have e2 := fr_den (a := a) hb
  rw [if_neg (by omega), Int.fdiv_eq_ediv_of_nonneg _ (by omega)] at e2
  refine sm_le sD (by omega) ?_
  rw [e2]
  exact Int.ediv_le_self _ (by omega)
private theorem Wh.dvd {D n : Nat} {q : Rat} (h : Wh D n q) (d0 : D ≠ 0) : (q.den : Int) ∣ (D : Int) := by
  obtain ⟨a, rfl, _⟩ := h
  have hb : (D : Int) ≠ 0 := by omega
  have e2 := fr_den (a := a) hb
  have gp := gcd_pos (a := a) hb
  have gp' : 0 < (Int.gcd a (D : Int) : Int) := by omega
  clear gp
  rw [if_neg (by omega), Int.fdiv_eq_ediv_of_nonneg _ (by omega)] at e2
  rw [e2]
  obtain ⟨c, hc⟩ := Int.gcd_dvd_right a (D : Int)
  generalize (Int.gcd a (D : Int) : Int) = g at *
  rw [hc, Int.mul_ediv_cancel_left _ (by omega)]
  exact ⟨g, Int.mul_comm g c⟩
private theorem Wh.of {n : Nat} {a : Int} {d c : Nat} (c0 : c ≠ 0) (h : Sm n (a * c)) : Wh (d * c) n (Rat.divInt a d) := ⟨a * c, by rw [Int.natCast_mul, Rat.divInt_mul_right (by omega)], h⟩

/-! ### the script's cells -/
noncomputable def gCell : List D → (D → Prop) → Prop := fun ds P => ∃ k : Int, ds = [.int k] ∧ 0 ≤ k ∧ k ≤ 1000 ∧ ∀ c : Int, P (.int c)
private theorem at_get {α : Type} {ns : List α} {k : Int} (k0 : 0 ≤ k) (h : k < (ns.length : Int)) : ∃ c, atI ns k = some c := by
  refine ⟨ns[k.toNat]'(by omega), ?_⟩
  have := at_nat (ds := ns) (k := k.toNat) (List.getElem?_eq_getElem (by omega))
  rw [Int.toNat_of_nonneg k0] at this
  exact this
noncomputable abbrev s_law_cell : Stmt := top 35
private theorem sc_law_cell : FnScope ["script", "k"] ["script", "k"] (defScope s_law_cell) := ⟨rfl, rfl, rfl, by decide +kernel, rfl, by decide +kernel, by decide +kernel⟩
private theorem h__law_cell (B : Bl mg) (F : Def K mg "_law_cell" s_law_cell ["script", "k"]) : Has P w K mg base CX0 1 "_law_cell" ["script", "k"] (spD K (Scr K) gCell) := by
  refine F.hasD sc_law_cell (fun ds P h => by obtain ⟨_, rfl, _⟩ := h; rfl) fun f cdv A outer s H E hr => ?_
  have nd := sc_law_cell.nd
  refine ⟨_, (jss_cons (js_if (jt_lt (jv 1) (j_lenS 0 rfl B.len)) (jss_one (js_ret (j_atS 0 (jv 1)))) jss_nil)
    (jss_one (js_ret (j_add (j_add (j_mul (j_mul j_int (jv 1)) (jv 1)) (j_mul j_int (jv 1))) j_int)))), ?_⟩
  rintro p ds M Q ⟨ns, hN⟩ ⟨k, rfl, k0, k1, q⟩
  refine ⟨ns, hN, ?_⟩
  show if decide (k < (ns.length : Int)) = true then _ else _
  refine iteB (fun c => ?_) (fun c => ?_)
  · obtain ⟨x, hx⟩ := at_get k0 (show k < (ns.length : Int) by simpa using c)
    exact ⟨ns, x, hN, hx, Sub.refl _, q x⟩
  · exact ⟨cmL ⟨by decide, by decide⟩, cmR ⟨by omega, by omega⟩, cmL ⟨by decide, by decide⟩, Sub.refl _, q _⟩
noncomputable abbrev hCell (P : Program) (w : World) (K : PySem.W.Frag) (mg : Str → Option Value) (base : Heap) : Prop := Has P w K mg base CX0 1 "_law_cell" ["script", "k"] (spD K (Scr K) gCell)
noncomputable def gAny2 : List D → (D → Prop) → Prop := fun ds P => ∃ c k : Int, ds = [.int c, .int k] ∧ 0 ≤ k ∧ k ≤ 1000 ∧ ∀ r : Int, P (.int r)
noncomputable abbrev s_law_mixed : Stmt := top 36
private theorem sc_law_mixed : FnScope ["cell", "k", "number"] ["cell", "k"] (defScope s_law_mixed) := ⟨rfl, rfl, rfl, by decide +kernel, rfl, by decide +kernel, by decide +kernel⟩
private theorem h__law_mixed (B : Bl mg) (F : Def K mg "_law_mixed" s_law_mixed ["cell", "k"]) : Has P w K mg base CX0 1 "_law_mixed" ["cell", "k"] (spW K (pur gAny2)) := by
  refine F.hasP sc_law_mixed (fun ds P h => by obtain ⟨_, _, rfl, _⟩ := h; rfl) fun f cdv A outer s H E hr => ?_
  have nd := sc_law_mixed.nd
  refine ⟨_, (jss_cons (js_set (i := 2) nd rfl (Or.inl rfl) (j_mod (j_add (j_add (j_add (j_mul (jv 0) j_int) (j_mul (j_mul j_int (jv 1)) (jv 1))) (j_mul j_int (jv 1))) j_int) j_int))
    (jss_cons (js_set (i := 2) nd rfl (Or.inl rfl) (j_mod (j_mul (jv 2) (jv 2)) j_int))
    (jss_one (js_ret (j_add (j_mul (jv 2) j_int) (j_mod (jv 0) j_int)))))), ?_⟩
  rintro ds M Q ⟨c, k, rfl, k0, k1, q⟩
  refine ⟨cmR ⟨by decide, by decide⟩, cmL ⟨by decide, by decide⟩, cmR ⟨by omega, by omega⟩, cmL ⟨by decide, by decide⟩, (by decide : (2147483647 : Int) ≠ 0), cmR ?_, (by decide : (2147483629 : Int) ≠ 0), cmR ⟨by decide, by decide⟩, (by decide : (7 : Int) ≠ 0), _, Sub.refl _, q _⟩
  have : ∀ x : Int, 0 ≤ x.fmod 2147483647 ∧ x.fmod 2147483647 < 2147483647 := fun x => by rw [Int.fmod_eq_emod_of_nonneg _ (by decide)]; exact ⟨Int.emod_nonneg _ (by decide), Int.emod_lt_of_pos _ (by decide)⟩
  exact ⟨by have := (this (c * 48271 + 7919 * k * k + 104729 * k + 11)).1; omega, by have := (this (c * 48271 + 7919 * k * k + 104729 * k + 11)).2; omega⟩
noncomputable abbrev s_law_divisor : Stmt := top 37
private theorem sc_law_divisor : FnScope ["one", "other"] ["one", "other"] (defScope s_law_divisor) := ⟨rfl, rfl, rfl, by decide +kernel, rfl, by decide +kernel, by decide +kernel⟩
private theorem h__law_divisor (B : Bl mg) (F : Def K mg "_law_divisor" s_law_divisor ["one", "other"]) : Has P w K mg base CX0 1 "_law_divisor" ["one", "other"] (spW K (pur gGcd)) := by
  refine F.hasP sc_law_divisor (fun ds P h => by obtain ⟨a, b, rfl, _⟩ := h; rfl) fun f cdv A outer s H E hr => ?_
  have nd := sc_law_divisor.nd
  refine ⟨_, (jss_cons (js_par (ps_par (i := 0) (j := 1) rfl nd rfl rfl (by decide) rfl rfl (JA.h (ja_cons (j_abs rfl B.abs (ja_cons (jv 0) ja_nil)) (ja_cons (j_abs rfl B.abs (ja_cons (jv 1) ja_nil)) ja_nil))) rfl))
    (jss_cons (js_while PassesOwn.never (jt_gt (jv 1) j_int) (jss_one (js_par (ps_par (i := 0) (j := 1) rfl nd rfl rfl (by decide) rfl rfl (JA.h (ja_cons (jv 1) (ja_cons (j_mod (jv 0) (jv 1)) ja_nil))) rfl))))
    (jss_one (js_ret (jv 0))))), ?_⟩
  rintro ds M Q ⟨a, b, rfl, q⟩
  refine ⟨fun m ρ M' => M' = M ∧ ∃ (l k : Int), ρ = [.sh (.int l), .sh (.int k)] ∧ m = k.natAbs ∧ 0 ≤ l ∧ 0 ≤ k ∧ Int.gcd l k = Int.gcd a b, ⟨_, rfl, _, _, rfl, rfl, ?_, ?_, abs_gcd a b⟩, ?_⟩
  · split <;> omega
  · split <;> omega
  rintro m ρ M' ⟨rfl, l, k, rfl, rfl, l0, k0, e⟩
  show if decide (0 < k) = true then _ else _
  refine iteB (fun c => ?_) (fun c => ?_)
  · have c' : k ≠ 0 := by have : 0 < k := by simpa using c
                          omega
    exact ⟨c', _, fmod_small (a := l) c', rfl, _, _, rfl, rfl, k0, Int.fmod_nonneg l0 k0, by rw [gcd_step, e]⟩
  · have c' : k = 0 := by have : ¬ 0 < k := by simpa using c
                          omega
    subst c'
    have e2 : l = (Int.gcd a b : Int) := by
      rw [← e, Int.gcd_zero_right]
      omega
    exact ⟨_, Sub.refl _, by rw [e2]; exact q⟩
noncomputable abbrev s_law_fraction : Stmt := top 38
private theorem sc_law_fraction : FnScope ["top", "bottom", "common"] ["top", "bottom"] (defScope s_law_fraction) := ⟨rfl, rfl, rfl, by decide +kernel, rfl, by decide +kernel, by decide +kernel⟩
private theorem h__law_fraction (B : Bl mg) (F : Def K mg "_law_fraction" s_law_fraction ["top", "bottom"]) (F__law_divisor : Has P w K mg base CX0 1 "_law_divisor" ["one", "other"] (spW K (pur gGcd))) : Has P w K mg base CX0 2 "_law_fraction" ["top", "bottom"] (spW K (pur gFr)) := by
  refine F.hasP sc_law_fraction (fun ds P h => by obtain ⟨a, b, rfl, _⟩ := h; rfl) fun f cdv A outer s H E hr => ?_
  have nd := sc_law_fraction.nd
  refine ⟨_, (jss_cons (js_if (jt_lt (jv 1) j_int) (jss_one (js_par (ps_par (i := 0) (j := 1) rfl nd rfl rfl (by decide) rfl rfl (JA.h (ja_cons (j_sub j_int (jv 0)) (ja_cons (j_sub j_int (jv 1)) ja_nil))) rfl))) jss_nil)
    (jss_cons (js_set (i := 2) nd rfl (Or.inl rfl) (j_h F__law_divisor (hr.mono (by decide)) rfl (ja_cons (jv 0) (ja_cons (jv 1) ja_nil))))
    (jss_one (js_ret (j_tup (ja_cons (j_fdiv (jv 0) (jv 2)) (ja_cons (j_fdiv (jv 1) (jv 2)) ja_nil))))))), ?_⟩
  rintro ds M Q ⟨a, b, rfl, hb, hs, q⟩
  have fin : ∀ a b : Int, 0 < b → Sm 9000 b → CDivS a (Int.gcd a b) ∧ CDivS b (Int.gcd a b) ∧ frD (Rat.divInt a b) = .tup [.int (a.fdiv (Int.gcd a b)), .int (b.fdiv (Int.gcd a b))] := by
    intro a b h hs
    have hb : b ≠ 0 := by omega
    have gs : Sm 9000 (Int.gcd a b : Int) := gcd_sm hb hs
    have gp := gcd_pos (a := a) hb
    refine ⟨⟨by omega, gs⟩, ⟨by omega, gs⟩, ?_⟩
    have e1 := fr_num (a := a) hb
    have e2 := fr_den (a := a) hb
    rw [if_neg (by omega)] at e1 e2
    unfold frD
    rw [e1, e2]
  show if decide (b < 0) = true then _ else _
  refine iteB (fun c => ?_) (fun c => ?_)
  · have c' : b < 0 := by simpa using c
    obtain ⟨g0, g1, g2⟩ := fin (0 - a) (0 - b) (by omega) (by rw [Int.zero_sub]; exact hs.neg)
    refine ⟨_, _, rfl, g0, g1, by show 2 ≤ sizeLine; decide, _, Sub.refl _, ?_⟩
    have e : Rat.divInt (0 - a) (0 - b) = Rat.divInt a b := by rw [Int.zero_sub, Int.zero_sub, Rat.neg_divInt_neg]
    rw [e] at g2
    rw [g2] at q
    exact q
  · have c' : ¬ b < 0 := by simpa using c
    obtain ⟨g0, g1, g2⟩ := fin a b (by omega) hs
    rw [g2] at q
    exact ⟨_, _, rfl, g0, g1, by show 2 ≤ sizeLine; decide, _, Sub.refl _, q⟩

noncomputable abbrev hLFr (P : Program) (w : World) (K : PySem.W.Frag) (mg : Str → Option Value) (base : Heap) : Prop := Has P w K mg base CX0 2 "_law_fraction" ["top", "bottom"] (spW K (pur gFr))
noncomputable abbrev s_law_plus : Stmt := top 39
private theorem sc_law_plus : FnScope ["q", "r"] ["q", "r"] (defScope s_law_plus) := ⟨rfl, rfl, rfl, by decide +kernel, rfl, by decide +kernel, by decide +kernel⟩
private theorem h__law_plus (B : Bl mg) (F : Def K mg "_law_plus" s_law_plus ["q", "r"]) (F__law_fraction : hLFr P w K mg base) : Has P w K mg base CX0 3 "_law_plus" ["q", "r"] (spW K (pur (gOp fun q r => q + r))) := by
  refine F.hasP sc_law_plus (fun ds P h => by obtain ⟨a, b, rfl, _⟩ := h; rfl) fun f cdv A outer s H E hr => ?_
  have nd := sc_law_plus.nd
  refine ⟨_, (jss_one (js_ret (j_h F__law_fraction (hr.mono (by decide)) rfl (ja_cons (j_add (j_mul (j_atV 0 j_int) (j_atV 1 j_int)) (j_mul (j_atV 1 j_int) (j_atV 0 j_int))) (ja_cons (j_mul (j_atV 0 j_int) (j_atV 1 j_int)) ja_nil))))), ?_⟩
  rintro ds M Q ⟨q, r, rfl, m, k⟩
  exact ⟨m.c1, m.c2, m.c3, _, _, rfl, den_mul q r, m.s, _, Sub.refl _, by rw [r_add]; exact k⟩
noncomputable abbrev s_law_times : Stmt := top 40
private theorem sc_law_times : FnScope ["q", "r"] ["q", "r"] (defScope s_law_times) := ⟨rfl, rfl, rfl, by decide +kernel, rfl, by decide +kernel, by decide +kernel⟩
private theorem h__law_times (B : Bl mg) (F : Def K mg "_law_times" s_law_times ["q", "r"]) (F__law_fraction : hLFr P w K mg base) : Has P w K mg base CX0 3 "_law_times" ["q", "r"] (spW K (pur (gOp fun q r => q * r))) := by
  refine F.hasP sc_law_times (fun ds P h => by obtain ⟨a, b, rfl, _⟩ := h; rfl) fun f cdv A outer s H E hr => ?_
  have nd := sc_law_times.nd
  refine ⟨_, (jss_one (js_ret (j_h F__law_fraction (hr.mono (by decide)) rfl (ja_cons (j_mul (j_atV 0 j_int) (j_atV 1 j_int)) (ja_cons (j_mul (j_atV 0 j_int) (j_atV 1 j_int)) ja_nil))))), ?_⟩
  rintro ds M Q ⟨q, r, rfl, m, k⟩
  exact ⟨m.c4, m.c3, _, _, rfl, den_mul q r, m.s, _, Sub.refl _, by rw [r_mul]; exact k⟩
noncomputable abbrev hLP (P : Program) (w : World) (K : PySem.W.Frag) (mg : Str → Option Value) (base : Heap) : Prop := Has P w K mg base CX0 3 "_law_plus" ["q", "r"] (spW K (pur (gOp fun q r => q + r)))
noncomputable abbrev hLT (P : Program) (w : World) (K : PySem.W.Frag) (mg : Str → Option Value) (base : Heap) : Prop := Has P w K mg base CX0 3 "_law_times" ["q", "r"] (spW K (pur (gOp fun q r => q * r)))
noncomputable abbrev s_law_sum : Stmt := top 42
private theorem sc_law_sum : FnScope ["ones", "others", "found", "q", "r"] ["ones", "others"] (defScope s_law_sum) := ⟨rfl, rfl, rfl, by decide +kernel, rfl, by decide +kernel, by decide +kernel⟩
private theorem h__law_sum (B : Bl mg) (F : Def K mg "_law_sum" s_law_sum ["ones", "others"]) (F__law_plus : hLP P w K mg base) (F__law_times : hLT P w K mg base) : Has P w K mg base CX0 4 "_law_sum" ["ones", "others"] (spW K (pur gWS)) := by
  refine F.hasP sc_law_sum (fun ds P h => by obtain ⟨a, b, _, _, _, rfl, _⟩ := h; rfl) fun f cdv A outer s H E hr => ?_
  have nd := sc_law_sum.nd
  refine ⟨_, (jss_cons (js_set (i := 2) nd rfl (Or.inl rfl) (j_tup (ja_cons j_int (ja_cons j_int ja_nil))))
    (jss_cons (js_for PassesOwn.never rfl (ji_zip rfl B.zip (ja_cons (jv 0) (ja_cons (jv 1) ja_nil))) (jg_tup (n := 2) rfl (jgs_cons (jg_name (i := 3) nd rfl (Or.inl rfl)) (jgs_cons (jg_name (i := 4) nd rfl (Or.inl rfl)) jgs_nil)))
    (jss_one (js_set (i := 2) nd rfl (Or.inl rfl) (j_h F__law_plus (hr.mono (by decide)) rfl (ja_cons (jv 2) (ja_cons (j_h F__law_times (hr.mono (by decide)) rfl (ja_cons (jv 3) (ja_cons (jv 4) ja_nil))) ja_nil))))))
    (jss_one (js_ret (jv 2))))), ?_⟩
  rintro ds M Q ⟨qs, rs, n, m, k, rfl, t, q⟩
  refine ⟨by show 2 ≤ sizeLine; decide, fun i ρ M' => M' = M ∧ ∃ o3 o4, ρ = [.sh (frL qs), .sh (frL rs), .sh (frD (dot (qs.take i) (rs.take i))), o3, o4], ⟨rfl, _, _, rfl⟩, ?_, ?_⟩
  · rintro i d ρ M' hd ⟨rfl, o3, o4, rfl⟩
    obtain ⟨a, b, ha, hb, rfl⟩ := zip_fr hd
    have hi : i < qs.length := (List.getElem?_eq_some_iff.mp ha).1
    have few := t.few
    have bnd := t.bnd
    have b1 := Nat.mul_le_mul_left (n + m + 1) (show i + 1 ≤ k by omega)
    rw [Nat.mul_add, Nat.mul_one] at b1
    have sa := t.s1 _ (List.mem_of_getElem? ha)
    have sb := t.s2 _ (List.mem_of_getElem? hb)
    refine ⟨rfl, a, b, rfl, Mx.of sa sb (by omega), _, _, rfl, Mx.of (dot_sm t.s1 t.s2 t.len i (by omega)) (smr_mul sa sb) (by omega), rfl, .sh (frD a), .sh (frD b), ?_⟩
    rw [dot_take ha hb]; rfl
  · rintro ρ M' ⟨rfl, o3, o4, rfl⟩
    refine ⟨_, Sub.refl _, ?_⟩
    have e : (zipD (qs.map frD) (rs.map frD)).length = qs.length := by rw [zipD_len, List.length_map, List.length_map, t.len, Nat.min_self]
    rw [e, List.take_length, t.len, List.take_length]
    exact q
noncomputable def gDrawn : List D → (D → Prop) → Prop := fun ds P => ∃ c : Int, ds = [.int c] ∧ ∀ q : Rat, Wh 6 5 q → P (frD q)
private theorem fm {x b : Int} (h : 0 < b) : 0 ≤ x.fmod b ∧ x.fmod b < b := by
  rw [Int.fmod_eq_emod_of_nonneg _ (by omega)]; exact ⟨Int.emod_nonneg _ (by omega), Int.emod_lt_of_pos _ h⟩
private theorem at_mem {ds : List D} {i : Int} (h0 : 0 ≤ i) (h1 : i < ds.length) : ∃ d, d ∈ ds ∧ atI ds i = some d := by
  refine ⟨ds[i.toNat]'(by omega), List.getElem_mem _, ?_⟩
  unfold atI ixN
  rw [if_pos h0, if_pos h1]
  exact List.getElem?_eq_getElem _
private theorem RIx.lst {ds : List D} {i : Int} {P : D → Prop} (h0 : 0 ≤ i) (h1 : i < ds.length) (k : ∀ d, d ∈ ds → P d) : RIx (.lst ds) (.int i) P := by
  obtain ⟨d, hd, e⟩ := at_mem h0 h1
  show match atI ds i with | some d => P d | none => False
  rw [e]
  exact k d hd
private theorem cdv {i j : Int} (h : j ≠ 0 := by decide) (k : j.natAbs < 2 ^ 30 := by decide) : CDivS i j := ⟨h, Sm.mono (a := 30) k (by decide)⟩
private theorem wh6 {n : Nat} {x m : Int} (m1 : 1 ≤ m) (m3 : m ≤ 3) (h6 : Sm n (x * (6 : Nat))) (h3 : Sm n (x * (3 : Nat))) (h2 : Sm n (x * (2 : Nat))) : Wh 6 n (Rat.divInt x m) := by
  rcases (show m = 1 ∨ m = 2 ∨ m = 3 by omega) with rfl | rfl | rfl
  · exact Wh.of (d := 1) (c := 6) (by decide) h6
  · exact Wh.of (d := 2) (c := 3) (by decide) h3
  · exact Wh.of (d := 3) (c := 2) (by decide) h2
noncomputable abbrev s_law_drawn : Stmt := top 44
private theorem sc_law_drawn : FnScope ["cell"] ["cell"] (defScope s_law_drawn) := ⟨rfl, rfl, rfl, by decide +kernel, rfl, by decide +kernel, by decide +kernel⟩
private theorem h__law_drawn (B : Bl mg) (F : Def K mg "_law_drawn" s_law_drawn ["cell"]) (F__law_fraction : hLFr P w K mg base) : Has P w K mg base CX0 3 "_law_drawn" ["cell"] (spW K (pur gDrawn)) := by
  refine F.hasP sc_law_drawn (fun ds P h => by obtain ⟨_, rfl, _⟩ := h; rfl) fun f cdv A outer s H E hr => ?_
  have nd := sc_law_drawn.nd
  refine ⟨_, (jss_one (js_ret (j_h F__law_fraction (hr.mono (by decide)) rfl (ja_cons (j_sub (j_mod (jv 0) j_int) j_int) (ja_cons (j_at (j_fz (jn_lst (ja_cons j_int (ja_cons j_int (ja_cons j_int (ja_cons j_int ja_nil)))))) (j_mod (j_fdiv (jv 0) j_int) j_int)) ja_nil))))), ?_⟩
  rintro ds M Q ⟨c, rfl, q⟩
  refine ⟨(by decide : (9 : Int) ≠ 0), by show 4 ≤ sizeLine; decide, _root_.M.cdv, (by decide : (4 : Int) ≠ 0), RIx.lst (fm (by decide)).1 (fm (by decide)).2 fun d hd => ?_⟩
  have hd : d ∈ [(1 : Int), 1, 2, 3].map D.int := hd
  obtain ⟨m, hm, rfl⟩ := List.mem_map.mp hd
  have mb : ∀ m ∈ [(1 : Int), 1, 2, 3], 1 ≤ m ∧ m ≤ 3 := by decide
  obtain ⟨m1, m3⟩ := mb m hm
  have f9 := fm (x := c) (b := 9) (by decide)
  have s1 : Sm 4 (c.fmod 9 - 4) := by unfold Sm; omega
  have s2 : Sm 4 m := by unfold Sm; omega
  refine ⟨_, _, rfl, by omega, s2.mono (by decide), _, Sub.refl _, q _ ?_⟩
  exact wh6 m1 m3 (by unfold Sm; omega) (by unfold Sm; omega) (by unfold Sm; omega)

noncomputable def bW (x : Rat × Rat) : Prop := (Wh 6 7 x.1 ∧ Wh 6 7 x.2) ∧ x.1 ≤ x.2
noncomputable def bQok (n : Nat) (x : Rat × Rat) : Prop := SmR n x.1 ∧ SmR n x.2
private theorem bW.ok {x : Rat × Rat} (h : bW x) : bQok 7 x := ⟨h.1.1.smr (by decide) (by unfold Sm; decide), h.1.2.smr (by decide) (by unfold Sm; decide)⟩
private theorem Wh.s5 {q : Rat} (h : Wh 6 5 q) : SmR 5 q := h.smr (by decide) (by unfold Sm; decide)
structure P13 (S T : List (Rat × Rat)) (Z : List ZR) : Prop where
  s1 : 1 ≤ S.length
  s6 : S.length ≤ 6
  t3 : T.length ≤ 3
  z11 : Z.length ≤ 11
  oS : ∀ x ∈ S, bW x
  oT : ∀ x ∈ T, bW x
  l1 : ∀ z ∈ Z, z.1.length = S.length
  l2 : ∀ z ∈ Z, z.2.1.length = T.length
  q1 : ∀ z ∈ Z, ∀ q ∈ z.1, Wh 6 5 q
  q2 : ∀ z ∈ Z, ∀ q ∈ z.2.1, Wh 6 5 q
  q3 : ∀ z ∈ Z, Wh 6 5 z.2.2
noncomputable def planQ (S T : List (Rat × Rat)) (Z : List ZR) : D := .tup [.lst (S.map bQ), .lst (T.map bQ), .lst (Z.map zQ)]
noncomputable def gPlan13 : List D → (D → Prop) → Prop := fun ds P => ds = [.int 2] ∧ ∀ S T Z, P13 S T Z → P (planQ S T Z)
private theorem all_snoc {α : Type} {l : List α} {x : α} {p : α → Prop} (h : ∀ y ∈ l, p y) (k : p x) : ∀ y ∈ l ++ [x], p y := fun y hy => by
  rcases List.mem_append.mp hy with z | z
  · exact h y z
  · rw [List.mem_singleton] at z; subst z; exact k
/-! bounds, each told once -/
private theorem no_mem {α : Type} {p : α → Prop} : ∀ x ∈ ([] : List α), p x := fun _ h => nomatch h
private theorem natOf {r b : Int} (h : 0 ≤ r ∧ r < b) : ∃ n : Nat, r = (n : Int) ∧ (n : Int) < b := ⟨r.toNat, by omega, by omega⟩
structure PN (m f r : Nat) : Prop where
  m1 : 1 ≤ m
  m6 : m ≤ 6
  f3 : f ≤ 3
  r11 : r ≤ 11
private theorem PN.big {x y z : Nat} (hx : (x : Int) < 3) (hy : (y : Int) < 4) (hz : (z : Int) < 4) : PN (1 + x + 3) y (z + 8) := ⟨by omega, by omega, by omega, by omega⟩
private theorem PN.few {x y z : Nat} (hx : (x : Int) < 3) (hy : (y : Int) < 4) (hz : (z : Int) < 4) : PN (1 + x) y z := ⟨by omega, by omega, by omega, by omega⟩
private theorem PN.rng {m f r : Nat} (h : PN m f r) : -(2 ^ 62 : Int) ≤ (m : Int) + (f : Int) ∧ (m : Int) + (f : Int) < 2 ^ 62 := by have := h.m6; have := h.f3; exact ⟨by omega, by omega⟩
private theorem PN.rngR {m f r : Nat} (h : PN m f r) : -(2 ^ 62 : Int) ≤ (r : Int) ∧ (r : Int) < 2 ^ 62 := by have := h.r11; exact ⟨by omega, by omega⟩
private theorem PN.lt {m f r i : Nat} (h : PN m f r) (hi : i < ((m : Int) + (f : Int)).toNat) : i < m + f ∧ (0 : Int) ≤ 2 + (i : Int) ∧ (2 : Int) + (i : Int) ≤ 1000 := by have := h.m6; have := h.f3; exact ⟨by omega, by omega, by omega⟩
private theorem PN.ltR {m f r i : Nat} (h : PN m f r) (hi : i < ((r : Int)).toNat) : i < 11 ∧ (0 : Int) ≤ 2 + 7 + (i : Int) ∧ (2 : Int) + 7 + (i : Int) ≤ 1000 ∧ (0 : Int) ≤ (i : Int) ∧ (i : Int) ≤ 1000 := by have := h.r11; exact ⟨by omega, by omega, by omega, by omega, by omega⟩
private theorem ltT {i m : Nat} (h : decide ((i : Int) < (m : Int)) = true) : i < m := by have := of_decide_eq_true h; omega
private theorem ltF {i m : Nat} (h : decide ((i : Int) < (m : Int)) = false) : ¬ i < m := by have := of_decide_eq_false h; omega
structure Lk (i m s t : Nat) : Prop where
  s : s = min i m
  t : t = i - m
private theorem Lk.z (m : Nat) : Lk 0 m 0 0 := ⟨by omega, by omega⟩
private theorem Lk.a {i m s t : Nat} (h : Lk i m s t) (c : i < m) : Lk (i + 1) m (s + 1) t := by have := h.s; have := h.t; exact ⟨by omega, by omega⟩
private theorem Lk.b {i m s t : Nat} (h : Lk i m s t) (c : ¬ i < m) : Lk (i + 1) m s (t + 1) := by have := h.s; have := h.t; exact ⟨by omega, by omega⟩
private theorem Lk.few {i m f r s t : Nat} (h : Lk i m s t) (p : PN m f r) (hi : i < m + f) : s ≤ 1000 ∧ t ≤ 1000 := by have := h.s; have := h.t; have := p.m6; have := p.f3; exact ⟨by omega, by omega⟩
private theorem Lk.e {m f s t : Nat} (h : Lk ((m : Int) + (f : Int)).toNat m s t) : s = m ∧ t = f := by have := h.s; have := h.t; exact ⟨by omega, by omega⟩
private theorem len_snoc {α : Type} {l : List α} {x : α} : (l ++ [x]).length = l.length + 1 := by rw [List.length_append]; rfl
private theorem map_few {α : Type} {f : α → D} {l : List α} (h : l.length ≤ 1000) : (l.map f).length < sizeLine := by rw [List.length_map]; exact small1000 h
private theorem wh_step {x y : Int} (hx : 0 ≤ x ∧ x < 7) (hy : 0 ≤ y ∧ y < 3) : 1 + y ≠ 0 ∧ Sm 9000 (1 + y) ∧ SmR 4 (Rat.divInt x (1 + y)) ∧ Wh 6 6 (Rat.divInt x (1 + y)) ∧ 0 ≤ Rat.divInt x (1 + y) := by
  have s2 : Sm 4 (1 + y) := by unfold Sm; omega
  have n : 1 + y ≠ 0 := by omega
  exact ⟨n, s2.mono (by decide), fr_sm n (by unfold Sm; omega) s2, wh6 (by omega) (by omega) (by unfold Sm; omega) (by unfold Sm; omega) (by unfold Sm; omega), Rat.divInt_nonneg hx.1 (by omega)⟩
noncomputable abbrev s_law_plan : Stmt := top 45
private theorem sc_law_plan : FnScope ["script", "start", "sizes", "shims", "many", "free", "rows", "k", "cell", "low", "high", "demands", "a", "b", "j"] ["script", "start"] (defScope s_law_plan) := ⟨rfl, rfl, rfl, by decide +kernel, rfl, by decide +kernel, by decide +kernel⟩
private theorem h__law_plan (B : Bl mg) (F : Def K mg "_law_plan" s_law_plan ["script", "start"]) (F__law_cell : hCell P w K mg base) (F__law_drawn : Has P w K mg base CX0 3 "_law_drawn" ["cell"] (spW K (pur gDrawn))) (F__law_plus : hLP P w K mg base) (F__law_fraction : hLFr P w K mg base) (F__law_mixed : Has P w K mg base CX0 1 "_law_mixed" ["cell", "k"] (spW K (pur gAny2))) : Has P w K mg base CX0 4 "_law_plan" ["script", "start"] (spD K (Scr K) gPlan13) := by
  refine F.hasD sc_law_plan (fun ds P h => by obtain ⟨rfl, _⟩ := h; rfl) fun f cdv A outer s H E hr => ?_
  have nd := sc_law_plan.nd
  refine ⟨_, (jss_cons (js_setN (i := 2) nd rfl (Or.inl rfl) (jn_lst ja_nil))
    (jss_cons (js_setN (i := 3) nd rfl (Or.inl rfl) (jn_lst ja_nil))
    (jss_cons (js_set (i := 4) nd rfl (Or.inl rfl) (j_add j_int (j_mod (j_hD 0 F__law_cell (hr.mono (by decide)) rfl (ja_cons j_int ja_nil)) j_int)))
    (jss_cons (js_set (i := 5) nd rfl (Or.inl rfl) (j_mod (j_fdiv (j_hD 0 F__law_cell (hr.mono (by decide)) rfl (ja_cons j_int ja_nil)) j_int) j_int))
    (jss_cons (js_set (i := 6) nd rfl (Or.inl rfl) (j_mod (j_fdiv (j_hD 0 F__law_cell (hr.mono (by decide)) rfl (ja_cons j_int ja_nil)) j_int) j_int))
    (jss_cons (js_cut (js_if (jt_eq hr (j_mod (j_fdiv (j_hD 0 F__law_cell (hr.mono (by decide)) rfl (ja_cons j_int ja_nil)) j_int) j_int) j_int) (jss_cons (js_set (i := 4) nd rfl (Or.inl rfl) (j_add (jv 4) j_int))
    (jss_one (js_set (i := 6) nd rfl (Or.inl rfl) (j_add (jv 6) j_int)))) jss_nil))
    (jss_cons (js_for PassesOwn.never rfl (ji_rng1 rfl B.range (ja_cons (j_add (jv 4) (jv 5)) ja_nil)) (jg_name (i := 7) nd rfl (Or.inl rfl))
    (jss_cons (js_set (i := 8) nd rfl (Or.inl rfl) (j_hD 0 F__law_cell (hr.mono (by decide)) rfl (ja_cons (j_add (jv 1) (jv 7)) ja_nil)))
    (jss_cons (js_set (i := 9) nd rfl (Or.inl rfl) (j_h F__law_drawn (hr.mono (by decide)) rfl (ja_cons (jv 8) ja_nil)))
    (jss_cons (js_set (i := 10) nd rfl (Or.inl rfl) (j_h F__law_plus (hr.mono (by decide)) rfl (ja_cons (jv 9) (ja_cons (j_h F__law_fraction (hr.mono (by decide)) rfl (ja_cons (j_mod (j_fdiv (jv 8) j_int) j_int) (ja_cons (j_add j_int (j_mod (j_fdiv (jv 8) j_int) j_int)) ja_nil))) ja_nil))))
    (jss_one (js_if (jt_lt (jv 7) (jv 4)) (jss_one (js_appW 2 (j_tup (ja_cons (jv 9) (ja_cons (jv 10) ja_nil))))) (jss_one (js_appW 3 (j_tup (ja_cons (jv 9) (ja_cons (jv 10) ja_nil)))))))))))
    (jss_cons (js_setN (i := 11) nd rfl (Or.inl rfl) (jn_lst ja_nil))
    (jss_cons (js_for PassesOwn.never rfl (ji_rng1 rfl B.range (ja_cons (jv 6) ja_nil)) (jg_name (i := 7) nd rfl (Or.inl rfl))
    (jss_cons (js_set (i := 8) nd rfl (Or.inl rfl) (j_hD 0 F__law_cell (hr.mono (by decide)) rfl (ja_cons (j_add (j_add (jv 1) j_int) (jv 7)) ja_nil)))
    (jss_cons (js_cut (js_if (jt_eq hr (j_mod (j_fdiv (j_hD 0 F__law_cell (hr.mono (by decide)) rfl (ja_cons j_int ja_nil)) j_int) j_int) j_int) (jss_one (js_set (i := 8) nd rfl (Or.inl rfl) (j_h F__law_mixed (hr.mono (by decide)) rfl (ja_cons (jv 8) (ja_cons (jv 7) ja_nil))))) jss_nil))
    (jss_cons (js_setN (i := 12) nd rfl (Or.inl rfl) (jn_lst ja_nil))
    (jss_cons (js_setN (i := 13) nd rfl (Or.inl rfl) (jn_lst ja_nil))
    (jss_cons (js_for PassesOwn.never rfl (ji_rng1 rfl B.range (ja_cons (j_add (jv 4) (jv 5)) ja_nil)) (jg_name (i := 14) nd rfl (Or.inl rfl))
    (jss_cons (js_if (jt_lt (jv 14) (jv 4)) (jss_one (js_appW 12 (j_h F__law_drawn (hr.mono (by decide)) rfl (ja_cons (jv 8) ja_nil)))) (jss_one (js_appW 13 (j_h F__law_drawn (hr.mono (by decide)) rfl (ja_cons (jv 8) ja_nil)))))
    (jss_one (js_set (i := 8) nd rfl (Or.inl rfl) (j_fdiv (jv 8) j_int)))))
    (jss_one (js_appW 11 (j_tup (ja_cons (jv 12) (ja_cons (jv 13) (ja_cons (j_h F__law_drawn (hr.mono (by decide)) rfl (ja_cons (jv 8) ja_nil)) ja_nil))))))))))))
    (jss_one (js_ret (j_tup (ja_cons (jv 2) (ja_cons (jv 3) (ja_cons (jv 11) ja_nil))))))))))))))), ?_⟩
  rintro p ds M Q hS ⟨rfl, q⟩
  have n3 : (3 : Int) ≠ 0 := by decide
  have n4 : (4 : Int) ≠ 0 := by decide
  have z0 : (0 : Int) ≤ 0 := by decide
  have z1 : (0 : Int) ≤ 1000 := by decide
  have e0 : 0 ≤ sizeLine := Nat.zero_le _
  refine ⟨e0, e0, hS, 0, rfl, z0, z1, fun c1 => ⟨n3, hS, 0, rfl, z0, z1, fun c2 => ⟨_root_.M.cdv, n4, hS, 0, rfl, z0, z1, fun c3 => ⟨_root_.M.cdv, n4, ?_⟩⟩⟩⟩
  obtain ⟨x, ex, hx⟩ := natOf (fm (x := c1) (b := 3) (by decide))
  obtain ⟨y, ey, hy⟩ := natOf (fm (x := c2.fdiv 3) (b := 4) (by decide))
  obtain ⟨z, ez, hz⟩ := natOf (fm (x := c3.fdiv 12) (b := 4) (by decide))
  refine ⟨fun ρ M' => M' = M ∧ ∃ m f r : Nat, PN m f r ∧ ρ = [.rf p, .sh (.int 2), .ow [], .ow [], .sh (.int m), .sh (.int f), .sh (.int r), .un, .un, .un, .un, .un, .un, .un, .un], ?_, ?_⟩
  · refine ⟨hS, 0, rfl, z0, z1, fun c4 => ⟨_root_.M.cdv, (by decide : (6 : Int) ≠ 0), Nat.zero_le _, ?_⟩⟩
    show if ((c4.fdiv 96).fmod 6 == 1) = true then _ else _
    refine iteB (fun _ => ⟨rfl, _, _, _, PN.big hx hy hz, ?_⟩) (fun _ => ⟨rfl, _, _, _, PN.few hx hy hz, ?_⟩)
    · show [Ent.rf p, .sh (.int 2), .ow [], .ow [], .sh (.int (1 + c1.fmod 3 + 3)), .sh (.int ((c2.fdiv 3).fmod 4)), .sh (.int ((c3.fdiv 12).fmod 4 + 8)), .un, .un, .un, .un, .un, .un, .un, .un] = _
      rw [ex, ey, ez]; rfl
    · show [Ent.rf p, .sh (.int 2), .ow [], .ow [], .sh (.int (1 + c1.fmod 3)), .sh (.int ((c2.fdiv 3).fmod 4)), .sh (.int ((c3.fdiv 12).fmod 4)), .un, .un, .un, .un, .un, .un, .un, .un] = _
      rw [ex, ey, ez]; rfl
  clear ex ey ez hx hy hz c1 c2 c3 x y z
  rintro ρ M' ⟨rfl, m, f, r, pn, rfl⟩
  refine ⟨pn.rng, fun i ρ M2 => M2 = M' ∧ ∃ (S T : List (Rat × Rat)) (o7 o8 o9 o10 : Ent), ρ = [.rf p, .sh (.int 2), .ow (S.map bQ), .ow (T.map bQ), .sh (.int m), .sh (.int f), .sh (.int r), o7, o8, o9, o10, .un, .un, .un, .un] ∧ Lk i m S.length T.length ∧ (∀ x ∈ S, bW x) ∧ (∀ x ∈ T, bW x), ⟨rfl, [], [], _, _, _, _, rfl, Lk.z m, no_mem, no_mem⟩, ?_, ?_⟩
  · intro i d ρ M2 hd hI
    refine wabsG fun EE hE => ?_
    obtain ⟨rfl, S, T, o7, o8, o9, o10, rfl, lk, oS, oT⟩ := hI
    obtain ⟨rfl, hi⟩ := rng_get0 hd
    obtain ⟨hi, b0, b1⟩ := pn.lt hi
    obtain ⟨fS, fT⟩ := lk.few pn hi
    refine ⟨hS, _, rfl, b0, b1, fun c => ⟨c, rfl, fun q1 sq1 => ?_⟩⟩
    obtain ⟨g0, g1, g2, g3, g4⟩ := wh_step (fm (x := c.fdiv 36) (b := 7) (by decide)) (fm (x := c.fdiv 252) (b := 3) (by decide))
    refine ⟨_root_.M.cdv, (by decide : (7 : Int) ≠ 0), _root_.M.cdv, n3, _, _, rfl, g0, g1, _, _, rfl, Mx.of sq1.s5 g2, ?_⟩
    have okx : bW (q1, q1 + Rat.divInt ((c.fdiv 36).fmod 7) (1 + (c.fdiv 252).fmod 3)) := ⟨⟨sq1.mono (by decide), (sq1.mono (by decide)).add g3⟩, by show q1 ≤ q1 + _; grind⟩
    show if decide ((i : Int) < (m : Int)) = true then _ else _
    refine iteB (fun cc => ?_) (fun cc => ?_)
    · refine ⟨trivial, by show 2 ≤ sizeLine; decide, map_few fS, ?_⟩
      subst hE
      exact ⟨rfl, S ++ [_], T, .sh (.int i), .sh (.int c), .sh (frD q1), _, by rw [List.map_append]; rfl, by rw [len_snoc]; exact lk.a (ltT cc), all_snoc oS okx, oT⟩
    · refine ⟨trivial, by show 2 ≤ sizeLine; decide, map_few fT, ?_⟩
      subst hE
      exact ⟨rfl, S, T ++ [_], .sh (.int i), .sh (.int c), .sh (frD q1), _, by rw [List.map_append]; rfl, by rw [len_snoc]; exact lk.b (ltF cc), oS, all_snoc oT okx⟩
  rintro ρ M2 ⟨rfl, S, T, o7, o8, o9, o10, rfl, lk, oS, oT⟩
  rw [rng_len] at lk
  obtain ⟨lS, lT⟩ := lk.e
  clear lk
  refine ⟨e0, pn.rngR, fun i ρ M3 => M3 = M2 ∧ ∃ (Z : List ZR) (o7 o8 o9 o10 o12 o13 o14 : Ent), ρ = [.rf p, .sh (.int 2), .ow (S.map bQ), .ow (T.map bQ), .sh (.int m), .sh (.int f), .sh (.int r), o7, o8, o9, o10, .ow (Z.map zQ), o12, o13, o14] ∧ Z.length = i ∧ ∀ z ∈ Z, (z.1.length = S.length ∧ z.2.1.length = T.length) ∧ (∀ q ∈ z.1, Wh 6 5 q) ∧ (∀ q ∈ z.2.1, Wh 6 5 q) ∧ Wh 6 5 z.2.2, ⟨rfl, [], _, _, _, _, _, _, _, rfl, rfl, no_mem⟩, ?_, ?_⟩
  · intro i d ρ M3 hd hI
    refine wabsG fun EE hE => ?_
    obtain ⟨rfl, Z, o7, o8, o9, o10, o12, o13, o14, rfl, lZ, oZ⟩ := hI
    obtain ⟨rfl, hi⟩ := rng_get0 hd
    obtain ⟨i11, b0, b1, b2, b3⟩ := pn.ltR hi
    refine ⟨hS, _, rfl, b0, b1, fun c => ⟨fun ρ M4 => M4 = M3 ∧ ∃ c : Int, ρ = [.rf p, .sh (.int 2), .ow (S.map bQ), .ow (T.map bQ), .sh (.int m), .sh (.int f), .sh (.int r), .sh (.int i), .sh (.int c), o9, o10, .ow (Z.map zQ), o12, o13, o14], ?_, ?_⟩⟩
    · refine ⟨hS, 0, rfl, z0, z1, fun c5 => ⟨_root_.M.cdv, (by decide : (2 : Int) ≠ 0), Nat.zero_le _, ?_⟩⟩
      show if ((c5.fdiv 48).fmod 2 == 1) = true then _ else _
      exact iteB (fun _ => ⟨c, i, rfl, b2, b3, fun r => ⟨rfl, r, rfl⟩⟩) (fun _ => ⟨rfl, c, rfl⟩)
    rintro ρ M4 ⟨rfl, c, rfl⟩
    refine ⟨e0, e0, pn.rng, fun j ρ M5 => M5 = M4 ∧ ∃ (qs rs : List Rat) (c : Int) (o14 : Ent), ρ = [.rf p, .sh (.int 2), .ow (S.map bQ), .ow (T.map bQ), .sh (.int m), .sh (.int f), .sh (.int r), .sh (.int i), .sh (.int c), o9, o10, .ow (Z.map zQ), .ow (qs.map frD), .ow (rs.map frD), o14] ∧ Lk j m qs.length rs.length ∧ (∀ q ∈ qs, Wh 6 5 q) ∧ (∀ q ∈ rs, Wh 6 5 q), ⟨rfl, [], [], _, _, rfl, Lk.z m, no_mem, no_mem⟩, ?_, ?_⟩
    · intro j d ρ M5 hd hI
      refine wabsG fun E2 hE2 => ?_
      obtain ⟨rfl, qs, rs, c, o14, rfl, lk, hq, hr'⟩ := hI
      obtain ⟨rfl, hj⟩ := rng_get0 hd
      obtain ⟨hj, _, _⟩ := pn.lt hj
      obtain ⟨fS, fT⟩ := lk.few pn hj
      show if decide ((j : Int) < (m : Int)) = true then _ else _
      refine iteB (fun cc => ?_) (fun cc => ?_)
      · refine ⟨trivial, c, rfl, fun q sq => ⟨map_few fS, _root_.M.cdv, ?_⟩⟩
        subst hE2
        exact ⟨rfl, qs ++ [q], rs, c.fdiv 36, .sh (.int j), by rw [List.map_append]; rfl, by rw [len_snoc]; exact lk.a (ltT cc), all_snoc hq sq, hr'⟩
      · refine ⟨trivial, c, rfl, fun q sq => ⟨map_few fT, _root_.M.cdv, ?_⟩⟩
        subst hE2
        exact ⟨rfl, qs, rs ++ [q], c.fdiv 36, .sh (.int j), by rw [List.map_append]; rfl, by rw [len_snoc]; exact lk.b (ltF cc), hq, all_snoc hr' sq⟩
    rintro ρ M5 ⟨rfl, qs, rs, c, o14, rfl, lk, hq, hr'⟩
    rw [rng_len] at lk
    obtain ⟨lq, lr⟩ := lk.e
    refine ⟨trivial, c, rfl, fun q sq => ⟨by show 3 ≤ sizeLine; decide, map_few (by rw [lZ]; exact Nat.le_of_lt (Nat.lt_trans i11 (by decide))), ?_⟩⟩
    subst hE
    exact ⟨rfl, Z ++ [(qs, rs, q)], .sh (.int i), .sh (.int c), o9, o10, .sh (frL qs), .sh (frL rs), o14, by rw [List.map_append]; rfl, by rw [len_snoc, lZ], all_snoc oZ ⟨⟨lq.trans lS.symm, lr.trans lT.symm⟩, hq, hr', sq⟩⟩
  rintro ρ M3 ⟨rfl, Z, o7, o8, o9, o10, o12, o13, o14, rfl, lZ, oZ⟩
  rw [rng_len, Int.toNat_natCast] at lZ
  exact ⟨by show 3 ≤ sizeLine; decide, Sub.refl _, q S T Z ⟨by rw [lS]; exact pn.m1, by rw [lS]; exact pn.m6, by rw [lT]; exact pn.f3, by rw [lZ]; exact pn.r11, oS, oT, fun z hz => (oZ z hz).1.1, fun z hz => (oZ z hz).1.2, fun z hz => (oZ z hz).2.1, fun z hz => (oZ z hz).2.2.1, fun z hz => (oZ z hz).2.2.2⟩⟩

noncomputable def Btw (S : List (Rat × Rat)) (qs : List Rat) : Prop := ∀ (i : Nat) (x : Rat × Rat) (q : Rat), S[i]? = some x → qs[i]? = some q → x.1 ≤ q ∧ q ≤ x.2
private theorem btw_of {l h s : Rat} (lh : l ≤ h) (s0 : 0 ≤ s) (s1 : s ≤ 1) : l ≤ l + s * (h + -1 * l) ∧ l + s * (h + -1 * l) ≤ h := by
  have d : 0 ≤ h + -1 * l := by grind
  have a := Rat.mul_nonneg s0 d
  have b := Rat.mul_nonneg (show 0 ≤ 1 - s by grind) d
  constructor <;> grind
noncomputable def gMade : List D → (D → Prop) → Prop := fun ds P => ∃ (S T : List (Rat × Rat)) (Z : List ZR) (c : Int), ds = [planQ S T Z, .int c] ∧ S.length ≤ 100 ∧ (∀ x ∈ S, bW x) ∧ ∀ qs : List Rat, qs.length = S.length → (∀ q ∈ qs, Wh 24 13 q) → Btw S qs → P (frL qs)
noncomputable abbrev s_law_made : Stmt := top 46
private theorem sc_law_made : FnScope ["plan", "cell", "made", "low", "high", "share"] ["plan", "cell"] (defScope s_law_made) := ⟨rfl, rfl, rfl, by decide +kernel, rfl, by decide +kernel, by decide +kernel⟩
private theorem h__law_made (B : Bl mg) (F : Def K mg "_law_made" s_law_made ["plan", "cell"]) (F__law_fraction : hLFr P w K mg base) (F__law_plus : hLP P w K mg base) (F__law_times : hLT P w K mg base) : Has P w K mg base CX0 4 "_law_made" ["plan", "cell"] (spN K gMade) := by
  refine F.hasN sc_law_made (fun ds P h => by obtain ⟨_, _, _, _, rfl, _⟩ := h; rfl) fun f cdv A outer s H E hr => ?_
  have nd := sc_law_made.nd
  refine ⟨_, (jss_cons (js_setU (i := 2) nd rfl (Or.inl rfl) (ju_new (jnu_n (jn_lst ja_nil))))
    (jss_cons (js_for PassesOwn.never rfl (ji_list (j_atV 0 j_int)) (jg_tup (n := 2) rfl (jgs_cons (jg_name (i := 3) nd rfl (Or.inl rfl)) (jgs_cons (jg_name (i := 4) nd rfl (Or.inl rfl)) jgs_nil)))
    (jss_cons (js_set (i := 5) nd rfl (Or.inl rfl) (j_h F__law_fraction (hr.mono (by decide)) rfl (ja_cons (j_mod (jv 1) j_int) (ja_cons j_int ja_nil))))
    (jss_cons (js_appU (ju_v 2) (ju_d (j_h F__law_plus (hr.mono (by decide)) rfl (ja_cons (jv 3) (ja_cons (j_h F__law_times (hr.mono (by decide)) rfl (ja_cons (jv 5) (ja_cons (j_h F__law_plus (hr.mono (by decide)) rfl (ja_cons (jv 4) (ja_cons (j_h F__law_times (hr.mono (by decide)) rfl (ja_cons (j_tup (ja_cons (j_neg j_int) (ja_cons j_int ja_nil))) (ja_cons (jv 3) ja_nil))) ja_nil))) ja_nil))) ja_nil)))))
    (jss_one (js_set (i := 1) nd rfl (Or.inl rfl) (j_fdiv (jv 1) j_int))))))
    (jss_one (js_retU (ju_v 2))))), ?_⟩
  rintro ds M Q ⟨S, T, Z, c, rfl, l, oS, q⟩
  refine ⟨by show 0 ≤ sizeLine; decide, fun p hp => ⟨fun i ρ M' => ∃ (qs : List Rat) (c : Int) (o3 o4 o5 : Ent), Fresh M M' (frL qs) (.adr p) ∧ ρ = [.sh (planQ S T Z), .sh (.int c), .ut (.adr p), o3, o4, o5] ∧ qs.length = i ∧ (∀ q ∈ qs, Wh 24 13 q) ∧ Btw S qs, ⟨[], _, _, _, _, .newD rfl hp, rfl, rfl, by simp, fun i x q _ h => by simp at h⟩, ?_, ?_⟩⟩
  · rintro i d ρ M' hd ⟨qs, c, o3, o4, o5, fr, rfl, lq, hq, bt⟩
    rw [List.getElem?_map, Option.map_eq_some_iff] at hd
    obtain ⟨x, hx, rfl⟩ := hd
    have hi := (List.getElem?_eq_some_iff.mp hx).1
    obtain ⟨⟨y1, y2⟩, yl⟩ := oS x (List.mem_of_getElem? hx)
    obtain ⟨x1, x2⟩ := bW.ok ⟨⟨y1, y2⟩, yl⟩
    have f5 := fm (x := c) (b := 5) (by decide)
    have s1 : Sm 3 (c.fmod 5) := by unfold Sm; omega
    have s2 : Sm 3 (4 : Int) := by unfold Sm; decide
    have sf := fr_sm (by decide : (4 : Int) ≠ 0) s1 s2
    have sm1 : SmR 1 (-1 : Rat) := by unfold SmR Sm; decide
    have sA := smr_mul sm1 x1
    have sB := smr_add x2 sA
    have sC := smr_mul sf sB
    have sD := smr_add x1 sC
    have wm : Wh 1 1 (-1 : Rat) := ⟨-1, by decide +kernel, by unfold Sm; decide⟩
    have wf : Wh 4 3 (Rat.divInt (c.fmod 5) 4) := ⟨_, rfl, s1⟩
    have wA : Wh 6 8 (-1 * x.1) := wm.mul y1
    have wC : Wh 24 12 (Rat.divInt (c.fmod 5) 4 * (x.2 + -1 * x.1)) := wf.mul ((y2.mono (by decide)).add wA)
    have wD : Wh 24 13 (x.1 + Rat.divInt (c.fmod 5) 4 * (x.2 + -1 * x.1)) := ((y1.up 4 (by decide) (show Sm 3 ((4 : Nat) : Int) by unfold Sm; decide)).mono (by decide)).add wC
    obtain ⟨us, e1, n1, st1⟩ := fr.own_of
    refine ⟨rfl, (by decide : (5 : Int) ≠ 0), _, _, rfl, by decide, s2.mono (by decide), ⟨us, e1⟩, by show 2 ≤ sizeLine; decide, -1, x.1, rfl, Mx.of sm1 x1, _, _, rfl, Mx.of x2 sA, _, _, rfl, Mx.of sf sB, _, _, rfl, Mx.of x1 sC, us, e1, ?_, _root_.M.cdv, qs ++ [x.1 + Rat.divInt (c.fmod 5) 4 * (x.2 + -1 * x.1)], c.fdiv 5, .sh (frD x.1), .sh (frD x.2), .sh (frD (Rat.divInt (c.fmod 5) 4)), ?_, rfl, ?_, all_snoc hq wD, fun j y r hy hr => ?_⟩
    · rw [n1, List.length_map, lq]; exact small1000 (by omega)
    · have := fr.push (Fresh.leaf (d := frD (x.1 + Rat.divInt (c.fmod 5) 4 * (x.2 + -1 * x.1))) rfl) e1
      rw [frL, List.map_append]
      exact this
    · rw [List.length_append, lq]; rfl
    · rcases Nat.lt_trichotomy j qs.length with h | h | h
      · rw [List.getElem?_append_left h] at hr
        exact bt j y r hy hr
      · rw [h, lq, hx] at hy
        cases hy
        rw [h, List.getElem?_append_right (Nat.le_refl _), Nat.sub_self] at hr
        cases hr
        refine btw_of yl (Rat.divInt_nonneg f5.1 (by decide)) ?_
        have : (c.fmod 5 = 0 ∨ c.fmod 5 = 1 ∨ c.fmod 5 = 2 ∨ c.fmod 5 = 3 ∨ c.fmod 5 = 4) := by omega
        rcases this with e | e | e | e | e <;> rw [e] <;> decide +kernel
      · rw [List.getElem?_eq_none (by rw [List.length_append]; simp; omega)] at hr
        cases hr
  · rintro ρ M' ⟨qs, c, o3, o4, o5, fr, rfl, lq, hq, bt⟩
    rw [List.length_map] at lq
    exact ⟨_, _, Sub.refl _, fr, q qs lq hq bt⟩
private theorem set_map' {α : Type} {f : α → D} {l : List α} {k : Nat} {x : α} : (l.map f).set k (f x) = (l.set k x).map f := by rw [List.map_set]
noncomputable def gLRows : List D → (D → Prop) → Prop := fun ds P => ∃ (S T : List (Rat × Rat)) (Z : List ZR) (M : List Rat), ds = [planQ S T Z, frL M] ∧ RowsOk T Z M ∧ (∀ x ∈ T, bQok 4000 x) ∧ P (.lst ((rowsQ T Z M).map rQ))
noncomputable abbrev s_law_rows : Stmt := top 47
private theorem sc_law_rows : FnScope ["plan", "made", "sizes", "shims", "demands", "rows", "k", "hand", "b"] ["plan", "made"] (defScope s_law_rows) := ⟨rfl, rfl, rfl, by decide +kernel, rfl, by decide +kernel, by decide +kernel⟩
private theorem h__law_rows (B : Bl mg) (F : Def K mg "_law_rows" s_law_rows ["plan", "made"]) (F__law_plus : hLP P w K mg base) (F__law_sum : Has P w K mg base CX0 4 "_law_sum" ["ones", "others"] (spW K (pur gWS))) (F__law_times : hLT P w K mg base) : Has P w K mg base CX0 5 "_law_rows" ["plan", "made"] (spW K (pur gLRows)) := by
  refine F.hasP sc_law_rows (fun ds P h => by obtain ⟨_, _, _, _, rfl, _⟩ := h; rfl) fun f cdv A outer s H E hr => ?_
  have nd := sc_law_rows.nd
  refine ⟨_, (jss_cons (js_asg (jv 0) (jg_tup (n := 3) rfl (jgs_cons (jg_name (i := 2) nd rfl (Or.inl rfl)) (jgs_cons (jg_name (i := 3) nd rfl (Or.inl rfl)) (jgs_cons (jg_name (i := 4) nd rfl (Or.inl rfl)) jgs_nil)))))
    (jss_cons (js_setC (k := 5) nd rfl (Or.inl rfl) ["a", "b", "c", "made"] [none, none, none, some 1] ⟨rfl, by decide +kernel, by decide +kernel, rfl, rfl, free_of rfl⟩ rfl (ji_list (jv 4)) (fun _ _ _ _ _ => (jg_tup (n := 3) rfl (jgs_cons (jg_name (i := 0) (show List.Nodup [("a" : Str), ("b" : Str), ("c" : Str), ("made" : Str)] by decide +kernel) rfl (Or.inl rfl)) (jgs_cons (jg_name (i := 1) (show List.Nodup [("a" : Str), ("b" : Str), ("c" : Str), ("made" : Str)] by decide +kernel) rfl (Or.inl rfl)) (jgs_cons (jg_name (i := 2) (show List.Nodup [("a" : Str), ("b" : Str), ("c" : Str), ("made" : Str)] by decide +kernel) rfl (Or.inl rfl)) jgs_nil))))) (fun _ _ _ _ _ => jc_nil) (fun _ _ _ _ _ => (j_tup (ja_cons (j_fz (jn_list rfl B.list (ja_cons (jv 1) ja_nil))) (ja_cons (j_h F__law_plus (hr.mono (by decide)) rfl (ja_cons (j_h F__law_sum (hr.mono (by decide)) rfl (ja_cons (jv 0) (ja_cons (jv 3) ja_nil))) (ja_cons (jv 2) ja_nil))) ja_nil)))))
    (jss_cons (js_for PassesOwn.never rfl (ji_rng1 rfl B.range (ja_cons (j_lenV 3 rfl B.len) ja_nil)) (jg_name (i := 6) nd rfl (Or.inl rfl))
    (jss_one (js_for PassesOwn.never rfl (ji_list (j_fz (jn_lst (ja_cons j_int (ja_cons j_int ja_nil))))) (jg_name (i := 7) nd rfl (Or.inl rfl))
    (jss_cons (js_setC (k := 8) nd rfl (Or.inl rfl) ["shim"] [none] ⟨rfl, by decide +kernel, by decide +kernel, rfl, rfl, by intro i x j _ h; exact absurd h (by rcases i with _ | _ | _ | i <;> simp)⟩ rfl (ji_list (jv 3)) (fun _ _ _ _ _ => (jg_name (i := 0) (show List.Nodup [("shim" : Str)] by decide +kernel) rfl (Or.inl rfl))) (fun _ _ _ _ _ => jc_nil) (fun _ _ _ _ _ => (j_tup (ja_cons j_int (ja_cons j_int ja_nil)))))
    (jss_cons (js_setIxW 8 (j_at (j_fz (jn_lst (ja_cons (j_tup (ja_cons j_int (ja_cons j_int ja_nil))) (ja_cons (j_tup (ja_cons (j_neg j_int) (ja_cons j_int ja_nil))) ja_nil)))) (jv 7)) (jv 6))
    (jss_one (js_appW 5 (j_tup (ja_cons (jv 8) (ja_cons (j_h F__law_times (hr.mono (by decide)) rfl (ja_cons (j_at (j_fz (jn_lst (ja_cons (j_tup (ja_cons (j_neg j_int) (ja_cons j_int ja_nil))) (ja_cons (j_tup (ja_cons j_int (ja_cons j_int ja_nil))) ja_nil)))) (jv 7)) (ja_cons (j_at (j_atV 3 (jv 6)) (jv 7)) ja_nil))) ja_nil))))))))))
    (jss_one (js_ret (jv 5)))))), ?_⟩
  rintro ds M0 Q ⟨S, T, Z, M, rfl, ok, oT, k⟩
  have lT := ok.lT
  have lZ := ok.lZ
  refine ⟨rfl, fun i out ρ M' => M' = M0 ∧ out = ((Z.take i).map fun z => rQ (z.2.1, dot z.1 M + z.2.2)) ∧ ∃ o1 o2 o3, ρ = [o1, o2, o3, .sh (frL M)], ⟨rfl, rfl, _, _, _, rfl⟩, ?_, ?_⟩
  · rintro i d out ρ M' hd ⟨rfl, rfl, o1, o2, o3, rfl⟩
    rw [List.getElem?_map, Option.map_eq_some_iff] at hd
    obtain ⟨z, hz, rfl⟩ := hd
    obtain ⟨n, m, t, j, tw, st, bd⟩ := ok.dz z (List.mem_of_getElem? hz)
    refine ⟨rfl, z.1, M, n, m, j, rfl, tw, _, _, rfl, Mx.of tw.sm st (by omega), by show 2 ≤ sizeLine; decide, ?_, rfl, take_map' (f := fun z => rQ (z.2.1, dot z.1 M + z.2.2)) hz, .sh (frL z.1), .sh (frL z.2.1), .sh (frD z.2.2), rfl⟩
    rw [List.length_map, List.length_take]
    exact small1000 (by omega)
  rintro out ρ M' ⟨rfl, rfl, o1, o2, o3, rfl⟩
  rw [List.length_map, List.take_length]
  have e0 : (Z.map fun z => rQ (z.2.1, dot z.1 M + z.2.2)) = (Z.map fun z => ((z.2.1, dot z.1 M + z.2.2) : BR)).map rQ := by rw [List.map_map]; rfl
  rw [e0]
  unfold rowsQ at k
  have l0 : (Z.map fun z => ((z.2.1, dot z.1 M + z.2.2) : BR)).length ≤ 100 := by rw [List.length_map]; exact lZ
  generalize (Z.map fun z => ((z.2.1, dot z.1 M + z.2.2) : BR)) = R0 at k l0
  refine ⟨⟨by omega, by rw [List.length_map]; omega⟩, fun i ρ M2 => M2 = M' ∧ ∃ o6 o7 o8, ρ = [.sh (planQ S T Z), .sh (frL M), .sh (.lst (S.map bQ)), .sh (.lst (T.map bQ)), .sh (.lst (Z.map zQ)), .ow ((R0 ++ ((T.take i).mapIdx fun k x => bndAt T.length k x).flatten).map rQ), o6, o7, o8], ⟨rfl, _, _, _, by rw [List.take_zero, List.mapIdx_nil, List.flatten_nil, List.append_nil]; rfl⟩, ?_, ?_⟩
  · intro i d ρ M2 hd hI
    refine wabsG fun EE hE => ?_
    obtain ⟨rfl, o6, o7, o8, rfl⟩ := hI
    obtain ⟨rfl, hi⟩ := rng_get0 hd
    rw [Int.toNat_natCast, List.length_map] at hi
    have hx : T[i]? = some T[i] := List.getElem?_eq_getElem hi
    generalize T[i] = x at hx
    have hlen : (((T.take i).mapIdx fun k x => bndAt T.length k x).flatten).length ≤ 200 := by
      rw [bnd_len 0 _ (by intro y hy; obtain ⟨j, hj, rfl⟩ := List.mem_mapIdx.mp hy; rfl), List.length_mapIdx, List.length_take]
      omega
    have eR : R0 ++ ((T.take (i + 1)).mapIdx fun k x => bndAt T.length k x).flatten = (R0 ++ ((T.take i).mapIdx fun k x => bndAt T.length k x).flatten) ++ bndAt T.length i x := by
      rw [mapIdx_take _ hx, List.flatten_append, ← List.append_assoc, List.flatten_singleton]
    have hR : (R0 ++ ((T.take i).mapIdx fun k x => bndAt T.length k x).flatten).length ≤ 300 := by rw [List.length_append]; omega
    generalize R0 ++ ((T.take i).mapIdx fun k x => bndAt T.length k x).flatten = R1 at hR eR
    obtain ⟨x1, x2⟩ := oT x (List.mem_of_getElem? hx)
    have hb : ∀ q : Rat, ((List.replicate T.length (frD 0)).set i (frD q)) = (unitQ T.length i q).map frD := fun q => by rw [unitQ, List.map_set, List.map_replicate]
    have sm1 : SmR 1 (-1 : Rat) := by unfold SmR Sm; decide
    have s1 : SmR 1 (1 : Rat) := by unfold SmR Sm; decide
    refine ⟨by show 2 ≤ sizeLine; decide, fun h ρ M3 => M3 = M2 ∧ ∃ o7 o8, ρ = [.sh (planQ S T Z), .sh (frL M), .sh (.lst (S.map bQ)), .sh (.lst (T.map bQ)), .sh (.lst (Z.map zQ)), .ow ((R1 ++ (bndAt T.length i x).take h).map rQ), .sh (.int (i : Int)), o7, o8], ⟨rfl, _, _, by rw [List.take_zero, List.append_nil]; rfl⟩, ?_, ?_⟩
    · intro h d ρ M3 hd hI2
      refine wabsG fun E2 hE2 => ?_
      obtain ⟨rfl, o7, o8, rfl⟩ := hI2
      refine ⟨fun j out ρ M4 => M4 = M3 ∧ out = List.replicate j (frD 0) ∧ ∃ o, ρ = [o], ⟨rfl, rfl, _, rfl⟩, ?_, ?_⟩
      · rintro j d2 out ρ M4 hd2 ⟨rfl, rfl, o, rfl⟩
        have hj := (List.getElem?_eq_some_iff.mp hd2).1
        rw [List.length_map] at hj
        exact ⟨by show 2 ≤ sizeLine; decide, by rw [List.length_replicate]; exact small1000 (by omega), rfl, by rw [List.replicate_succ']; rfl, .sh d2, rfl⟩
      rintro out ρ M4 ⟨rfl, rfl, o, rfl⟩
      rw [List.length_map]
      have e : ixN (List.replicate T.length (frD 0)).length (i : Int) = some i := by rw [List.length_replicate]; exact ixN_ok hi
      have hl : ∀ h, ((R1 ++ (bndAt T.length i x).take h).map rQ).length < sizeLine := fun h => by
        rw [List.length_map, List.length_append, List.length_take]
        exact Nat.lt_of_le_of_lt (show _ ≤ 302 by simp [bndAt]; omega) (by decide)
      rcases h with _ | _ | h
      · cases (Option.some.inj hd : D.int 0 = d)
        refine ⟨by show 2 ≤ sizeLine; decide, by show 2 ≤ sizeLine; decide, by show 2 ≤ sizeLine; decide, trivial, ?_⟩
        show match ixN (List.replicate T.length (frD 0)).length (i : Int) with | some n => _ | none => False
        rw [e]
        refine ⟨trivial, by show 2 ≤ sizeLine; decide, by show 2 ≤ sizeLine; decide, by show 2 ≤ sizeLine; decide, RIx.get (d := bQ x) (by rw [List.getElem?_map, hx]; rfl) ⟨-1, x.1, rfl, Mx.of sm1 x1, by show 2 ≤ sizeLine; decide, hl _, ?_⟩⟩
        subst hE2
        refine ⟨rfl, .sh (.int 0), .sh (.lst ((List.replicate T.length (frD 0)).set i (frD 1))), ?_⟩
        have er : ((R1 ++ (bndAt T.length i x).take 0).map rQ) ++ [D.tup [.lst ((List.replicate T.length (frD 0)).set i (frD 1)), frD (-1 * x.1)]] = (R1 ++ (bndAt T.length i x).take (0 + 1)).map rQ := by
          rw [hb, show (-1 * x.1) = -x.1 by grind]; simp [bndAt, rQ]
        exact congrArg (fun z => [Ent.sh (planQ S T Z), .sh (frL M), .sh (.lst (S.map bQ)), .sh (.lst (T.map bQ)), .sh (.lst (Z.map zQ)), .ow z, .sh (.int (i : Int)), .sh (.int 0), .sh (.lst ((List.replicate T.length (frD 0)).set i (frD 1)))]) er
      · cases (Option.some.inj hd : D.int 1 = d)
        refine ⟨by show 2 ≤ sizeLine; decide, by show 2 ≤ sizeLine; decide, by show 2 ≤ sizeLine; decide, trivial, ?_⟩
        show match ixN (List.replicate T.length (frD 0)).length (i : Int) with | some n => _ | none => False
        rw [e]
        refine ⟨trivial, by show 2 ≤ sizeLine; decide, by show 2 ≤ sizeLine; decide, by show 2 ≤ sizeLine; decide, RIx.get (d := bQ x) (by rw [List.getElem?_map, hx]; rfl) ⟨1, x.2, rfl, Mx.of s1 x2, by show 2 ≤ sizeLine; decide, hl _, ?_⟩⟩
        subst hE2
        refine ⟨rfl, .sh (.int 1), .sh (.lst ((List.replicate T.length (frD 0)).set i (frD (-1)))), ?_⟩
        have er : ((R1 ++ (bndAt T.length i x).take 1).map rQ) ++ [D.tup [.lst ((List.replicate T.length (frD 0)).set i (frD (-1))), frD (1 * x.2)]] = (R1 ++ (bndAt T.length i x).take (1 + 1)).map rQ := by
          rw [hb, show (1 * x.2) = x.2 by grind]; simp [bndAt, rQ]
        exact congrArg (fun z => [Ent.sh (planQ S T Z), .sh (frL M), .sh (.lst (S.map bQ)), .sh (.lst (T.map bQ)), .sh (.lst (Z.map zQ)), .ow z, .sh (.int (i : Int)), .sh (.int 1), .sh (.lst ((List.replicate T.length (frD 0)).set i (frD (-1))))]) er
      · exact absurd hd (by simp)
    · rintro ρ M3 ⟨rfl, o7, o8, rfl⟩
      subst hE
      exact ⟨rfl, .sh (.int (i : Int)), o7, o8, by rw [eR]; rfl⟩
  · rintro ρ M2 ⟨rfl, o6, o7, o8, rfl⟩
    rw [rng_len, Int.toNat_natCast, List.length_map, List.take_length]
    exact ⟨_, Sub.refl _, k⟩

/-! ### the law's own -/
noncomputable def gBelowL : List D → (D → Prop) → Prop := fun ds P => ∃ q r : Rat, ds = [frD q, frD r] ∧ Mx q r ∧ P (.bl (decide (q < r)))
noncomputable abbrev s_law_below : Stmt := top 41
private theorem sc_law_below : FnScope ["q", "r"] ["q", "r"] (defScope s_law_below) := ⟨rfl, rfl, rfl, by decide +kernel, rfl, by decide +kernel, by decide +kernel⟩
private theorem h__law_below (B : Bl mg) (F : Def K mg "_law_below" s_law_below ["q", "r"]) : Has P w K mg base CX0 1 "_law_below" ["q", "r"] (spW K (pur gBelowL)) := by
  refine F.hasP sc_law_below (fun ds P h => by obtain ⟨a, b, rfl, _⟩ := h; rfl) fun f cdv A outer s H E hr => ?_
  have nd := sc_law_below.nd
  refine ⟨_, (jss_one (js_ret (j_lt (j_mul (j_atV 0 j_int) (j_atV 1 j_int)) (j_mul (j_atV 1 j_int) (j_atV 0 j_int))))), ?_⟩
  rintro ds M Q ⟨q, r, rfl, m, k⟩
  exact ⟨m.c1, m.c2, _, Sub.refl _, by have := r_lt q r; dsimp only at this ⊢; rw [this]; exact k⟩

/-! ### below -/
noncomputable def gBelow : List D → (D → Prop) → Prop := fun ds P => ∃ q r : Rat, ds = [frD q, frD r] ∧ Mx q r ∧ P (.bl (decide (q < r)))
noncomputable abbrev s_below : Stmt := top 11
private theorem sc_below : FnScope ["q", "r"] ["q", "r"] (defScope s_below) := ⟨rfl, rfl, rfl, by decide +kernel, rfl, by decide +kernel, by decide +kernel⟩
private theorem h_below (B : Bl mg) (F : Def K mg "below" s_below ["q", "r"]) : Has P w K mg base CX0 1 "below" ["q", "r"] (spW K (pur gBelow)) := by
  refine F.hasP sc_below (fun ds P h => by obtain ⟨a, b, rfl, _⟩ := h; rfl) fun f cdv A outer s H E hr => ?_
  have nd := sc_below.nd
  refine ⟨_, (jss_one (js_ret (j_lt (j_mul (j_atV 0 j_int) (j_atV 1 j_int)) (j_mul (j_atV 1 j_int) (j_atV 0 j_int))))), ?_⟩
  rintro ds M Q ⟨q, r, rfl, m, k⟩
  exact ⟨m.c1, m.c2, _, Sub.refl _, by have := r_lt q r; dsimp only at this ⊢; rw [this]; exact k⟩

/-! ### weights judged, for up to three shims -/
noncomputable def colB (Rs : List BR) (k : Nat) : List Rat := Rs.map fun r => r.1.getD k 0
noncomputable def colD (Rs : List BR) : List Rat := Rs.map fun r => r.2
noncomputable def wbB (s : Nat) (Rs : List BR) (ws : List Rat) : Bool := decide (ws.length = Rs.length) && (ws.all fun w => decide (0 ≤ w)) && ((List.range s).all fun k => decide (dot ws (colB Rs k) = 0)) && decide (dot ws (colD Rs) < 0)
private theorem peq_fr (x y : Rat) : peq (frD x) (frD y) = decide (x = y) := by
  show (((x.num : Int) == y.num) && ((((x.den : Int) == (y.den : Int)) && true))) = decide (x = y)
  by_cases e : x = y
  · subst e; simp
  · rw [decide_eq_false e]
    apply Bool.eq_false_iff.mpr
    intro h
    simp at h
    exact e (Rat.ext h.1 (by have := h.2; omega))
structure WOk (n m k : Nat) (s : Nat) (Rs : List BR) (ws : List Rat) : Prop where
  s3 : s ≤ 3
  n1 : n ≤ 8000
  m1 : m ≤ 8000
  few : Rs.length ≤ 900
  fewW : ws.length ≤ 900
  sw : ∀ w ∈ ws, SmR n w
  len : ∀ r ∈ Rs, r.1.length = s
  sb : ∀ r ∈ Rs, ∀ q ∈ r.1, SmR m q
  sd : ∀ r ∈ Rs, SmR m r.2
  k1 : Rs.length ≤ k
  bnd : (n + m + 1) * k ≤ 8800
  mm : 1 ≤ m
private theorem WOk.tb {n m k s : Nat} {Rs : List BR} {ws : List Rat} (o : WOk n m k s Rs ws) (h : ws.length = Rs.length) (j : Nat) : Two n m k ws (colB Rs j) := by
  have k1 := o.k1
  have bnd := o.bnd
  refine ⟨by unfold colB; rw [List.length_map, h], by omega, by omega, o.sw, fun q hq => ?_⟩
  unfold colB at hq
  obtain ⟨r, hr, rfl⟩ := List.mem_map.mp hq
  exact sm_getD (o.sb r hr) o.mm j
private theorem WOk.td {n m k s : Nat} {Rs : List BR} {ws : List Rat} (o : WOk n m k s Rs ws) (h : ws.length = Rs.length) : Two n m k ws (colD Rs) := by
  have k1 := o.k1
  have bnd := o.bnd
  refine ⟨by unfold colD; rw [List.length_map, h], by omega, by omega, o.sw, fun q hq => ?_⟩
  unfold colD at hq
  obtain ⟨r, hr, rfl⟩ := List.mem_map.mp hq
  exact o.sd r hr
private theorem dot_comm : ∀ (qs rs : List Rat), dot qs rs = dot rs qs := by
  intro qs
  induction qs with
  | nil => intro rs; cases rs <;> rfl
  | cons q qs ih =>
    intro rs
    cases rs with
    | nil => rfl
    | cons r rs => rw [dot, dot, ih rs, Rat.mul_comm]
private theorem Two.flip {n m k : Nat} {qs rs : List Rat} (t : Two n m k qs rs) : Two m n k rs qs := by
  have := t.bnd
  have := t.len
  have := t.few
  exact ⟨t.len.symm, by omega, by rw [Nat.add_comm m n]; assumption, t.s2, t.s1⟩
private theorem wbB_len {s : Nat} {Rs : List BR} {ws : List Rat} (h : ws.length ≠ Rs.length) : wbB s Rs ws = false := by unfold wbB; rw [decide_eq_false h]; rfl
private theorem wbB_neg {s : Nat} {Rs : List BR} {ws : List Rat} {w : Rat} (hw : w ∈ ws) (h : w < 0) : wbB s Rs ws = false := by
  have : (ws.all fun w => decide (0 ≤ w)) = false := by
    rw [List.all_eq_false]
    exact ⟨w, hw, by simp; grind⟩
  unfold wbB; rw [this]; simp
private theorem wbB_col {s k : Nat} {Rs : List BR} {ws : List Rat} (hk : k < s) (h : dot ws (colB Rs k) ≠ 0) : wbB s Rs ws = false := by
  have : ((List.range s).all fun k => decide (dot ws (colB Rs k) = 0)) = false := by
    rw [List.all_eq_false]
    exact ⟨k, List.mem_range.mpr hk, by simpa using h⟩
  unfold wbB; rw [this]; simp
private theorem wbB_end {s : Nat} {Rs : List BR} {ws : List Rat} (h : ws.length = Rs.length) (nn : ∀ w ∈ ws, 0 ≤ w) (z : ∀ k, k < s → dot ws (colB Rs k) = 0) : wbB s Rs ws = decide (dot ws (colD Rs) < 0) := by
  have e1 : (ws.all fun w => decide (0 ≤ w)) = true := by
    rw [List.all_eq_true]
    intro w hw
    simpa using nn w hw
  have e2 : ((List.range s).all fun k => decide (dot ws (colB Rs k) = 0)) = true := by
    rw [List.all_eq_true]
    intro k hk
    simpa using z k (List.mem_range.mp hk)
  unfold wbB; rw [decide_eq_true h, e1, e2]; simp
noncomputable def gWB : List D → (D → Prop) → Prop := fun ds P => ∃ (D0 : List D) (T : List (Rat × Rat)) (Z : List ZR) (made ws : List Rat) (n m k : Nat), ds = [.tup [.lst D0, .lst (T.map bQ), .lst (Z.map zQ)], frL made, frL ws] ∧ made.length = D0.length ∧ RowsOk T Z made ∧ WOk n m k T.length (rowsQ T Z made) ws ∧ P (.bl (wbB T.length (rowsQ T Z made) ws))
noncomputable abbrev s_weights_bar : Stmt := top 33
private theorem sc_weights_bar : FnScope ["plan", "made", "weights", "rows", "k"] ["plan", "made", "weights"] (defScope s_weights_bar) := ⟨rfl, rfl, rfl, by decide +kernel, rfl, by decide +kernel, by decide +kernel⟩
private theorem h_weights_bar (B : Bl2 mg) (F : Def K mg "weights_bar" s_weights_bar ["plan", "made", "weights"]) (F_rows_of : Has P w K mg base CX0 5 "rows_of" ["plan", "made"] (spN K gRows)) (F_below : Has P w K mg base CX0 1 "below" ["q", "r"] (spW K (pur gBelow))) (F_weighed_sum : Has P w K mg base CX0 4 "weighed_sum" ["factors", "told"] (spW K (pur gWS))) (C_ZERO : Zero4 K mg) : Has P w K mg base CX0 6 "weights_bar" ["plan", "made", "weights"] (spW K (pur gWB)) := by
  refine F.hasP sc_weights_bar (fun ds P h => by obtain ⟨_, _, _, _, _, _, _, _, rfl, _⟩ := h; rfl) fun f cdv A outer s H E hr => ?_
  have nd := sc_weights_bar.nd
  refine ⟨_, (jss_cons (js_set (i := 3) nd rfl (Or.inl rfl) (j_h (L3.Has.toW F_rows_of) (hr.mono (by decide)) rfl (ja_cons (jv 0) (ja_cons (jv 1) ja_nil))))
    (jss_cons (js_if (JW.jt (jw_or (jt_ne hr (j_lenV 1 rfl B.len) (j_len rfl B.len (ja_cons (j_atV 0 j_int) ja_nil))) (jw_or1 (jt_ne hr (j_lenV 2 rfl B.len) (j_lenV 3 rfl B.len))))) (jss_one (js_ret j_bl)) jss_nil)
    (jss_cons (js_if (jt (j_any rfl B.any rfl (ja_cons (j_fz (jn_lc ["weight"] [none] ⟨rfl, by decide +kernel, by decide +kernel, rfl, rfl, by intro i x j _ h; exact absurd h (by rcases i with _ | _ | _ | i <;> simp)⟩ rfl (ji_list (jv 2)) (fun _ _ _ _ _ => (jg_name (i := 0) (show List.Nodup [("weight" : Str)] by decide +kernel) rfl (Or.inl rfl))) (fun _ _ _ _ _ => jc_nil) (fun _ _ _ _ _ => (j_h F_below (hr.mono (by decide)) rfl (ja_cons (jv 0) (ja_cons (j_glob C_ZERO rfl) ja_nil)))))) ja_nil))) (jss_one (js_ret j_bl)) jss_nil)
    (jss_cons (js_for PassesOwn.never rfl (ji_rng1 rfl B.range (ja_cons (j_len rfl B.len (ja_cons (j_atV 0 j_int) ja_nil)) ja_nil)) (jg_name (i := 4) nd rfl (Or.inr rfl))
    (jss_one (js_if (jt_ne hr (j_h F_weighed_sum (hr.mono (by decide)) rfl (ja_cons (jv 2) (ja_cons (j_fz (jn_lc ["b", "d", "k"] [none, none, some 4] ⟨rfl, by decide +kernel, by decide +kernel, rfl, rfl, free_of rfl⟩ rfl (ji_list (jv 3)) (fun _ _ _ _ _ => (jg_tup (n := 2) rfl (jgs_cons (jg_name (i := 0) (show List.Nodup [("b" : Str), ("d" : Str), ("k" : Str)] by decide +kernel) rfl (Or.inl rfl)) (jgs_cons (jg_name (i := 1) (show List.Nodup [("b" : Str), ("d" : Str), ("k" : Str)] by decide +kernel) rfl (Or.inl rfl)) jgs_nil)))) (fun _ _ _ _ _ => jc_nil) (fun _ _ _ _ _ => (j_atV 0 (jv 2))))) ja_nil))) (j_glob C_ZERO rfl)) (jss_one (js_ret j_bl)) jss_nil)))
    (jss_one (js_ret (j_h F_below (hr.mono (by decide)) rfl (ja_cons (j_h F_weighed_sum (hr.mono (by decide)) rfl (ja_cons (jv 2) (ja_cons (j_fz (jn_lc ["b", "d"] [none, none] ⟨rfl, by decide +kernel, by decide +kernel, rfl, rfl, by intro i x j _ h; exact absurd h (by rcases i with _ | _ | _ | i <;> simp)⟩ rfl (ji_list (jv 3)) (fun _ _ _ _ _ => (jg_tup (n := 2) rfl (jgs_cons (jg_name (i := 0) (show List.Nodup [("b" : Str), ("d" : Str)] by decide +kernel) rfl (Or.inl rfl)) (jgs_cons (jg_name (i := 1) (show List.Nodup [("b" : Str), ("d" : Str)] by decide +kernel) rfl (Or.inl rfl)) jgs_nil)))) (fun _ _ _ _ _ => jc_nil) (fun _ _ _ _ _ => (jv 1)))) ja_nil))) (ja_cons (j_glob C_ZERO rfl) ja_nil))))))))), ?_⟩
  rintro ds M Q ⟨D0, T, Z, made, ws, n, m, k, rfl, lm, rok, ok, q⟩
  refine ⟨_, T, Z, made, rfl, rok, ?_⟩
  generalize rowsQ T Z made = R at ok q
  have s3 := ok.s3
  have few := ok.few
  have fewW := ok.fewW
  have n1 := ok.n1
  have bnd := ok.bnd
  refine ⟨by show 0 ≤ 60; decide, ?_⟩
  show if (!peq (D.int ((made.map frD).length : Nat)) (D.int (D0.length : Nat))) = true then _ else _
  rw [List.length_map, lm, peq_refl]
  refine iteN rfl ⟨by show 0 ≤ 60; decide, ?_⟩
  show if (!peq (D.int ((ws.map frD).length : Nat)) (D.int ((R.map rQ).length : Nat))) = true then _ else _
  rw [List.length_map, List.length_map]
  refine iteB (fun c => ?_) (fun c => ?_)
  · have ne : ws.length ≠ R.length := fun z => by rw [z, peq_refl] at c; cases c
    rw [wbB_len ne] at q
    exact ⟨_, Sub.refl _, q⟩
  have lw : ws.length = R.length := by
    apply Classical.byContradiction
    intro z
    have : peq (D.int (ws.length : Nat)) (D.int (R.length : Nat)) = false := by
      show ((ws.length : Int) == (R.length : Int)) = false
      rw [beq_eq_false_iff_ne]; omega
    rw [this] at c; cases c
  refine ⟨fun i out ρ M' => M' = M ∧ out = (ws.take i).map (fun w => D.bl (decide (w < 0))) ∧ ∃ o, ρ = [o], ⟨rfl, rfl, _, rfl⟩, ?_, ?_⟩
  · rintro i d out ρ M' hd ⟨rfl, rfl, o, rfl⟩
    obtain ⟨x, hx, rfl⟩ := map_get hd
    exact ⟨x, 0, rfl, ⟨n, 1, by omega, ok.sw x (List.mem_of_getElem? hx), sm0⟩, take_small (by omega), rfl, take_map' (f := fun w => D.bl (decide (w < 0))) hx, .sh (frD x), rfl⟩
  rintro out ρ M' ⟨rfl, rfl, o, rfl⟩
  rw [List.length_map, List.take_length]
  show match bls (ws.map fun w => D.bl (decide (w < 0))) with | some bs => _ | none => False
  rw [show (ws.map fun w => D.bl (decide (w < 0))) = (ws.map fun w => decide (w < 0)).map D.bl by rw [List.map_map]; rfl, bls_map]
  show if ((ws.map fun w => decide (w < 0)).any id) = true then _ else _
  refine iteB (fun c => ?_) (fun c => ?_)
  · obtain ⟨b, hb, e⟩ := List.any_eq_true.mp c
    obtain ⟨x, hx, rfl⟩ := List.mem_map.mp hb
    rw [wbB_neg hx (by simpa using e)] at q
    exact ⟨_, Sub.refl _, q⟩
  have nn : ∀ x ∈ ws, 0 ≤ x := fun x hx => by
    apply Classical.byContradiction
    intro z
    rw [List.any_eq_true.mpr ⟨true, List.mem_map.mpr ⟨x, hx, by simp; grind⟩, rfl⟩] at c
    cases c
  have td := ok.td lw
  have tb := ok.tb lw
  refine ⟨⟨by rw [List.length_map]; omega, by rw [List.length_map]; omega⟩, fun i ρ M2 => M2 = M' ∧ (∀ j, j < i → dot ws (colB R j) = 0) ∧ ∃ o4, ρ = [.sh (.tup [.lst D0, .lst (T.map bQ), .lst (Z.map zQ)]), .sh (frL made), .sh (frL ws), .sh (.lst (R.map rQ)), o4], ⟨rfl, fun j hj => absurd hj (Nat.not_lt_zero j), _, rfl⟩, ?_, ?_⟩
  · intro i d ρ M2 hd hI
    refine wabsG fun EE hE => ?_
    obtain ⟨rfl, zs, o4, rfl⟩ := hI
    obtain ⟨rfl, hi⟩ := rng_get0 hd
    rw [Int.toNat_natCast, List.length_map] at hi
    refine ⟨fun j out ρ M3 => M3 = M2 ∧ out = (R.take j).map (fun r => frD (r.1.getD i 0)) ∧ ∃ o1 o2, ρ = [o1, o2, .sh (.int (i : Nat))], ⟨rfl, rfl, _, _, rfl⟩, ?_, ?_⟩
    · rintro j d out ρ M3 hd ⟨rfl, rfl, o1, o2, rfl⟩
      obtain ⟨r, hr, rfl⟩ := map_get hd
      have lr := ok.len r (List.mem_of_getElem? hr)
      have hx : r.1[i]? = some (r.1.getD i 0) := by rw [List.getD_eq_getElem?_getD, List.getElem?_eq_getElem (by omega)]; rfl
      exact ⟨rfl, RIx.get (d := frD (r.1.getD i 0)) (by rw [List.getElem?_map, hx]; rfl) ⟨take_small (by omega), rfl, take_map' (f := fun r : BR => frD (r.1.getD i 0)) hr, .sh (frL r.1), .sh (frD r.2), rfl⟩⟩
    rintro out ρ M3 ⟨rfl, rfl, o1, o2, rfl⟩
    rw [List.length_map, List.take_length]
    refine ⟨ws, colB R i, n, m, k, by unfold frL colB; rw [List.map_map]; rfl, tb i, by show 1 ≤ 60; decide, ?_⟩
    show if (!peq (frD (dot ws (colB R i))) (frD 0)) = true then _ else _
    rw [peq_fr]
    refine iteB (fun c => ?_) (fun c => ?_)
    · have ne : dot ws (colB R i) ≠ 0 := by simpa using c
      rw [wbB_col hi ne] at q
      subst hE
      exact ⟨_, Sub.refl _, q⟩
    · have e : dot ws (colB R i) = 0 := by simpa using c
      subst hE
      refine ⟨rfl, fun j hj => ?_, .sh (.int (i : Nat)), rfl⟩
      by_cases z : j = i
      · subst z; exact e
      · exact zs j (by omega)
  · rintro ρ M2 ⟨rfl, zs, o4, rfl⟩
    rw [rng_len, Int.toNat_natCast, List.length_map] at zs
    rw [wbB_end lw nn zs] at q
    refine ⟨fun j out ρ M3 => M3 = M2 ∧ out = (R.take j).map (fun r => frD r.2) ∧ ∃ o1 o2, ρ = [o1, o2], ⟨rfl, rfl, _, _, rfl⟩, ?_, ?_⟩
    · rintro j d out ρ M3 hd ⟨rfl, rfl, o1, o2, rfl⟩
      obtain ⟨r, hr, rfl⟩ := map_get hd
      exact ⟨rfl, take_small (by omega), rfl, take_map' (f := fun r : BR => frD r.2) hr, .sh (frL r.1), .sh (frD r.2), rfl⟩
    rintro out ρ M3 ⟨rfl, rfl, o1, o2, rfl⟩
    rw [List.length_map, List.take_length]
    exact ⟨ws, colD R, n, m, k, by unfold frL colD; rw [List.map_map]; rfl, td, _, 0, rfl, ⟨_, 1, by omega, td.sm, sm0⟩, _, Sub.refl _, q⟩
noncomputable def gLBars : List D → (D → Prop) → Prop := fun ds P => ∃ (s : Nat) (R : List BR) (ws : List Rat) (n m k : Nat), ds = [.lst (R.map rQ), frL ws, .int s] ∧ WOk n m k s R ws ∧ P (.bl (wbB s R ws))
noncomputable abbrev s_law_bars : Stmt := top 49
private theorem sc_law_bars : FnScope ["rows", "weights", "many", "weight", "k"] ["rows", "weights", "many"] (defScope s_law_bars) := ⟨rfl, rfl, rfl, by decide +kernel, rfl, by decide +kernel, by decide +kernel⟩
private theorem h__law_bars (B : Bl mg) (F : Def K mg "_law_bars" s_law_bars ["rows", "weights", "many"]) (F__law_below : Has P w K mg base CX0 1 "_law_below" ["q", "r"] (spW K (pur gBelowL))) (F__law_sum : Has P w K mg base CX0 4 "_law_sum" ["ones", "others"] (spW K (pur gWS))) : Has P w K mg base CX0 5 "_law_bars" ["rows", "weights", "many"] (spW K (pur gLBars)) := by
  refine F.hasP sc_law_bars (fun ds P h => by obtain ⟨_, _, _, _, _, _, rfl, _⟩ := h; rfl) fun f cdv A outer s H E hr => ?_
  have nd := sc_law_bars.nd
  refine ⟨_, (jss_cons (js_if (jt_ne hr (j_lenV 1 rfl B.len) (j_lenV 0 rfl B.len)) (jss_one (js_ret j_bl)) jss_nil)
    (jss_cons (js_for PassesOwn.never rfl (ji_list (jv 1)) (jg_name (i := 3) nd rfl (Or.inl rfl))
    (jss_one (js_if (jt (j_h F__law_below (hr.mono (by decide)) rfl (ja_cons (jv 3) (ja_cons (j_tup (ja_cons j_int (ja_cons j_int ja_nil))) ja_nil)))) (jss_one (js_ret j_bl)) jss_nil)))
    (jss_cons (js_for PassesOwn.never rfl (ji_rng1 rfl B.range (ja_cons (jv 2) ja_nil)) (jg_name (i := 4) nd rfl (Or.inr rfl))
    (jss_one (js_if (jt_ne hr (j_h F__law_sum (hr.mono (by decide)) rfl (ja_cons (j_fz (jn_lc ["b", "d", "k"] [none, none, some 4] ⟨rfl, by decide +kernel, by decide +kernel, rfl, rfl, free_of rfl⟩ rfl (ji_list (jv 0)) (fun _ _ _ _ _ => (jg_tup (n := 2) rfl (jgs_cons (jg_name (i := 0) (show List.Nodup [("b" : Str), ("d" : Str), ("k" : Str)] by decide +kernel) rfl (Or.inl rfl)) (jgs_cons (jg_name (i := 1) (show List.Nodup [("b" : Str), ("d" : Str), ("k" : Str)] by decide +kernel) rfl (Or.inl rfl)) jgs_nil)))) (fun _ _ _ _ _ => jc_nil) (fun _ _ _ _ _ => (j_atV 0 (jv 2))))) (ja_cons (jv 1) ja_nil))) (j_tup (ja_cons j_int (ja_cons j_int ja_nil)))) (jss_one (js_ret j_bl)) jss_nil)))
    (jss_one (js_ret (j_h F__law_below (hr.mono (by decide)) rfl (ja_cons (j_h F__law_sum (hr.mono (by decide)) rfl (ja_cons (j_fz (jn_lc ["b", "d"] [none, none] ⟨rfl, by decide +kernel, by decide +kernel, rfl, rfl, by intro i x j _ h; exact absurd h (by rcases i with _ | _ | _ | i <;> simp)⟩ rfl (ji_list (jv 0)) (fun _ _ _ _ _ => (jg_tup (n := 2) rfl (jgs_cons (jg_name (i := 0) (show List.Nodup [("b" : Str), ("d" : Str)] by decide +kernel) rfl (Or.inl rfl)) (jgs_cons (jg_name (i := 1) (show List.Nodup [("b" : Str), ("d" : Str)] by decide +kernel) rfl (Or.inl rfl)) jgs_nil)))) (fun _ _ _ _ _ => jc_nil) (fun _ _ _ _ _ => (jv 1)))) (ja_cons (jv 1) ja_nil))) (ja_cons (j_tup (ja_cons j_int (ja_cons j_int ja_nil))) ja_nil)))))))), ?_⟩
  rintro ds M Q ⟨s, R, ws, n, m, k, rfl, ok, q⟩
  have s3 := ok.s3
  have few := ok.few
  have fewW := ok.fewW
  have n1 := ok.n1
  have bnd := ok.bnd
  refine ⟨by show 0 ≤ 60; decide, ?_⟩
  show if (!peq (D.int ((ws.map frD).length : Nat)) (D.int ((R.map rQ).length : Nat))) = true then _ else _
  rw [List.length_map, List.length_map]
  refine iteB (fun c => ?_) (fun c => ?_)
  · have ne : ws.length ≠ R.length := fun z => by rw [z, peq_refl] at c; cases c
    rw [wbB_len ne] at q
    exact ⟨_, Sub.refl _, q⟩
  have lw : ws.length = R.length := by
    apply Classical.byContradiction
    intro z
    have : peq (D.int (ws.length : Nat)) (D.int (R.length : Nat)) = false := by
      show ((ws.length : Int) == (R.length : Int)) = false
      rw [beq_eq_false_iff_ne]; omega
    rw [this] at c; cases c
  refine ⟨fun i ρ M' => M' = M ∧ (∀ x ∈ ws.take i, 0 ≤ x) ∧ ∃ o3, ρ = [.sh (.lst (R.map rQ)), .sh (frL ws), .sh (.int s), o3, .un], ⟨rfl, by simp, _, rfl⟩, ?_, ?_⟩
  · intro i d ρ M' hd hI
    refine wabsG fun EE hE => ?_
    obtain ⟨rfl, nn, o3, rfl⟩ := hI
    obtain ⟨x, hx, rfl⟩ := map_get hd
    refine ⟨by show 2 ≤ sizeLine; decide, x, 0, rfl, ⟨n, 1, by omega, ok.sw x (List.mem_of_getElem? hx), sm0⟩, ?_⟩
    show if decide (x < 0) = true then _ else _
    refine iteB (fun c => ?_) (fun c => ?_)
    · rw [wbB_neg (List.mem_of_getElem? hx) (by simpa using c)] at q
      subst hE
      exact ⟨_, Sub.refl _, q⟩
    · subst hE
      refine ⟨rfl, fun y hy => ?_, .sh (frD x), rfl⟩
      rw [List.take_add_one, hx] at hy
      rcases List.mem_append.mp hy with z | z
      · exact nn y z
      · rw [Option.toList_some, List.mem_singleton] at z; subst z
        have : ¬ y < 0 := by simpa using c
        grind
  rintro ρ M' ⟨rfl, nn, o3, rfl⟩
  rw [List.length_map, List.take_length] at nn
  have td := (ok.td lw).flip
  have tb := fun j => (ok.tb lw j).flip
  refine ⟨⟨by omega, by omega⟩, fun i ρ M2 => M2 = M' ∧ (∀ j, j < i → dot ws (colB R j) = 0) ∧ ∃ o4, ρ = [.sh (.lst (R.map rQ)), .sh (frL ws), .sh (.int s), o3, o4], ⟨rfl, fun j hj => absurd hj (Nat.not_lt_zero j), _, rfl⟩, ?_, ?_⟩
  · intro i d ρ M2 hd hI
    refine wabsG fun EE hE => ?_
    obtain ⟨rfl, zs, o4, rfl⟩ := hI
    obtain ⟨rfl, hi⟩ := rng_get0 hd
    rw [Int.toNat_natCast] at hi
    refine ⟨fun j out ρ M3 => M3 = M2 ∧ out = (R.take j).map (fun r => frD (r.1.getD i 0)) ∧ ∃ o1 o2, ρ = [o1, o2, .sh (.int (i : Nat))], ⟨rfl, rfl, _, _, rfl⟩, ?_, ?_⟩
    · rintro j d out ρ M3 hd ⟨rfl, rfl, o1, o2, rfl⟩
      obtain ⟨r, hr, rfl⟩ := map_get hd
      have lr := ok.len r (List.mem_of_getElem? hr)
      have hx : r.1[i]? = some (r.1.getD i 0) := by rw [List.getD_eq_getElem?_getD, List.getElem?_eq_getElem (by omega)]; rfl
      exact ⟨rfl, RIx.get (d := frD (r.1.getD i 0)) (by rw [List.getElem?_map, hx]; rfl) ⟨take_small (by omega), rfl, take_map' (f := fun r : BR => frD (r.1.getD i 0)) hr, .sh (frL r.1), .sh (frD r.2), rfl⟩⟩
    rintro out ρ M3 ⟨rfl, rfl, o1, o2, rfl⟩
    rw [List.length_map, List.take_length]
    refine ⟨colB R i, ws, m, n, k, by unfold frL colB; rw [List.map_map]; rfl, tb i, by show 2 ≤ sizeLine; decide, by show 1 ≤ 60; decide, ?_⟩
    show if (!peq (frD (dot (colB R i) ws)) (frD 0)) = true then _ else _
    rw [peq_fr, dot_comm]
    refine iteB (fun c => ?_) (fun c => ?_)
    · have ne : dot ws (colB R i) ≠ 0 := by simpa using c
      rw [wbB_col hi ne] at q
      subst hE
      exact ⟨_, Sub.refl _, q⟩
    · have e : dot ws (colB R i) = 0 := by simpa using c
      subst hE
      refine ⟨rfl, fun j hj => ?_, .sh (.int (i : Nat)), rfl⟩
      by_cases z : j = i
      · subst z; exact e
      · exact zs j (by omega)
  · rintro ρ M2 ⟨rfl, zs, o4, rfl⟩
    rw [rng_len, Int.toNat_natCast] at zs
    rw [wbB_end lw nn zs, dot_comm] at q
    refine ⟨fun j out ρ M3 => M3 = M2 ∧ out = (R.take j).map (fun r => frD r.2) ∧ ∃ o1 o2, ρ = [o1, o2], ⟨rfl, rfl, _, _, rfl⟩, ?_, ?_⟩
    · rintro j d out ρ M3 hd ⟨rfl, rfl, o1, o2, rfl⟩
      obtain ⟨r, hr, rfl⟩ := map_get hd
      exact ⟨rfl, take_small (by omega), rfl, take_map' (f := fun r : BR => frD r.2) hr, .sh (frL r.1), .sh (frD r.2), rfl⟩
    rintro out ρ M3 ⟨rfl, rfl, o1, o2, rfl⟩
    rw [List.length_map, List.take_length]
    exact ⟨colD R, ws, m, n, k, by unfold frL colD; rw [List.map_map]; rfl, td, by show 2 ≤ sizeLine; decide, _, 0, rfl, ⟨_, 1, by have := td.bnd; omega, td.sm, sm0⟩, _, Sub.refl _, q⟩
noncomputable def keB (R : List BR) (xs : List Rat) : Bool := R.all fun r => decide (0 ≤ dot r.1 xs + r.2)
structure HOk (n m t : Nat) (R : List BR) (xs : List Rat) : Prop where
  len : ∀ r ∈ R, r.1.length = xs.length
  x3 : xs.length ≤ 3
  sx : ∀ x ∈ xs, SmR n x
  sb : ∀ r ∈ R, ∀ q ∈ r.1, SmR m q
  sd : ∀ r ∈ R, SmR t r.2
  bnd : (m + n + 1) * 3 + t ≤ 8000
noncomputable def gHolds : List D → (D → Prop) → Prop := fun ds P => ∃ (R : List BR) (xs : List Rat) (n m t : Nat), ds = [.lst (R.map rQ), frL xs] ∧ HOk n m t R xs ∧ P (.bl (keB R xs))
noncomputable abbrev s_law_holds : Stmt := top 48
private theorem sc_law_holds : FnScope ["rows", "choice", "b", "d"] ["rows", "choice"] (defScope s_law_holds) := ⟨rfl, rfl, rfl, by decide +kernel, rfl, by decide +kernel, by decide +kernel⟩
private theorem h__law_holds (B : Bl mg) (F : Def K mg "_law_holds" s_law_holds ["rows", "choice"]) (F__law_below : Has P w K mg base CX0 1 "_law_below" ["q", "r"] (spW K (pur gBelowL))) (F__law_plus : hLP P w K mg base) (F__law_sum : Has P w K mg base CX0 4 "_law_sum" ["ones", "others"] (spW K (pur gWS))) : Has P w K mg base CX0 5 "_law_holds" ["rows", "choice"] (spW K (pur gHolds)) := by
  refine F.hasP sc_law_holds (fun ds P h => by obtain ⟨_, _, _, _, _, rfl, _⟩ := h; rfl) fun f cdv A outer s H E hr => ?_
  have nd := sc_law_holds.nd
  refine ⟨_, (jss_cons (js_for PassesOwn.never rfl (ji_list (jv 0)) (jg_tup (n := 2) rfl (jgs_cons (jg_name (i := 2) nd rfl (Or.inl rfl)) (jgs_cons (jg_name (i := 3) nd rfl (Or.inl rfl)) jgs_nil)))
    (jss_one (js_if (jt (j_h F__law_below (hr.mono (by decide)) rfl (ja_cons (j_h F__law_plus (hr.mono (by decide)) rfl (ja_cons (j_h F__law_sum (hr.mono (by decide)) rfl (ja_cons (jv 2) (ja_cons (jv 1) ja_nil))) (ja_cons (jv 3) ja_nil))) (ja_cons (j_tup (ja_cons j_int (ja_cons j_int ja_nil))) ja_nil)))) (jss_one (js_ret j_bl)) jss_nil)))
    (jss_one (js_ret j_bl))), ?_⟩
  rintro ds M Q ⟨R, xs, n, m, t, rfl, ok, q⟩
  have bnd := ok.bnd
  refine ⟨fun i ρ M' => M' = M ∧ (∀ r ∈ R.take i, 0 ≤ dot r.1 xs + r.2) ∧ ∃ o2 o3, ρ = [.sh (.lst (R.map rQ)), .sh (frL xs), o2, o3], ⟨rfl, by simp, _, _, rfl⟩, ?_, ?_⟩
  · intro i d ρ M' hd hI
    refine wabsG fun EE hE => ?_
    obtain ⟨rfl, kp, o2, o3, rfl⟩ := hI
    obtain ⟨r, hr, rfl⟩ := map_get hd
    have mr := List.mem_of_getElem? hr
    have tw : Two m n 3 r.1 xs := ⟨ok.len r mr, by rw [ok.len r mr]; exact ok.x3, by omega, ok.sb r mr, ok.sx⟩
    have st := ok.sd r mr
    have ss := smr_add tw.sm st
    refine ⟨rfl, r.1, xs, m, n, 3, rfl, tw, _, _, rfl, Mx.of tw.sm st (by omega), by show 2 ≤ sizeLine; decide, _, 0, rfl, ⟨_, 1, by omega, ss, sm0⟩, ?_⟩
    show if decide (dot r.1 xs + r.2 < 0) = true then _ else _
    refine iteB (fun c => ?_) (fun c => ?_)
    · have c : dot r.1 xs + r.2 < 0 := by simpa using c
      have e : keB R xs = false := by
        unfold keB
        rw [List.all_eq_false]
        exact ⟨r, mr, by simp; grind⟩
      rw [e] at q
      subst hE
      exact ⟨_, Sub.refl _, q⟩
    · have c : ¬ dot r.1 xs + r.2 < 0 := by simpa using c
      subst hE
      refine ⟨rfl, fun y hy => ?_, .sh (frL r.1), .sh (frD r.2), rfl⟩
      rw [List.take_add_one, hr] at hy
      rcases List.mem_append.mp hy with z | z
      · exact kp y z
      · rw [Option.toList_some, List.mem_singleton] at z; subst z; grind
  · rintro ρ M' ⟨rfl, kp, o2, o3, rfl⟩
    rw [List.length_map, List.take_length] at kp
    have e : keB R xs = true := by
      unfold keB
      rw [List.all_eq_true]
      intro r hr
      simpa using kp r hr
    rw [e] at q
    exact ⟨_, Sub.refl _, q⟩
private theorem bars_wb {n s : Nat} {Rs : List BR} {ws : List Rat} (h : BarsL n s Rs ws) : wbB s Rs ws = true := by
  rw [wbB_end h.len h.nn (fun k hk => h.z k hk)]
  exact decide_eq_true h.lt
private theorem keeps_ke {Rs : List BR} {xs : List Rat} (h : KeepsL Rs xs) : keB Rs xs = true := by
  unfold keB
  rw [List.all_eq_true]
  intro r hr
  simpa using h r hr

private theorem wh_0 (D n : Nat) : Wh D n 0 := ⟨0, by rw [Rat.zero_divInt], by unfold Sm; exact Nat.pow_pos (by decide)⟩
private theorem wh_dot {n m : Nat} : ∀ (qs rs : List Rat), (∀ q ∈ qs, Wh 6 n q) → (∀ r ∈ rs, Wh 24 m r) → Wh 144 (n + m + qs.length) (dot qs rs) := by
  intro qs
  induction qs with
  | nil => intro rs _ _; rw [dot_nil]; exact wh_0 _ _
  | cons q qs ih =>
    intro rs h k
    cases rs with
    | nil => exact wh_0 _ _
    | cons r rs =>
      rw [dot]
      have a : Wh 144 (n + m) (q * r) := (h q (.head _)).mul (k r (.head _))
      exact (a.mono (b := n + m + qs.length) (by omega)).add (ih rs (fun x hx => h x (.tail _ hx)) fun x hx => k x (.tail _ hx))

/-! ### plans of small numbers, and what a choice that keeps all rows says of weights -/
structure InX (t σ : Nat) (S T : List (Rat × Rat)) (Z : List ZR) (made : List Rat) : Prop where
  s6 : S.length ≤ 6
  t3 : T.length ≤ 3
  z12 : Z.length ≤ 12
  oT : ∀ x ∈ T, bW x
  l1 : ∀ z ∈ Z, z.1.length = S.length
  l2 : ∀ z ∈ Z, z.2.1.length = T.length
  q1 : ∀ z ∈ Z, ∀ q ∈ z.1, Wh 6 5 q
  q2 : ∀ z ∈ Z, ∀ q ∈ z.2.1, Wh 6 5 q
  lm : made.length = S.length
  sm : ∀ q ∈ made, Wh 24 14 q
  c60 : ∀ z ∈ Z, SmR 60 z.2.2
  dt : ∀ z ∈ Z, SmR t (dot z.1 made + z.2.2)
  dn : ∀ z ∈ Z, ∃ D : Int, 0 < D ∧ Sm σ D ∧ (∀ q ∈ z.2.1, (q.den : Int) ∣ D) ∧ ((dot z.1 made + z.2.2).den : Int) ∣ D
  t7 : 7 ≤ t
  σ3 : 3 ≤ σ
  bd : 2 * t + 8 * σ + 42 ≤ 8000
  bw : (25 + t + 4 * σ + t + 1) * 18 ≤ 8800
private theorem InX.rok {t σ : Nat} {S T : List (Rat × Rat)} {Z : List ZR} {made : List Rat} (o : InX t σ S T Z made) : RowsOk T Z made := by
  have s6 := o.s6
  have t3 := o.t3
  have z12 := o.z12
  exact ⟨by omega, by omega, fun z hz => ⟨5, 14, 60, 6, ⟨by rw [o.l1 z hz, o.lm], by rw [o.l1 z hz]; exact s6, by decide, fun q hq => (o.q1 z hz q hq).s5, fun q hq => (o.sm q hq).smr (by decide) (by unfold Sm; decide)⟩, o.c60 z hz, by decide⟩⟩
private theorem InX.low {t σ : Nat} {S T : List (Rat × Rat)} {Z : List ZR} {made : List Rat} (o : InX t σ S T Z made) : LowOk 5 t σ T.length (rowsQ T Z made) := by
  have t7 := o.t7
  have bd := o.bd
  have z12 := o.z12
  have d6 : ∀ {n : Nat} {q : Rat}, Wh 6 n q → Sm σ (q.den : Int) := fun h => (h.den (by decide) (show Sm 3 ((6 : Nat) : Int) by unfold Sm; decide)).mono o.σ3
  exact rows_low (by decide) (by omega) (by omega) o.t3 (by omega) o.l2 (fun z hz q hq => (o.q2 z hz q hq).s5) o.dt (fun x hx => ⟨((o.oT x hx).ok.1).mono t7, ((o.oT x hx).ok.2).mono t7⟩) o.dn (fun x hx => ⟨d6 (o.oT x hx).1.1, d6 (o.oT x hx).1.2⟩)
private theorem InX.len {t σ : Nat} {S T : List (Rat × Rat)} {Z : List ZR} {made : List Rat} (o : InX t σ S T Z made) : (rowsQ T Z made).length ≤ 18 := by
  have t3 := o.t3
  have z12 := o.z12
  unfold rowsQ
  rw [List.length_append, List.length_map, bnd_rows_len]
  omega
private theorem InX.wok {t σ : Nat} {S T : List (Rat × Rat)} {Z : List ZR} {made ws : List Rat} (o : InX t σ S T Z made) (lw : ws.length ≤ 900) (sw : ∀ w ∈ ws, SmR (25 + t + 4 * σ) w) : WOk (25 + t + 4 * σ) t 18 T.length (rowsQ T Z made) ws := by
  have l := o.low
  have n := o.len
  have bd := o.bd
  have t7 := o.t7
  exact ⟨o.t3, by omega, by omega, by omega, lw, sw, l.len, fun r hr q hq => (l.sb r hr q hq).mono (by omega), l.sd, n, o.bw, by omega⟩
private theorem InX.hok {t σ n : Nat} {S T : List (Rat × Rat)} {Z : List ZR} {made xs : List Rat} (o : InX t σ S T Z made) (lx : xs.length = T.length) (sx : ∀ x ∈ xs, SmR n x) (bn : (5 + n + 1) * 3 + t ≤ 8000) : HOk n 5 t (rowsQ T Z made) xs := by
  have l := o.low
  exact ⟨fun r hr => by rw [l.len r hr, lx], by rw [lx]; exact o.t3, sx, l.sb, l.sd, bn⟩
private theorem InX.says {t σ : Nat} {S T : List (Rat × Rat)} {Z : List ZR} {made : List Rat} (o : InX t σ S T Z made) {d : D} (cf : CfIs T.length (rowsQ T Z made) d) : CfSays (25 + t + 4 * σ) T.length (rowsQ T Z made) d := by
  have h := cf.says o.low
  have e : 3 * 5 + t + 4 * σ + 10 = 25 + t + 4 * σ := by omega
  rw [e] at h
  exact h
private theorem dot_lin {x0 x1 x2 : Rat} : ∀ (ws : List Rat) (Rs : List BR), dot ws (Rs.map fun r => r.1.getD 0 0 * x0 + r.1.getD 1 0 * x1 + r.1.getD 2 0 * x2 + r.2) = x0 * dot ws (colB Rs 0) + x1 * dot ws (colB Rs 1) + x2 * dot ws (colB Rs 2) + dot ws (colD Rs) := by
  intro ws
  induction ws with
  | nil => intro Rs; rw [dot_nil, dot_nil, dot_nil, dot_nil, dot_nil]; grind
  | cons w ws ih =>
    intro Rs
    cases Rs with
    | nil => show (0 : Rat) = x0 * 0 + x1 * 0 + x2 * 0 + 0; grind
    | cons r Rs =>
      have i := ih Rs
      unfold colB colD at i ⊢
      rw [List.map_cons, List.map_cons, List.map_cons, List.map_cons, List.map_cons, dot, dot, dot, dot, dot, i]
      grind
private theorem dot_nn : ∀ (ws rs : List Rat), (∀ w ∈ ws, 0 ≤ w) → (∀ r ∈ rs, 0 ≤ r) → 0 ≤ dot ws rs := by
  intro ws
  induction ws with
  | nil => intro rs _ _; rw [dot_nil]; exact Rat.le_refl
  | cons w ws ih =>
    intro rs h k
    cases rs with
    | nil => exact Rat.le_refl
    | cons r rs =>
      rw [dot]
      exact Rat.add_nonneg (Rat.mul_nonneg (h w (.head _)) (k r (.head _))) (ih rs (fun x hx => h x (.tail _ hx)) fun x hx => k x (.tail _ hx))
private theorem list_rng {xs : List Rat} {s : Nat} (h : xs.length = s) : xs = (List.range s).map fun k => xs.getD k 0 := by
  apply List.ext_getElem?
  intro i
  by_cases c : i < s
  · rw [List.getElem?_map, List.getElem?_range c, List.getElem?_eq_getElem (by omega)]
    simp [show i < xs.length by omega]
  · rw [List.getElem?_eq_none (by omega), List.getElem?_eq_none (by simp; omega)]
private theorem no_bars {s : Nat} {Rs : List BR} {xs ws : List Rat} (s3 : s ≤ 3) (lx : xs.length = s) (lr : ∀ r ∈ Rs, r.1.length = s) (kp : KeepsL Rs xs) : wbB s Rs ws = false := by
  apply Bool.eq_false_iff.mpr
  intro h
  unfold wbB at h
  simp only [Bool.and_eq_true, decide_eq_true_eq, List.all_eq_true, List.mem_range] at h
  obtain ⟨⟨⟨len, nn⟩, z⟩, lt⟩ := h
  have e : Rs.map (fun r => r.1.getD 0 0 * xs.getD 0 0 + r.1.getD 1 0 * xs.getD 1 0 + r.1.getD 2 0 * xs.getD 2 0 + r.2) = Rs.map fun r => dot r.1 xs + r.2 := by
    refine List.map_congr_left fun r hr => ?_
    conv => rhs; lhs; rw [list_rng lx]
    rw [dot_s s3 (lr r hr)]
  have p := dot_nn ws (Rs.map fun r => dot r.1 xs + r.2) nn (fun y hy => by obtain ⟨r, hr, rfl⟩ := List.mem_map.mp hy; exact kp r hr)
  rw [← e, dot_lin] at p
  have k0 : ∀ k, k < 3 → xs.getD k 0 * dot ws (colB Rs k) = 0 := fun k hk => by
    by_cases c : k < s
    · rw [z k c, Rat.mul_zero]
    · have : xs.getD k 0 = 0 := by rw [List.getD_eq_getElem?_getD, List.getElem?_eq_none (by omega)]; rfl
      rw [this, Rat.zero_mul]
  rw [k0 0 (by decide), k0 1 (by decide), k0 2 (by decide)] at p
  grind
private theorem InX.choice {t σ : Nat} {S T : List (Rat × Rat)} {Z : List ZR} {made xs : List Rat} (o : InX t σ S T Z made) (lx : xs.length = T.length) (kp : KeepsL (rowsQ T Z made) xs) {d : D} (cf : CfIs T.length (rowsQ T Z made) d) : ∃ ys, d = .tup [.str "choice", frL ys] := by
  rcases o.says cf with ⟨ys, e, _⟩ | ⟨ws, _, b⟩
  · exact ⟨ys, e⟩
  · have := bars_wb b
    rw [no_bars o.t3 lx o.low.len kp] at this
    cases this
private theorem dot_unit {n k : Nat} {q : Rat} {rs : List Rat} (hk : k < n) (hl : rs.length = n) : dot (unitQ n k q) rs = q * rs.getD k 0 := by
  have hr : rs[k]? = some (rs.getD k 0) := by rw [List.getD_eq_getElem?_getD, List.getElem?_eq_getElem (by omega)]; rfl
  unfold unitQ
  rw [dot_set (q := 0) (by rw [List.getElem?_replicate, if_pos hk]) hr, dot_rep]
  grind
private theorem keeps_all {T : List (Rat × Rat)} {Z : List ZR} {made ch : List Rat} (lc : ch.length = T.length) (bt : Btw T ch) (h : ∀ z ∈ Z, 0 ≤ dot z.1 made + dot z.2.1 ch + z.2.2) : KeepsL (rowsQ T Z made) ch := by
  intro r hr
  unfold rowsQ at hr
  rcases List.mem_append.mp hr with hm | hm
  · obtain ⟨z, hz, rfl⟩ := List.mem_map.mp hm
    have := h z hz
    show 0 ≤ dot z.2.1 ch + (dot z.1 made + z.2.2)
    grind
  · obtain ⟨k, x, hx, e⟩ := bnd_mem hm
    have hk := (List.getElem?_eq_some_iff.mp hx).1
    obtain ⟨b1, b2⟩ := bt k x (ch.getD k 0) hx (by rw [List.getD_eq_getElem?_getD, List.getElem?_eq_getElem (by omega)]; rfl)
    rcases e with rfl | rfl
    · show 0 ≤ dot (unitQ T.length k 1) ch + -x.1
      rw [dot_unit hk lc]; grind
    · show 0 ≤ dot (unitQ T.length k (-1)) ch + x.2
      rw [dot_unit hk lc]; grind
private theorem too_much {T : List (Rat × Rat)} {Z : List ZR} {made xs : List Rat} {n k : Nat} {x : Rat × Rat} {e : Rat} (lx : xs.length = T.length) (hx : T[k]? = some x) (e0 : e < 0) (kp : KeepsL (rowsQ T (Z ++ [(List.replicate n 0, unitQ T.length k 1, -1 * x.2 + e)]) made) xs) : False := by
  have hk := (List.getElem?_eq_some_iff.mp hx).1
  have a := kp (unitQ T.length k 1, dot (List.replicate n 0) made + (-1 * x.2 + e)) (by
    unfold rowsQ
    refine List.mem_append_left _ (List.mem_map.mpr ⟨(List.replicate n 0, unitQ T.length k 1, -1 * x.2 + e), List.mem_append_right _ (List.mem_singleton.mpr rfl), rfl⟩))
  have b := kp (unitQ T.length k (-1), x.2) (by
    unfold rowsQ
    exact List.mem_append_right _ (List.mem_of_getElem? (bnd_at hx).2))
  have a : 0 ≤ dot (unitQ T.length k 1) xs + (dot (List.replicate n 0) made + (-1 * x.2 + e)) := a
  have b : 0 ≤ dot (unitQ T.length k (-1)) xs + x.2 := b
  rw [dot_unit hk lx, dot_rep] at a
  rw [dot_unit hk lx] at b
  grind

/-! ### name.insert(k, e), name.pop(k) -/
noncomputable def rInsert : V → List V → Hp → VK → Prop := fun x vs H Q => ∃ l xs, ∃ (k : Nat) (j : Int), ∃ y, x = .ref l ∧ vs = [.int j, y] ∧ j = (k : Int) ∧ H l = some (.lst xs) ∧ k ≤ xs.length ∧ k < 2 ^ 62 ∧ xs.length < sizeLine ∧ Q .non (upd H l (.lst (xs.take k ++ y :: xs.drop k)))
private theorem mt_insert {X : Cx} : MtM X "list.insert" rInsert := by
  intro pins s σ H x vs v us Q I rx rv h
  obtain ⟨l, xs, k, j, y, rfl, rfl, hj, hH, hk, hk2, hz, q⟩ := h
  cases rx
  obtain ⟨u0, u, rfl, ru0, ru⟩ := rv.two
  obtain ⟨t, rfl⟩ := ru0
  obtain ⟨z, its, n, r, hl, e⟩ := I.lstM hH
  have kf : Builtin.List.listFitsIndex j = true := fitsIndex_both (by omega) (by omega)
  have hc : ¬(!Builtin.List.listFitsIndex j) = true := by rw [kf]; decide
  have hs : its.toArray.size ≤ sizeLine := by rw [List.size_toArray]; omega
  have hm := AutoSeq1.list_insert_list_int_val_1 l its.toArray n j t u hc hs
  refine call_meets F.slot_list_insert ⟨_, e, rfl⟩ F.entry_list_insert (F.args_list_insert_3 _ _ _) hm ⟨e, ?_⟩
  refine ⟨.non, _, I.lset (its' := its.take k ++ u :: its.drop k) hH e ?_ ((r.take k).append (.cons ru (r.drop k))) ?_, rfl, q⟩
  · dsimp only
    rw [if_neg (by omega), show j.toNat = k by omega, List.size_toArray, Nat.min_eq_left (by omega)]
    simp
    rw [List.take_of_length_le (by rw [List.length_drop]; exact Nat.le_refl _)]
  · simp; omega
noncomputable def wIns (i : Nat) (fk fe : WE) : WS := fun E ρ M => isOw ρ[i]? ∧ (wCons fk (wCons fe wNil)) ρ M fun es ρ1 M1 => match es with
  | [.int j, d] => (match ρ1[i]? with
    | some (.ow ds) => ∃ k : Nat, j = (k : Int) ∧ k ≤ ds.length ∧ k < 2 ^ 62 ∧ ds.length < sizeLine ∧ E.nx (ρ1.set i (.ow (ds.take k ++ d :: ds.drop k))) M1
    | _ => False)
  | _ => False
private theorem js_ins0 {X : Cx} {st : Stmt} {fk fe : WE} {i : Nat} (hh : PS X st (tDrop (tBM X.K "list" rInsert (tVar i) (lfA X.K (wCons fk (wCons fe wNil)))))) : JS X st (wIns i fk fe) := ⟨imS hh fun D' σ H hh => ex5 hh fun Z F ρ M E ag hf k => by
  obtain ⟨ho, hf⟩ := hf
  obtain ⟨ds0, ho⟩ := isOw_of ho
  obtain ⟨p, vs, h1, h2, h3, h4, h5, h6⟩ := ow_get ag ho
  refine ⟨.ref p, h1, .inl ⟨rfl, vs, SqL.of h2⟩, Z, F, ρ, M, _, ag, hf, fun ws H1 F1 es ρ1 M1 s1 ag1 r1 hh => ?_⟩
  split at hh
  · rename_i j d
    split at hh
    · rename_i ds hd
      obtain ⟨kk, rfl, k1, k2, k3, hh⟩ := hh
      obtain ⟨v, u, rfl, rv, ru⟩ := rps2 r1
      rw [Rp] at rv
      subst rv
      obtain ⟨p', us, g1, g2, g3, g4, g5, g6⟩ := ow_get ag1 hd
      rw [h1] at g1
      cases g1
      have l := g6.length
      exact ⟨p, us, kk, _, u, rfl, rfl, rfl, g2, by omega, k2, by omega, k.nx σ _ F1 _ M1 s1 (ag1.chg hd h1 g2 g3 g4 g5 ((g6.take kk).append (.cons ru (g6.drop kk)))) hh⟩
    · exact hh.elim
  · exact hh.elim⟩
private theorem js_ins {X : Cx} {a e : Expr} {x : Str} {fk fe : WE} {np apos cpos pos : Pos} (i : Nat) (hk : JE X a fk) (he : JE X e fe) (hN : X.N[i]? = some x := by rfl) (hv : Vis X.env.scope x := by first | exact Or.inl rfl | exact Or.inr (Or.inl rfl) | exact Or.inr (Or.inr rfl)) (hd : (x == ("__debug__" : Str)) = false := by decide) (hcd : (x == ("__classdict__" : Str)) = false := by decide)
    (hbase : attributeBase (.Name x np) "insert" X.env (eval (.Name x np) X.env) = eval (.Name x np) X.env := by rfl)
    (hfew : ((backTo cpos (starEach [a, e] X.env)).all (fun x => !x.1) && (backToKw cpos (keywordEach [] X.env)).all (fun x => x.1.isSome) && decide ([a, e].length + ([] : List Keyword).length + (if ([] : List Keyword).isEmpty then 0 else 1) < 30)) = true := by rfl)
    (hline : (apos.endLine == cpos.line) = true := by rfl) (hs : starEach [a, e] X.env = (false, eval a X.env) :: starEach [e] X.env := by rfl) (hs2 : starEach [e] X.env = [(false, eval e X.env)] := by rfl) (hplain : (backTo cpos (starEach [e] X.env)).any (·.1) = false := by rfl)
    (hsw : swapsWith (.Call (.Attribute (.Name x np) "insert" apos) [a, e] [] cpos) none pos.line X.env = pure false := by rfl) : JS X (.Expr (.Call (.Attribute (.Name x np) "insert" apos) [a, e] [] cpos) pos) (wIns i fk fe) :=
  js_ins0 (ps_expr (pe_bm PySem.F.plainAttrs_list PySem.F.slot_list_insert PySem.F.type_list_insert mt_insert (L2.pv i hN hv hd hcd) (ja_cons hk (ja_cons he ja_nil hs2) hs).h hbase hfew hline hs hplain) hsw)
noncomputable def wPop (i : Nat) (fk : WE) : WS := fun E ρ M => isOw ρ[i]? ∧ (wCons fk wNil) ρ M fun es ρ1 M1 => match es with
  | [.int j] => (match ρ1[i]? with
    | some (.ow ds) => ∃ k : Nat, j = (k : Int) ∧ k < ds.length ∧ k < 2 ^ 62 ∧ E.nx (ρ1.set i (.ow (ds.eraseIdx k))) M1
    | _ => False)
  | _ => False
private theorem rps_erase {K : PySem.W.Frag} {F : Hp} : ∀ (k : Nat) {d : List D} {v : List V}, Rps K F d v → Rps K F (d.eraseIdx k) (v.eraseIdx k) := by
  intro k d v h
  rw [List.eraseIdx_eq_take_drop_succ, List.eraseIdx_eq_take_drop_succ]
  exact (h.take k).append (h.drop (k + 1))
private theorem js_pop0 {X : Cx} {st : Stmt} {fk : WE} {i : Nat} (hh : PS X st (tDrop (tBM X.K "list" rPopAt (tVar i) (lfA X.K (wCons fk wNil))))) : JS X st (wPop i fk) := ⟨imS hh fun D' σ H hh => ex5 hh fun Z F ρ M E ag hf k => by
  obtain ⟨ho, hf⟩ := hf
  obtain ⟨ds0, ho⟩ := isOw_of ho
  obtain ⟨p, vs, h1, h2, h3, h4, h5, h6⟩ := ow_get ag ho
  refine ⟨.ref p, h1, .inl ⟨rfl, vs, SqL.of h2⟩, Z, F, ρ, M, _, ag, hf, fun ws H1 F1 es ρ1 M1 s1 ag1 r1 hh => ?_⟩
  split at hh
  · rename_i j
    split at hh
    · rename_i ds hd
      obtain ⟨kk, rfl, k1, k2, hh⟩ := hh
      obtain ⟨v, rfl, rv⟩ := rps1 r1
      rw [Rp] at rv
      subst rv
      obtain ⟨p', us, g1, g2, g3, g4, g5, g6⟩ := ow_get ag1 hd
      rw [h1] at g1
      cases g1
      have l := g6.length
      have hy : us[kk]? = some (us[kk]'(by omega)) := List.getElem?_eq_getElem (by omega)
      exact ⟨p, us, (kk : Int), kk, _, rfl, rfl, g2, by omega, by omega, by unfold seqIndex?; simp; omega, hy, k.nx σ _ F1 _ M1 s1 (ag1.chg hd h1 g2 g3 g4 g5 (rps_erase kk g6)) hh⟩
    · exact hh.elim
  · exact hh.elim⟩
private theorem js_pop {X : Cx} {a : Expr} {x : Str} {fk : WE} {np apos cpos pos : Pos} (i : Nat) (hk : JE X a fk) (hN : X.N[i]? = some x := by rfl) (hv : Vis X.env.scope x := by first | exact Or.inl rfl | exact Or.inr (Or.inl rfl) | exact Or.inr (Or.inr rfl)) (hd : (x == ("__debug__" : Str)) = false := by decide) (hcd : (x == ("__classdict__" : Str)) = false := by decide)
    (hbase : attributeBase (.Name x np) "pop" X.env (eval (.Name x np) X.env) = eval (.Name x np) X.env := by rfl)
    (hfew : ((backTo cpos (starEach [a] X.env)).all (fun x => !x.1) && (backToKw cpos (keywordEach [] X.env)).all (fun x => x.1.isSome) && decide ([a].length + ([] : List Keyword).length + (if ([] : List Keyword).isEmpty then 0 else 1) < 30)) = true := by rfl)
    (hline : (apos.endLine == cpos.line) = true := by rfl) (hs : starEach [a] X.env = [(false, eval a X.env)] := by rfl) (hplain : (backTo cpos (starEach [] X.env)).any (·.1) = false := by rfl)
    (hsw : swapsWith (.Call (.Attribute (.Name x np) "pop" apos) [a] [] cpos) none pos.line X.env = pure false := by rfl) : JS X (.Expr (.Call (.Attribute (.Name x np) "pop" apos) [a] [] cpos) pos) (wPop i fk) :=
  js_pop0 (ps_expr (pe_bm PySem.F.plainAttrs_list PySem.F.slot_list_pop PySem.F.type_list_pop mt_popAt (L2.pv i hN hv hd hcd) (ja_cons hk ja_nil hs).h hbase hfew hline hs hplain) hsw)

/-! ### x, y = a list -/
private theorem drawL {prog : Program} {w : World} {A : Around} {E : Value → Shared → Prop} {it l : Addr} {its : Array Value} (ne : l ≠ it) : ∀ (n k : Nat) (s : Shared) (Q : List Value → Shared → Prop), s.heap.IsListIter it l k → s.heap.IsList l its → k + n ≤ its.size →
    (∀ h', h'.IsListIter it l (k + n) → Heap.SameBut it s.heap h' → Q ((its.toList.drop k).take n) { s with heap := h' }) → wpAny (model prog w) A (draw (.ref it) n) Q E s := by
  intro n
  induction n with
  | zero =>
    intro k s Q a _ _ q
    have := q s.heap a (Heap.SameBut.refl ..)
    rw [List.take_zero] at this
    exact wpAny_pure this
  | succ n ih =>
    intro k s Q a b c q
    have lt : k < its.size := by omega
    refine wpAny_bind (m := pyNext (.ref it)) (wpAny_pyNext_list_item a b (x := its[k]) (by simp [lt]) fun h1 a1 s1 => ?_)
    refine wpAny_bind (wpAny_holding (ih (k + 1) _ _ a1 (b.extBut s1.extBut ne) (by omega) fun h2 a2 s2 => wpAny_pure ?_))
    have e : its.toList.drop k = its[k] :: its.toList.drop (k + 1) := by rw [List.drop_eq_getElem_cons (by simpa using lt)]; simp
    have r := q h2 (by rw [Nat.add_comm n 1, ← Nat.add_assoc]; exact a2) (s1.trans s2)
    rw [e, List.take_succ_cons] at r
    exact r
private theorem unpL {prog : Program} {w : World} {A : Around} {E : Value → Shared → Prop} {s : Shared} {l : Addr} {its : Array Value} {Q : List Value → Shared → Prop} (hh : A.handled = none) (b : s.heap.IsList l its)
    (q : ∀ h', Heap.ExtBut s.heap.objs.size s.heap h' → Q its.toList { s with heap := h' }) : wpAny (model prog w) A (unpackItems (.ref l) its.size none) Q E s := by
  have ne : l ≠ s.heap.objs.size := by obtain ⟨o, ho, _⟩ := b; exact Nat.ne_of_lt (Heap.lt_size ho)
  have all : (its.toList.drop 0).take its.size = its.toList := by rw [List.drop_zero, List.take_of_length_le]; simp
  unfold unpackItems notIterableAtAll
  refine wpAny_bind (wpAny_bind (wpAny_specialOf b.typeIs F.slot_list_iter.lookup (wpAny_pure ?_)))
  rw [if_neg (by decide)]
  refine wpAny_bind (wpAny_holding (wpAny_pyIter_list b ?_))
  refine wpAny_bind (wpAny_holding (drawL ne its.size 0 _ _ ⟨_, Heap.get?_push_size _ rfl, rfl, rfl⟩ (b.push _) (Nat.le_of_eq (Nat.zero_add _)) fun h1 a1 s1 => ?_))
  rw [all, if_neg (by simp)]
  have b1 : h1.IsList l its := (b.push _).extBut s1.extBut ne
  refine wpAny_bind (wpAny_holding (wpAny_pyNext_list_end hh a1 b1 (by simp) fun h2 x2 => ?_))
  rw [if_neg (by decide)]
  exact wpAny_pure (q h2 fun p o hp e => x2 p o hp (s1.extBut p o hp (Heap.get?_push_of_some _ e)))
noncomputable def gTupL (K : PySem.W.Frag) (n : Nat) (t : TGs) : TG := fun v σ H Q => ∃ a xs, v = .ref a ∧ SqL K H a xs ∧ xs.length = n ∧ t xs σ H Q
private theorem pg_tupL {X : Cx} {es : List Expr} {k : Nat} {pos : Pos} {t : TGs} {n : Nat} (hc : X.calm = true) (h : PGs X es t)
    (hn : (assignEach es X.env).length = n := by rfl) (hst : (assignEach es X.env).findIdx? (·.1) = none := by rfl) : PG X (.Tuple es k pos) (gTupL X.K n t) := by
  intro pins s σ H v u Q I r hw
  obtain ⟨a, xs, rfl, hq, hl, hw⟩ := hw
  cases r
  obtain ⟨its, rv, hp, hz⟩ := I.list hq
  have sz : its.toArray.size = n := by rw [List.size_toArray, ← rv.length, hl]
  show wpAny _ _ (standAt pos >>= fun _ => unpack (.ref a) (assignEach es X.env)) _ _ s
  refine wpAny_bind (wpAny_standAt ?_)
  unfold unpack
  rw [hn, hst, ← sz]
  refine wpAny_bind (wpAny_holding (unpL (I.ok.hd hc) hp.isList fun h' x => ?_))
  have J : Inv X pins σ H { s with heap := h' } := I.kept (t' := s.toks) fun b o e => x b o (Nat.ne_of_lt (Heap.lt_size e)) e
  exact h pins _ σ H xs _ Q J rv hw
noncomputable def gTup4L (n : Nat) (g : WGs) : WG := fun d ρ M P => match d with
  | .lst ds => ds.length = n ∧ g ds ρ M P
  | _ => False
private theorem jg_tupL {X : Cx} {es : List Expr} {pos : Pos} {fh : WGs} {k n : Nat} (hc : X.calm = true) (h : JGs X es fh) (hn : (assignEach es X.env).length = n := by rfl) (hst : (assignEach es X.env).findIdx? (·.1) = none := by rfl) : JG X (.Tuple es k pos) (gTup4L n fh) := ⟨imG (pg_tupL hc h.h hn hst) fun v σ H Q hh => ex6 hh fun Z F ρ M d P ag r hf k => by
  unfold gTup4L at hf
  split at hf
  · rw [Rp] at r
    obtain ⟨q, vs, rfl, g1, g2⟩ := r
    exact ⟨q, vs, rfl, .inl (rd_same ag.m.sm g1), by rw [← g2.length]; exact hf.1, Z, F, ρ, M, _, P, ag, g2, hf.2, k⟩
  · exact hf.elim⟩

/-! ### plans with one demand more, of greater numbers -/
structure InY (n t σ : Nat) (S T : List (Rat × Rat)) (Z : List ZR) (made : List Rat) : Prop where
  s6 : S.length ≤ 6
  t3 : T.length ≤ 3
  z12 : Z.length ≤ 12
  oT : ∀ x ∈ T, bW x
  l1 : ∀ z ∈ Z, z.1.length = S.length
  l2 : ∀ z ∈ Z, z.2.1.length = T.length
  q1 : ∀ z ∈ Z, ∀ q ∈ z.1, Wh 6 5 q
  q2 : ∀ z ∈ Z, ∀ q ∈ z.2.1, SmR n q
  lm : made.length = S.length
  sm : ∀ q ∈ made, Wh 24 14 q
  c80 : ∀ z ∈ Z, SmR 80 z.2.2
  dt : ∀ z ∈ Z, SmR t (dot z.1 made + z.2.2)
  dn : ∀ z ∈ Z, ∃ D : Int, 0 < D ∧ Sm σ D ∧ (∀ q ∈ z.2.1, (q.den : Int) ∣ D) ∧ ((dot z.1 made + z.2.2).den : Int) ∣ D
  n1 : 1 ≤ n
  nt : n ≤ t
  t7 : 7 ≤ t
  σ3 : 3 ≤ σ
  bd : 6 * n + 2 * t + 8 * σ + 12 ≤ 8000
  bw : (3 * n + t + 4 * σ + 10 + t + 1) * 18 ≤ 8800
section
variable {n t σ : Nat} {S T : List (Rat × Rat)} {Z : List ZR} {made : List Rat}
private theorem InY.rok (o : InY n t σ S T Z made) : RowsOk T Z made := by
  have s6 := o.s6
  have t3 := o.t3
  have z12 := o.z12
  exact ⟨by omega, by omega, fun z hz => ⟨5, 14, 80, 6, ⟨by rw [o.l1 z hz, o.lm], by rw [o.l1 z hz]; exact s6, by decide, fun q hq => (o.q1 z hz q hq).s5, fun q hq => (o.sm q hq).smr (by decide) (by unfold Sm; decide)⟩, o.c80 z hz, by decide⟩⟩
private theorem InY.low (o : InY n t σ S T Z made) : LowOk n t σ T.length (rowsQ T Z made) := by
  have t7 := o.t7
  have bd := o.bd
  have z12 := o.z12
  have d6 : ∀ {n : Nat} {q : Rat}, Wh 6 n q → Sm σ (q.den : Int) := fun h => (h.den (by decide) (show Sm 3 ((6 : Nat) : Int) by unfold Sm; decide)).mono o.σ3
  exact rows_low o.n1 o.nt bd o.t3 (by omega) o.l2 o.q2 o.dt (fun x hx => ⟨((o.oT x hx).ok.1).mono t7, ((o.oT x hx).ok.2).mono t7⟩) o.dn (fun x hx => ⟨d6 (o.oT x hx).1.1, d6 (o.oT x hx).1.2⟩)
private theorem InY.len (o : InY n t σ S T Z made) : (rowsQ T Z made).length ≤ 18 := by
  have t3 := o.t3
  have z12 := o.z12
  unfold rowsQ
  rw [List.length_append, List.length_map, bnd_rows_len]
  omega
private theorem InY.wok {ws : List Rat} (o : InY n t σ S T Z made) (lw : ws.length ≤ 900) (sw : ∀ w ∈ ws, SmR (3 * n + t + 4 * σ + 10) w) : WOk (3 * n + t + 4 * σ + 10) t 18 T.length (rowsQ T Z made) ws := by
  have l := o.low
  have k := o.len
  have bd := o.bd
  have t7 := o.t7
  exact ⟨o.t3, by omega, by omega, by omega, lw, sw, l.len, fun r hr q hq => (l.sb r hr q hq).mono o.nt, l.sd, k, o.bw, by omega⟩
end
/-! ### weights put together with one of 1 -/
private theorem dot_app : ∀ (a b : List Rat) (x y : List Rat), a.length = x.length → dot (a ++ b) (x ++ y) = dot a x + dot b y := by
  intro a
  induction a with
  | nil =>
    intro b x y h
    cases x with
    | nil => show dot b y = 0 + dot b y; grind
    | cons _ _ => simp at h
  | cons q a ih =>
    intro b x y h
    cases x with
    | nil => simp at h
    | cons r x =>
      rw [List.cons_append, List.cons_append, dot, dot, ih b x y (by simpa using h)]
      grind
private theorem dot_mid {ws c1 c2 : List Rat} {m : Nat} {v : Rat} (hm : m = c1.length) (hl : ws.length = c1.length + c2.length) : dot (ws.take m ++ 1 :: ws.drop m) (c1 ++ v :: c2) = dot ws (c1 ++ c2) + v := by
  have e : ws = ws.take m ++ ws.drop m := (List.take_append_drop m ws).symm
  have l1 : (ws.take m).length = c1.length := by rw [List.length_take]; omega
  conv => rhs; lhs; rw [e]
  rw [dot_app _ _ _ _ l1, dot_app _ _ _ _ l1, dot]
  grind
private theorem col_rows (f : BR → Rat) (T : List (Rat × Rat)) (Z : List ZR) (z : ZR) (made : List Rat) : (rowsQ T (Z ++ [z]) made).map f = (Z.map fun y => f (y.2.1, dot y.1 made + y.2.2)) ++ f (z.2.1, dot z.1 made + z.2.2) :: (bndRows T).map f := by
  unfold rowsQ
  rw [List.map_append, List.map_append, List.map_append, List.map_map, List.map_cons, List.map_cons, List.map_nil, List.map_nil, List.append_assoc]
  rfl
private theorem col_rows0 (f : BR → Rat) (T : List (Rat × Rat)) (Z : List ZR) (made : List Rat) : (rowsQ T Z made).map f = (Z.map fun y => f (y.2.1, dot y.1 made + y.2.2)) ++ (bndRows T).map f := by
  unfold rowsQ
  rw [List.map_append, List.map_map]
  rfl
private theorem against_bars {T : List (Rat × Rat)} {Z : List ZR} {made ws b : List Rat} {n : Nat} {c : Rat} (lw : ws.length = (rowsQ T Z made).length) (nn : ∀ w ∈ ws, 0 ≤ w) (lb : b.length = T.length) (hb : ∀ k, k < T.length → b.getD k 0 = -1 * dot (colB (rowsQ T Z made) k) ws) (hc : c + dot (colD (rowsQ T Z made)) ws < 0) :
    wbB T.length (rowsQ T (Z ++ [(List.replicate n 0, b, c)]) made) (ws.take Z.length ++ 1 :: ws.drop Z.length) = true := by
  have lr : (rowsQ T Z made).length = Z.length + 2 * T.length := by unfold rowsQ; rw [List.length_append, List.length_map, bnd_rows_len]
  have lr2 : (rowsQ T (Z ++ [(List.replicate n 0, b, c)]) made).length = Z.length + 1 + 2 * T.length := by unfold rowsQ; rw [List.length_append, List.length_map, bnd_rows_len, List.length_append]; rfl
  have key : ∀ f : BR → Rat, dot (ws.take Z.length ++ 1 :: ws.drop Z.length) ((rowsQ T (Z ++ [(List.replicate n 0, b, c)]) made).map f) = dot ws ((rowsQ T Z made).map f) + f (b, dot (List.replicate n 0) made + c) := fun f => by
    rw [col_rows f, col_rows0 f]
    exact dot_mid (by rw [List.length_map]) (by rw [lw, lr, List.length_map, List.length_map, bnd_rows_len])
  rw [wbB_end]
  · refine decide_eq_true ?_
    show dot _ ((rowsQ T (Z ++ [(List.replicate n 0, b, c)]) made).map fun r => r.2) < 0
    rw [key, dot_rep]
    rw [dot_comm] at hc
    show dot ws (colD (rowsQ T Z made)) + (0 + c) < 0
    grind
  · rw [lr2, List.length_append, List.length_cons, List.length_take, List.length_drop, lw, lr]; omega
  · intro w hw
    rcases List.mem_append.mp hw with h | h
    · exact nn w (List.mem_of_mem_take h)
    · rcases List.mem_cons.mp h with rfl | h
      · decide
      · exact nn w (List.mem_of_mem_drop h)
  · intro k hk
    show dot _ ((rowsQ T (Z ++ [(List.replicate n 0, b, c)]) made).map fun r => r.1.getD k 0) = 0
    rw [key]
    show dot ws (colB (rowsQ T Z made) k) + b.getD k 0 = 0
    rw [hb k hk, dot_comm]
    grind

/-! ### the numbers of plan and made set -/
structure In13 (S T : List (Rat × Rat)) (Z : List ZR) (made : List Rat) : Prop where
  ok : P13 S T Z
  lm : made.length = S.length
  sm : ∀ q ∈ made, Wh 24 14 q
private theorem In13.rok {S T : List (Rat × Rat)} {Z : List ZR} {made : List Rat} (o : In13 S T Z made) : RowsOk T Z made := by
  have s6 := o.ok.s6
  have t3 := o.ok.t3
  have z11 := o.ok.z11
  refine ⟨by omega, by omega, fun z hz => ⟨5, 14, 5, 6, ⟨by rw [o.ok.l1 z hz, o.lm], by rw [o.ok.l1 z hz]; exact s6, by decide, fun q hq => (o.ok.q1 z hz q hq).s5, fun q hq => (o.sm q hq).smr (by decide) (by unfold Sm; decide)⟩, (o.ok.q3 z hz).s5, by decide⟩⟩
private theorem In13.low {S T : List (Rat × Rat)} {Z : List ZR} {made : List Rat} (o : In13 S T Z made) : LowOk 5 26 8 T.length (rowsQ T Z made) := by
  have s6 := o.ok.s6
  have z11 := o.ok.z11
  have wd : ∀ z ∈ Z, Wh 144 26 (dot z.1 made + z.2.2) := fun z hz => by
    have a := (wh_dot z.1 made (fun q hq => o.ok.q1 z hz q hq) o.sm).mono (b := 25) (by have := o.ok.l1 z hz; omega)
    have b : Wh 144 25 z.2.2 := ((o.ok.q3 z hz).up 24 (by decide) (show Sm 5 ((24 : Nat) : Int) by unfold Sm; decide)).mono (by decide)
    exact a.add b
  have d6 : ∀ {n : Nat} {q : Rat}, Wh 6 n q → Sm 8 (q.den : Int) := fun h => h.den (by decide) (by unfold Sm; decide)
  exact rows_low (by decide) (by decide) (by decide) o.ok.t3 (by omega) o.ok.l2 (fun z hz q hq => (o.ok.q2 z hz q hq).s5) (fun z hz => (wd z hz).smr (by decide) (by unfold Sm; decide)) (fun x hx => ⟨((o.ok.oT x hx).ok.1).mono (by decide), ((o.ok.oT x hx).ok.2).mono (by decide)⟩)
    (fun z hz => ⟨144, by decide, by unfold Sm; decide, fun q hq => Int.dvd_trans ((o.ok.q2 z hz q hq).dvd (by decide)) (by decide), (wd z hz).dvd (by decide)⟩) (fun x hx => ⟨d6 (o.ok.oT x hx).1.1, d6 (o.ok.oT x hx).1.2⟩)
private theorem In13.len {S T : List (Rat × Rat)} {Z : List ZR} {made : List Rat} (o : In13 S T Z made) : (rowsQ T Z made).length ≤ 17 := by
  have t3 := o.ok.t3
  have z11 := o.ok.z11
  unfold rowsQ
  rw [List.length_append, List.length_map, bnd_rows_len]
  omega
private theorem In13.wok {S T : List (Rat × Rat)} {Z : List ZR} {made ws : List Rat} (o : In13 S T Z made) (lw : ws.length ≤ 900) (sw : ∀ w ∈ ws, SmR 83 w) : WOk 83 26 17 T.length (rowsQ T Z made) ws := by
  have l := o.low
  have n := o.len
  exact ⟨o.ok.t3, by decide, by decide, by omega, lw, sw, l.len, fun r hr q hq => (l.sb r hr q hq).mono (by decide), l.sd, n, by decide, by decide⟩

/-! ### a demand that weights bar -/
private theorem cut_to {α : Type} {xs : List α} {m : Nat} (h : m ≤ xs.length) : L3.cutD xs none (some (m : Int)) = xs.take m := by
  unfold L3.cutD
  rw [HT.sIx_nat, Nat.min_eq_left h]; rfl
private theorem cut_from {α : Type} {xs : List α} {m : Nat} (h : m ≤ xs.length) : L3.cutD xs (some (m : Int)) none = xs.drop m := by
  unfold L3.cutD
  rw [HT.sIx_nat, Nat.min_eq_left h]
  exact List.take_of_length_le (by rw [List.length_drop]; exact Nat.le_refl _)
structure AgIs (T : List (Rat × Rat)) (Z : List ZR) (made ws b : List Rat) (c : Rat) : Prop where
  lw : ws.length = (rowsQ T Z made).length
  nn : ∀ w ∈ ws, 0 ≤ w
  sw : ∀ w ∈ ws, Wh 6 5 w
  lb : b.length = T.length
  hb : ∀ k, k < T.length → b.getD k 0 = -1 * dot (colB (rowsQ T Z made) k) ws
  hc : ∃ m : Nat, 0 < m ∧ m ≤ 1000 ∧ c = -1 * dot (colD (rowsQ T Z made)) ws + Rat.divInt (-1) m
noncomputable def gAg : List D → (D → Prop) → Prop := fun ds P => ∃ (S T : List (Rat × Rat)) (Z : List ZR) (made : List Rat) (cs : List Int), ds = [planQ S T Z, frL made, .lst (cs.map D.int)] ∧ In13 S T Z made ∧ cs.length = 30 ∧ ∀ ws b c, AgIs T Z made ws b c → P (.lst [planQ S T (Z ++ [(List.replicate S.length 0, b, c)]), frL (ws.take Z.length ++ 1 :: ws.drop Z.length)])
private theorem w_of (c : Int) : 1 + (c.fdiv 4).fmod 3 ≠ 0 ∧ Sm 9000 (1 + (c.fdiv 4).fmod 3) ∧ Wh 6 5 (Rat.divInt (c.fmod 4) (1 + (c.fdiv 4).fmod 3)) ∧ 0 ≤ Rat.divInt (c.fmod 4) (1 + (c.fdiv 4).fmod 3) := by
  have a := fm (x := c) (b := 4) (by decide)
  have b := fm (x := c.fdiv 4) (b := 3) (by decide)
  have s2 : Sm 4 (1 + (c.fdiv 4).fmod 3) := by unfold Sm; omega
  exact ⟨by omega, s2.mono (by decide), wh6 (by omega) (by omega) (by unfold Sm; omega) (by unfold Sm; omega) (by unfold Sm; omega), Rat.divInt_nonneg a.1 (by omega)⟩
noncomputable abbrev s_law_against : Stmt := top 50
private theorem sc_law_against : FnScope ["plan", "made", "cells", "rows", "weights", "b", "k", "d", "a", "less", "many", "changed"] ["plan", "made", "cells"] (defScope s_law_against) := ⟨rfl, rfl, rfl, by decide +kernel, rfl, by decide +kernel, by decide +kernel⟩
private theorem h__law_against (B : Bl mg) (F : Def K mg "_law_against" s_law_against ["plan", "made", "cells"]) (F__law_rows : Has P w K mg base CX0 5 "_law_rows" ["plan", "made"] (spW K (pur gLRows))) (F__law_fraction : hLFr P w K mg base) (F__law_times : hLT P w K mg base) (F__law_sum : Has P w K mg base CX0 4 "_law_sum" ["ones", "others"] (spW K (pur gWS))) (F__law_plus : hLP P w K mg base) : Has P w K mg base CX0 6 "_law_against" ["plan", "made", "cells"] (spW K (pur gAg)) := by
  refine F.hasP sc_law_against (fun ds P h => by obtain ⟨_, _, _, _, _, rfl, _⟩ := h; rfl) fun f cdv A outer s H E hr => ?_
  have nd := sc_law_against.nd
  refine ⟨_, (jss_cons (js_set (i := 3) nd rfl (Or.inl rfl) (j_h F__law_rows (hr.mono (by decide)) rfl (ja_cons (jv 0) (ja_cons (jv 1) ja_nil))))
    (jss_cons (js_setC (k := 4) nd rfl (Or.inl rfl) ["k", "cells"] [none, some 2] ⟨rfl, by decide +kernel, by decide +kernel, rfl, rfl, free_of rfl⟩ rfl (ji_rng1 rfl B.range (ja_cons (j_lenV 3 rfl B.len) ja_nil)) (fun _ _ _ _ _ => (jg_name (i := 0) (show List.Nodup [("k" : Str), ("cells" : Str)] by decide +kernel) rfl (Or.inl rfl))) (fun _ _ _ _ _ => jc_nil) (fun _ _ _ _ _ => (j_h F__law_fraction (hr.mono (by decide)) rfl (ja_cons (j_mod (j_atV 1 (jv 0)) j_int) (ja_cons (j_add j_int (j_mod (j_fdiv (j_atV 1 (jv 0)) j_int) j_int)) ja_nil)))))
    (jss_cons (js_setN (i := 5) nd rfl (Or.inl rfl) (jn_lst ja_nil))
    (jss_cons (js_for PassesOwn.never rfl (ji_rng1 rfl B.range (ja_cons (j_len rfl B.len (ja_cons (j_atV 0 j_int) ja_nil)) ja_nil)) (jg_name (i := 6) nd rfl (Or.inr rfl))
    (jss_one (js_appW 5 (j_h F__law_times (hr.mono (by decide)) rfl (ja_cons (j_tup (ja_cons (j_neg j_int) (ja_cons j_int ja_nil))) (ja_cons (j_h F__law_sum (hr.mono (by decide)) rfl (ja_cons (j_fz (jn_lc ["row", "k"] [none, some 6] ⟨rfl, by decide +kernel, by decide +kernel, rfl, rfl, free_of rfl⟩ rfl (ji_list (jv 3)) (fun _ _ _ _ _ => (jg_name (i := 0) (show List.Nodup [("row" : Str), ("k" : Str)] by decide +kernel) rfl (Or.inl rfl))) (fun _ _ _ _ _ => jc_nil) (fun _ _ _ _ _ => (j_at (j_atV 0 j_int) (jv 1))))) (ja_cons (jv 4) ja_nil))) ja_nil))))))
    (jss_cons (js_set (i := 7) nd rfl (Or.inl rfl) (j_h F__law_sum (hr.mono (by decide)) rfl (ja_cons (j_fz (jn_lc ["row"] [none] ⟨rfl, by decide +kernel, by decide +kernel, rfl, rfl, by intro i x j _ h; exact absurd h (by rcases i with _ | _ | _ | i <;> simp)⟩ rfl (ji_list (jv 3)) (fun _ _ _ _ _ => (jg_name (i := 0) (show List.Nodup [("row" : Str)] by decide +kernel) rfl (Or.inl rfl))) (fun _ _ _ _ _ => jc_nil) (fun _ _ _ _ _ => (j_atV 0 j_int)))) (ja_cons (jv 4) ja_nil))))
    (jss_cons (js_setC (k := 8) nd rfl (Or.inl rfl) ["size"] [none] ⟨rfl, by decide +kernel, by decide +kernel, rfl, rfl, by intro i x j _ h; exact absurd h (by rcases i with _ | _ | _ | i <;> simp)⟩ rfl (ji_list (j_atV 0 j_int)) (fun _ _ _ _ _ => (jg_name (i := 0) (show List.Nodup [("size" : Str)] by decide +kernel) rfl (Or.inl rfl))) (fun _ _ _ _ _ => jc_nil) (fun _ _ _ _ _ => (j_tup (ja_cons j_int (ja_cons j_int ja_nil)))))
    (jss_cons (js_set (i := 9) nd rfl (Or.inl rfl) (j_h F__law_plus (hr.mono (by decide)) rfl (ja_cons (j_h F__law_times (hr.mono (by decide)) rfl (ja_cons (j_tup (ja_cons (j_neg j_int) (ja_cons j_int ja_nil))) (ja_cons (jv 7) ja_nil))) (ja_cons (j_h F__law_fraction (hr.mono (by decide)) rfl (ja_cons (j_neg j_int) (ja_cons (j_add j_int (j_mod (j_atV 2 j_int) j_int)) ja_nil))) ja_nil))))
    (jss_cons (js_set (i := 10) nd rfl (Or.inl rfl) (j_len rfl B.len (ja_cons (j_atV 0 j_int) ja_nil)))
    (jss_cons (js_set (i := 11) nd rfl (Or.inl rfl) (j_tup (ja_cons (j_atV 0 j_int) (ja_cons (j_atV 0 j_int) (ja_cons (j_fz (jn_cat (j_atV 0 j_int) (j_fz (jn_lst (ja_cons (j_tup (ja_cons (jv 8) (ja_cons (jv 5) (ja_cons (jv 9) ja_nil)))) ja_nil))))) ja_nil)))))
    (jss_one (js_ret (j_fz (jn_lst (ja_cons (jv 11) (ja_cons (j_fz (jn_cat (j_fz (jn_cat (j_fz (jn_sl (jv 4) jo_none (jo_some (jv 10)))) (j_fz (jn_lst (ja_cons (j_tup (ja_cons j_int (ja_cons j_int ja_nil))) ja_nil))))) (j_fz (jn_sl (jv 4) (jo_some (jv 10)) jo_none)))) ja_nil))))))))))))))), ?_⟩
  rintro ds M Q ⟨S, T, Z, made, cs, rfl, ok, lc, q⟩
  have low := ok.low
  have n17 := ok.len
  have t3 := ok.ok.t3
  have s6 := ok.ok.s6
  have z11 := ok.ok.z11
  have oT : ∀ x ∈ T, bQok 4000 x := fun x hx => ⟨((ok.ok.oT x hx).ok.1).mono (by decide), ((ok.ok.oT x hx).ok.2).mono (by decide)⟩
  refine ⟨S, T, Z, made, rfl, ok.rok, oT, ?_⟩
  have lr : (rowsQ T Z made).length = Z.length + 2 * T.length := by unfold rowsQ; rw [List.length_append, List.length_map, bnd_rows_len]
  have mk : ∀ (ws b : List Rat) (c : Rat), ws.length = (rowsQ T Z made).length → (∀ w ∈ ws, 0 ≤ w) → (∀ w ∈ ws, Wh 6 5 w) → b.length = T.length → (∀ k, k < T.length → b.getD k 0 = -1 * dot (colB (rowsQ T Z made) k) ws) → (∃ m : Nat, 0 < m ∧ m ≤ 1000 ∧ c = -1 * dot (colD (rowsQ T Z made)) ws + Rat.divInt (-1) m) → AgIs T Z made ws b c := fun ws b c h1 h2 h3 h4 h5 h6 => ⟨h1, h2, h3, h4, h5, h6⟩
  generalize rowsQ T Z made = R at *
  have eR : (R.map rQ).length = R.length := List.length_map _
  refine ⟨⟨by rw [eR]; omega, by rw [eR]; omega⟩, fun i out ρ M' => M' = M ∧ ∃ ws : List Rat, out = ws.map frD ∧ ws.length = i ∧ (∀ w ∈ ws, 0 ≤ w) ∧ (∀ w ∈ ws, Wh 6 5 w) ∧ ∃ o, ρ = [o, .sh (.lst (cs.map D.int))], ⟨rfl, [], rfl, rfl, no_mem, no_mem, _, rfl⟩, ?_, ?_⟩
  · rintro i d out ρ M' hd ⟨rfl, ws, rfl, lw, nn, sw, o, rfl⟩
    obtain ⟨rfl, hi⟩ := rng_get0 hd
    rw [Int.toNat_natCast, eR] at hi
    have hx : cs[i]? = some (cs[i]'(by omega)) := List.getElem?_eq_getElem (by omega)
    generalize cs[i]'(by omega) = c at hx
    obtain ⟨w1, w2, w3, w4⟩ := w_of c
    have hg : (cs.map D.int)[i]? = some (.int c) := by rw [List.getElem?_map, hx]; rfl
    refine RIx.get (d := .int c) hg ⟨(by decide : (4 : Int) ≠ 0), RIx.get (d := .int c) hg ⟨_root_.M.cdv, (by decide : (3 : Int) ≠ 0), _, _, rfl, w1, w2, map_few (by omega), rfl, ws ++ [_], by rw [List.map_append]; rfl, by rw [len_snoc, lw], all_snoc nn w4, all_snoc sw w3, .sh (.int i), rfl⟩⟩
  rintro out ρ M' ⟨rfl, ws, rfl, lw, nn, sw, o, rfl⟩
  rw [rng_len, Int.toNat_natCast, eR] at lw
  have tb : ∀ k, Two 5 5 17 (colB R k) ws := fun k => ⟨by unfold colB; rw [List.length_map, lw], by unfold colB; rw [List.length_map]; exact n17, by decide, fun x hx => by unfold colB at hx; obtain ⟨r, hr, rfl⟩ := List.mem_map.mp hx; exact sm_getD (low.sb r hr) (by decide) k, fun x hx => (sw x hx).s5⟩
  have td : Two 26 5 17 (colD R) ws := ⟨by unfold colD; rw [List.length_map, lw], by unfold colD; rw [List.length_map]; exact n17, by decide, fun x hx => by unfold colD at hx; obtain ⟨r, hr, rfl⟩ := List.mem_map.mp hx; exact low.sd r hr, fun x hx => (sw x hx).s5⟩
  have sm1 : SmR 1 (-1 : Rat) := by unfold SmR Sm; decide
  refine ⟨by show 0 ≤ sizeLine; decide, ⟨by rw [List.length_map]; omega, by rw [List.length_map]; omega⟩, fun i ρ M2 => M2 = M' ∧ ∃ (b : List Rat) (o4 : Ent) (o6 : Ent), ρ = [.sh (planQ S T Z), .sh (frL made), .sh (.lst (cs.map D.int)), .sh (.lst (R.map rQ)), o4, .ow (b.map frD), o6, .un, .un, .un, .un, .un] ∧ (o4 = .ow (ws.map frD) ∨ o4 = .sh (frL ws)) ∧ b.length = i ∧ ∀ k, k < i → b.getD k 0 = -1 * dot (colB R k) ws, ⟨rfl, [], _, _, rfl, .inl rfl, rfl, fun k hk => absurd hk (Nat.not_lt_zero k)⟩, ?_, ?_⟩
  · intro i d ρ M2 hd hI
    refine wabsG fun EE hE => ?_
    obtain ⟨rfl, b, o4, o6, rfl, ho, lb, hb⟩ := hI
    obtain ⟨rfl, hi⟩ := rng_get0 hd
    rw [Int.toNat_natCast, List.length_map] at hi
    have fin : ∀ (k : Nat), k < i + 1 → (b ++ [-1 * dot (colB R i) ws]).getD k 0 = -1 * dot (colB R k) ws := fun k hk => by
      by_cases z : k = i
      · subst z
        rw [List.getD_eq_getElem?_getD, List.getElem?_append_right (by omega), lb, Nat.sub_self]; rfl
      · rw [List.getD_eq_getElem?_getD, List.getElem?_append_left (by omega), ← List.getD_eq_getElem?_getD]; exact hb k (by omega)
    rcases ho with rfl | rfl
    all_goals
      refine ⟨trivial, by show 2 ≤ sizeLine; decide, fun j out ρ M3 => M3 = M2 ∧ out = (R.take j).map (fun r => frD (r.1.getD i 0)) ∧ ∃ o, ρ = [o, .sh (.int (i : Nat))], ⟨rfl, rfl, _, rfl⟩, ?_, ?_⟩
      · rintro j d out ρ M3 hd ⟨rfl, rfl, o, rfl⟩
        obtain ⟨r, hr, rfl⟩ := map_get hd
        have lr1 := low.len r (List.mem_of_getElem? hr)
        have hx : r.1[i]? = some (r.1.getD i 0) := by rw [List.getD_eq_getElem?_getD, List.getElem?_eq_getElem (by omega)]; rfl
        exact RIx.get (d := frD (r.1.getD i 0)) (by rw [List.getElem?_map, hx]; rfl) ⟨take_small (by omega), rfl, take_map' (f := fun r : BR => frD (r.1.getD i 0)) hr, .sh (rQ r), rfl⟩
      rintro out ρ M3 ⟨rfl, rfl, o, rfl⟩
      rw [List.length_map, List.take_length]
      refine ⟨colB R i, ws, 5, 5, 17, by unfold frL colB; rw [List.map_map]; rfl, tb i, -1, _, rfl, Mx.of sm1 (tb i).sm, map_few (by omega), ?_⟩
      subst hE
      exact ⟨rfl, b ++ [_], _, _, by rw [List.map_append]; rfl, .inr rfl, by rw [len_snoc, lb], fin⟩
  rintro ρ M2 ⟨rfl, b, o4, o6, rfl, ho, lb, hb⟩
  rw [rng_len, Int.toNat_natCast, List.length_map] at lb hb
  have hx0 : cs[0]? = some (cs[0]'(by omega)) := List.getElem?_eq_getElem (by omega)
  generalize cs[0]'(by omega) = c0 at hx0
  obtain ⟨y, ey, hy⟩ := natOf (fm (x := c0) (b := 1000) (by decide))
  have eM : (1 : Int) + c0.fmod 1000 = ((1 + y : Nat) : Int) := by rw [ey]; omega
  have sM : Sm 10 (1 + c0.fmod 1000) := by rw [eM]; unfold Sm; omega
  have nM : 1 + c0.fmod 1000 ≠ 0 := by rw [eM]; omega
  have sf := fr_sm nM (show Sm 10 (-1) by unfold Sm; decide) sM
  have ag := mk ws b (-1 * dot (colD R) ws + Rat.divInt (-1) (1 + c0.fmod 1000)) lw nn sw lb hb ⟨1 + y, by omega, by omega, by rw [eM]⟩
  have qq := q ws b _ ag
  have lZ : Z.length ≤ ws.length := by rw [lw, lr]; omega
  have c1 : L3.cutD (ws.map frD) none (some ((Z.map zQ).length : Int)) = (ws.take Z.length).map frD := by rw [List.length_map, cut_to (by rw [List.length_map]; exact lZ), List.map_take]
  have c2 : L3.cutD (ws.map frD) (some ((Z.map zQ).length : Int)) none = (ws.drop Z.length).map frD := by rw [List.length_map, cut_from (by rw [List.length_map]; exact lZ), List.map_drop]
  rcases ho with rfl | rfl
  all_goals
    refine ⟨fun j out ρ M3 => M3 = M2 ∧ out = (R.take j).map (fun r => frD r.2) ∧ ∃ o, ρ = [o], ⟨rfl, rfl, _, rfl⟩, ?_, ?_⟩
    · rintro j d out ρ M3 hd ⟨rfl, rfl, o, rfl⟩
      obtain ⟨r, hr, rfl⟩ := map_get hd
      exact ⟨take_small (by omega), rfl, take_map' (f := fun r : BR => frD r.2) hr, .sh (rQ r), rfl⟩
    rintro out ρ M3 ⟨rfl, rfl, o, rfl⟩
    rw [List.length_map, List.take_length]
    refine ⟨colD R, ws, 26, 5, 17, by unfold frL colD; rw [List.map_map]; rfl, td, fun j out ρ M4 => M4 = M3 ∧ out = List.replicate j (frD 0) ∧ ∃ o, ρ = [o], ⟨rfl, rfl, _, rfl⟩, ?_, ?_⟩
    · rintro j d out ρ M4 hd ⟨rfl, rfl, o, rfl⟩
      have hj := (List.getElem?_eq_some_iff.mp hd).1
      rw [List.length_map] at hj
      exact ⟨by show 2 ≤ sizeLine; decide, by rw [List.length_replicate]; exact small1000 (by omega), rfl, by rw [List.replicate_succ']; rfl, .sh d, rfl⟩
    rintro out ρ M4 ⟨rfl, rfl, o, rfl⟩
    refine ⟨by show 2 ≤ sizeLine; decide, -1, _, rfl, Mx.of sm1 td.sm, RIx.get (k := 0) (d := .int c0) (by rw [List.getElem?_map, hx0]; rfl) ⟨(by decide : (1000 : Int) ≠ 0), _, _, rfl, nM, sM.mono (by decide), _, _, rfl, Mx.of (smr_mul sm1 td.sm) sf, by show 3 ≤ sizeLine; decide, by show 1 ≤ sizeLine; decide, ?_, by show 3 ≤ sizeLine; decide, by show 2 ≤ sizeLine; decide, by show 1 ≤ sizeLine; decide, ?_, ?_, by show 2 ≤ sizeLine; decide, _, Sub.refl _, ?_⟩⟩
    · rw [List.length_map]; exact Nat.le_trans (show Z.length + 1 ≤ 12 by omega) (by decide)
    · rw [c1, List.length_map, List.length_take]; exact Nat.le_trans (show min Z.length ws.length + 1 ≤ 12 by omega) (by decide)
    · rw [c1, c2, List.length_append, List.length_map, List.length_map, List.length_take, List.length_drop]; exact Nat.le_trans (show min Z.length ws.length + 1 + (ws.length - Z.length) ≤ 18 by omega) (by decide)
    · have ea : List.replicate (S.map bQ).length (frD 0) = (List.replicate S.length (0 : Rat)).map frD := by rw [List.map_replicate, List.length_map]
      have e3 : frL (ws.take Z.length ++ 1 :: ws.drop Z.length) = .lst ((ws.take Z.length).map frD ++ [.tup [.int 1, .int 1]] ++ (ws.drop Z.length).map frD) := by
        show D.lst ((ws.take Z.length ++ 1 :: ws.drop Z.length).map frD) = _
        rw [List.map_append, List.map_cons, List.append_assoc]; rfl
      rw [e3, planQ, List.map_append] at qq
      rw [c1, c2, ea]
      exact qq

/-! ### copies, and weights spoilt -/
noncomputable def gCopy : List D → (D → Prop) → Prop := fun ds P => ∃ (S T : List (Rat × Rat)) (Z : List ZR), ds = [planQ S T Z] ∧ Z.length ≤ 100 ∧ P (planQ S T Z)
noncomputable abbrev s_law_copy : Stmt := top 51
private theorem sc_law_copy : FnScope ["plan", "demands", "a", "b", "c"] ["plan"] (defScope s_law_copy) := ⟨rfl, rfl, rfl, by decide +kernel, rfl, by decide +kernel, by decide +kernel⟩
private theorem h__law_copy (B : Bl mg) (F : Def K mg "_law_copy" s_law_copy ["plan"]) : Has P w K mg base CX0 1 "_law_copy" ["plan"] (spW K (pur gCopy)) := by
  refine F.hasP sc_law_copy (fun ds P h => by obtain ⟨_, _, _, rfl, _⟩ := h; rfl) fun f cdv A outer s H E hr => ?_
  have nd := sc_law_copy.nd
  refine ⟨_, (jss_cons (js_setN (i := 1) nd rfl (Or.inl rfl) (jn_lst ja_nil))
    (jss_cons (js_for PassesOwn.never rfl (ji_list (j_atV 0 j_int)) (jg_tup (n := 3) rfl (jgs_cons (jg_name (i := 2) nd rfl (Or.inl rfl)) (jgs_cons (jg_name (i := 3) nd rfl (Or.inl rfl)) (jgs_cons (jg_name (i := 4) nd rfl (Or.inl rfl)) jgs_nil))))
    (jss_one (js_appW 1 (j_tup (ja_cons (j_fz (jn_list rfl B.list (ja_cons (jv 2) ja_nil))) (ja_cons (j_fz (jn_list rfl B.list (ja_cons (jv 3) ja_nil))) (ja_cons (jv 4) ja_nil)))))))
    (jss_one (js_ret (j_tup (ja_cons (j_fz (jn_list rfl B.list (ja_cons (j_atV 0 j_int) ja_nil))) (ja_cons (j_fz (jn_list rfl B.list (ja_cons (j_atV 0 j_int) ja_nil))) (ja_cons (jv 1) ja_nil)))))))), ?_⟩
  rintro ds M Q ⟨S, T, Z, rfl, l, k⟩
  refine ⟨by show 0 ≤ sizeLine; decide, fun i ρ M' => M' = M ∧ ∃ o2 o3 o4, ρ = [.sh (planQ S T Z), .ow ((Z.take i).map zQ), o2, o3, o4], ⟨rfl, _, _, _, rfl⟩, ?_, ?_⟩
  · rintro i d ρ M' hd ⟨rfl, o2, o3, o4, rfl⟩
    obtain ⟨z, hz, rfl⟩ := map_get hd
    refine ⟨rfl, trivial, by show 3 ≤ sizeLine; decide, take_small (by omega), rfl, .sh (frL z.1), .sh (frL z.2.1), .sh (frD z.2.2), ?_⟩
    rw [← take_map' (f := zQ) hz]; rfl
  · rintro ρ M' ⟨rfl, o2, o3, o4, rfl⟩
    rw [List.length_map, List.take_length]
    exact ⟨by show 3 ≤ sizeLine; decide, _, Sub.refl _, k⟩
noncomputable def gSpo : List D → (D → Prop) → Prop := fun ds P => ∃ (ws : List Rat) (c : Int), ds = [frL ws, .int c] ∧ 0 < ws.length ∧ ws.length ≤ 100 ∧ (∀ w ∈ ws, SmR 5 w) ∧ ∀ us : List Rat, us.length ≤ 101 → (∀ u ∈ us, SmR 40 u) → P (frL us)
private theorem set_sm {n : Nat} {l : List Rat} {k : Nat} {x : Rat} (h : ∀ w ∈ l, SmR n w) (hx : SmR n x) : ∀ w ∈ l.set k x, SmR n w := fun w hw => by
  rcases List.mem_or_eq_of_mem_set hw with z | z
  · exact h w z
  · rw [z]; exact hx
private theorem mono_sm {n m : Nat} {l : List Rat} (h : ∀ w ∈ l, SmR n w) (k : n ≤ m) : ∀ w ∈ l, SmR m w := fun w hw => (h w hw).mono k
private theorem fr_2 {x : Int} (h : 0 ≤ x ∧ x < 3) : SmR 4 (Rat.divInt (1 + x) 2) ∧ SmR 4 (Rat.divInt (-1 - x) 2) := ⟨fr_sm (by decide) (by unfold Sm; omega) (by unfold Sm; decide), fr_sm (by decide) (by unfold Sm; omega) (by unfold Sm; decide)⟩
noncomputable def spR (ws us : List Rat) (c way : Int) (a : Nat) : Rho := [.sh (frL ws), .sh (.int c), .sh (.int way), .ow (us.map frD), .sh (.int (a : Nat))]
noncomputable abbrev s_law_spoilt : Stmt := top 52
private theorem sc_law_spoilt : FnScope ["weights", "cell", "way", "some", "at"] ["weights", "cell"] (defScope s_law_spoilt) := ⟨rfl, rfl, rfl, by decide +kernel, rfl, by decide +kernel, by decide +kernel⟩
private theorem h__law_spoilt (B : Bl mg) (F : Def K mg "_law_spoilt" s_law_spoilt ["weights", "cell"]) (F__law_plus : hLP P w K mg base) (F__law_fraction : hLFr P w K mg base) (F__law_times : hLT P w K mg base) : Has P w K mg base CX0 4 "_law_spoilt" ["weights", "cell"] (spW K (pur gSpo)) := by
  refine F.hasP sc_law_spoilt (fun ds P h => by obtain ⟨_, _, rfl, _⟩ := h; rfl) fun f cdv A outer s H E hr => ?_
  have nd := sc_law_spoilt.nd
  refine ⟨_, (jss_cons (js_set (i := 2) nd rfl (Or.inl rfl) (j_mod (jv 1) j_int))
    (jss_cons (js_set (i := 1) nd rfl (Or.inr rfl) (j_fdiv (jv 1) j_int))
    (jss_cons (js_setN (i := 3) nd rfl (Or.inl rfl) (jn_list rfl B.list (ja_cons (jv 0) ja_nil)))
    (jss_cons (js_cut (js_set (i := 4) nd rfl (Or.inl rfl) (j_mod (jv 1) (j_lenV 3 rfl B.len))))
    (jss_cons (js_cut (js_if (jt_eq hr (jv 2) j_int) (jss_one (js_setIxW 3 (j_h F__law_plus (hr.mono (by decide)) rfl (ja_cons (j_atV 3 (jv 4)) (ja_cons (j_h F__law_fraction (hr.mono (by decide)) rfl (ja_cons (j_add j_int (j_mod (j_fdiv (jv 1) j_int) j_int)) (ja_cons j_int ja_nil))) ja_nil))) (jv 4))) jss_nil))
    (jss_cons (js_cut (js_if (jt_eq hr (jv 2) j_int) (jss_one (js_setIxW 3 (j_h F__law_plus (hr.mono (by decide)) rfl (ja_cons (j_atV 3 (jv 4)) (ja_cons (j_tup (ja_cons (j_neg j_int) (ja_cons j_int ja_nil))) ja_nil))) (jv 4))) jss_nil))
    (jss_cons (js_cut (js_if (jt_eq hr (jv 2) j_int) (jss_one (js_setIxW 3 (j_h F__law_fraction (hr.mono (by decide)) rfl (ja_cons (j_sub (j_neg j_int) (j_mod (j_fdiv (jv 1) j_int) j_int)) (ja_cons j_int ja_nil))) (jv 4))) jss_nil))
    (jss_cons (js_cut (js_if (jt_eq hr (jv 2) j_int) (jss_one (js_pop 3 (jv 4))) jss_nil))
    (jss_cons (js_cut (js_if (jt_eq hr (jv 2) j_int) (jss_one (js_ins 3 (jv 4) (j_tup (ja_cons j_int (ja_cons j_int ja_nil))))) jss_nil))
    (jss_cons (js_cut (js_if (jt_eq hr (jv 2) j_int) (jss_one (js_setC (k := 3) nd rfl (Or.inl rfl) ["q", "cell"] [none, some 1] ⟨rfl, by decide +kernel, by decide +kernel, rfl, rfl, free_of rfl⟩ rfl (ji_list (jv 3)) (fun _ _ _ _ _ => (jg_name (i := 0) (show List.Nodup [("q" : Str), ("cell" : Str)] by decide +kernel) rfl (Or.inl rfl))) (fun _ _ _ _ _ => jc_nil) (fun _ _ _ _ _ => (j_h F__law_times (hr.mono (by decide)) rfl (ja_cons (j_h F__law_fraction (hr.mono (by decide)) rfl (ja_cons (j_mod (j_fdiv (jv 1) j_int) j_int) (ja_cons (j_add j_int (j_mod (j_fdiv (jv 1) j_int) j_int)) ja_nil))) (ja_cons (jv 0) ja_nil)))))) jss_nil))
    (jss_cons (js_cut (js_if (jt_eq hr (jv 2) j_int) (jss_one (js_setC (k := 3) nd rfl (Or.inl rfl) ["k", "cell"] [none, some 1] ⟨rfl, by decide +kernel, by decide +kernel, rfl, rfl, free_of rfl⟩ rfl (ji_rng1 rfl B.range (ja_cons (j_lenV 3 rfl B.len) ja_nil)) (fun _ _ _ _ _ => (jg_name (i := 0) (show List.Nodup [("k" : Str), ("cell" : Str)] by decide +kernel) rfl (Or.inl rfl))) (fun _ _ _ _ _ => jc_nil) (fun _ _ _ _ _ => (j_h F__law_fraction (hr.mono (by decide)) rfl (ja_cons (j_mod (j_fdiv (jv 1) (j_add (jv 0) j_int)) j_int) (ja_cons j_int ja_nil)))))) jss_nil))
    (jss_one (js_ret (jv 3)))))))))))))), ?_⟩
  rintro ds M Q ⟨ws, c, rfl, l0, l1, sw, q⟩
  have eL : ((ws.map frD).length : Int) = (ws.length : Int) := by rw [List.length_map]
  obtain ⟨a, ea, ha⟩ := natOf (fm (x := c.fdiv 8) (b := (ws.length : Int)) (by omega))
  have ha : a < ws.length := by omega
  refine ⟨(by decide : (8 : Int) ≠ 0), _root_.M.cdv, fun ρ M' => M' = M ∧ ∃ (c way : Int) (us : List Rat), us.length = ws.length ∧ (∀ u ∈ us, SmR 5 u) ∧ ρ = spR ws us c way a, ⟨by dsimp only; rw [eL]; omega, rfl, c.fdiv 8, c.fmod 8, ws, rfl, sw, ?_⟩, ?_⟩
  · show [Ent.sh (frL ws), .sh (.int (c.fdiv 8)), .sh (.int (c.fmod 8)), .ow (ws.map frD), .sh (.int ((c.fdiv 8).fmod ((ws.map frD).length : Int)))] = _
    rw [eL, ea]; rfl
  clear ea eL c
  rintro ρ M' ⟨rfl, c, way, us, lu, su, rfl⟩
  have f20 := fm (x := c.fdiv 20) (b := 3) (by decide)
  have f2 := fr_2 f20
  refine ⟨fun ρ M2 => M2 = M' ∧ ∃ us : List Rat, us.length = ws.length ∧ (∀ u ∈ us, SmR 10 u) ∧ ρ = spR ws us c way a, ⟨by show 0 ≤ 60; decide, ?_⟩, ?_⟩
  · show if (way == 1) = true then _ else _
    refine iteB (fun _ => ?_) (fun _ => ⟨rfl, us, lu, mono_sm su (by decide), rfl⟩)
    have hx : us[a]? = some (us[a]'(by omega)) := List.getElem?_eq_getElem (by omega)
    generalize us[a]'(by omega) = x at hx
    have sx := su x (List.mem_of_getElem? hx)
    refine ⟨trivial, ?_⟩
    show match atI (us.map frD) (a : Int) with | some d => _ | none => False
    rw [at_nat (d := frD x) (by rw [List.getElem?_map, hx]; rfl)]
    refine ⟨_root_.M.cdv, (by decide : (3 : Int) ≠ 0), _, _, rfl, by decide, by unfold Sm; decide, x, _, rfl, Mx.of sx f2.1, trivial, ?_⟩
    show match ixN (us.map frD).length (a : Int) with | some n => _ | none => False
    rw [ixN_ok (by rw [List.length_map]; omega)]
    exact ⟨rfl, us.set a (x + Rat.divInt (1 + (c.fdiv 20).fmod 3) 2), by rw [List.length_set]; exact lu, set_sm (mono_sm su (by decide)) (smr_add sx f2.1), by unfold spR; rw [List.map_set]; rfl⟩
  clear lu su us
  rintro ρ M2 ⟨rfl, us, lu, su, rfl⟩
  refine ⟨fun ρ M3 => M3 = M2 ∧ ∃ us : List Rat, us.length = ws.length ∧ (∀ u ∈ us, SmR 14 u) ∧ ρ = spR ws us c way a, ⟨by show 0 ≤ 60; decide, ?_⟩, ?_⟩
  · show if (way == 2) = true then _ else _
    refine iteB (fun _ => ?_) (fun _ => ⟨rfl, us, lu, mono_sm su (by decide), rfl⟩)
    have hx : us[a]? = some (us[a]'(by omega)) := List.getElem?_eq_getElem (by omega)
    generalize us[a]'(by omega) = x at hx
    have sx := su x (List.mem_of_getElem? hx)
    have s7 : SmR 3 (-1 / 7 : Rat) := by unfold SmR Sm; decide +kernel
    have e7 : frD (-1 / 7 : Rat) = .tup [.int (-1), .int 7] := by
      have e1 : (-1 / 7 : Rat).num = -1 := by decide +kernel
      have e2 : (-1 / 7 : Rat).den = 7 := by decide +kernel
      rw [frD, e1, e2]; rfl
    refine ⟨trivial, ?_⟩
    show match atI (us.map frD) (a : Int) with | some d => _ | none => False
    rw [at_nat (d := frD x) (by rw [List.getElem?_map, hx]; rfl)]
    refine ⟨by show 2 ≤ sizeLine; decide, x, -1 / 7, by rw [e7], Mx.of sx s7, trivial, ?_⟩
    show match ixN (us.map frD).length (a : Int) with | some n => _ | none => False
    rw [ixN_ok (by rw [List.length_map]; omega)]
    exact ⟨rfl, us.set a (x + -1 / 7), by rw [List.length_set]; exact lu, set_sm (mono_sm su (by decide)) (smr_add sx s7), by unfold spR; rw [List.map_set]; rfl⟩
  clear lu su us
  rintro ρ M3 ⟨rfl, us, lu, su, rfl⟩
  refine ⟨fun ρ M4 => M4 = M3 ∧ ∃ us : List Rat, us.length = ws.length ∧ (∀ u ∈ us, SmR 14 u) ∧ ρ = spR ws us c way a, ⟨by show 0 ≤ 60; decide, ?_⟩, ?_⟩
  · show if (way == 3) = true then _ else _
    refine iteB (fun _ => ?_) (fun _ => ⟨rfl, us, lu, su, rfl⟩)
    refine ⟨_root_.M.cdv, (by decide : (3 : Int) ≠ 0), _, _, rfl, by decide, by unfold Sm; decide, trivial, ?_⟩
    show match ixN (us.map frD).length (a : Int) with | some n => _ | none => False
    rw [ixN_ok (by rw [List.length_map]; omega)]
    exact ⟨rfl, us.set a (Rat.divInt (-1 - (c.fdiv 20).fmod 3) 2), by rw [List.length_set]; exact lu, set_sm su (f2.2.mono (by decide)), by unfold spR; rw [List.map_set]; rfl⟩
  clear lu su us
  rintro ρ M4 ⟨rfl, us, lu, su, rfl⟩
  refine ⟨fun ρ M5 => M5 = M4 ∧ ∃ us : List Rat, (us.length ≤ ws.length ∧ a ≤ us.length) ∧ (∀ u ∈ us, SmR 14 u) ∧ ρ = spR ws us c way a, ⟨by show 0 ≤ 60; decide, ?_⟩, ?_⟩
  · show if (way == 4) = true then _ else _
    refine iteB (fun _ => ?_) (fun _ => ⟨rfl, us, ⟨by omega, by omega⟩, su, rfl⟩)
    refine ⟨trivial, a, rfl, by rw [List.length_map]; omega, by omega, rfl, us.eraseIdx a, ?_, fun u hu => su u (List.mem_of_mem_eraseIdx hu), ?_⟩
    · rw [List.length_eraseIdx, if_pos (by omega)]; omega
    · have e : (us.eraseIdx a).map frD = (us.map frD).eraseIdx a := by rw [List.eraseIdx_eq_take_drop_succ, List.eraseIdx_eq_take_drop_succ, List.map_append, List.map_take, List.map_drop]
      unfold spR; rw [e]; rfl
  clear lu su us
  rintro ρ M5 ⟨rfl, us, ⟨lu, la⟩, su, rfl⟩
  refine ⟨fun ρ M6 => M6 = M5 ∧ ∃ us : List Rat, us.length ≤ ws.length + 1 ∧ (∀ u ∈ us, SmR 14 u) ∧ ρ = spR ws us c way a, ⟨by show 0 ≤ 60; decide, ?_⟩, ?_⟩
  · show if (way == 5) = true then _ else _
    refine iteB (fun _ => ?_) (fun _ => ⟨rfl, us, by omega, su, rfl⟩)
    refine ⟨trivial, by show 2 ≤ sizeLine; decide, a, rfl, by rw [List.length_map]; exact la, by omega, by rw [List.length_map]; exact small1000 (by omega), rfl, us.take a ++ 0 :: us.drop a, by simp; omega, fun u hu => ?_, ?_⟩
    · rcases List.mem_append.mp hu with h | h
      · exact su u (List.mem_of_mem_take h)
      · rcases List.mem_cons.mp h with rfl | h
        · exact sm0.mono (by decide)
        · exact su u (List.mem_of_mem_drop h)
    · unfold spR; rw [List.map_append, List.map_cons, List.map_take, List.map_drop]; rfl
  clear lu la su us
  rintro ρ M6 ⟨rfl, us, lu, su, rfl⟩
  refine ⟨fun ρ M7 => M7 = M6 ∧ ∃ us : List Rat, us.length ≤ ws.length + 1 ∧ (∀ u ∈ us, SmR 18 u) ∧ ρ = spR ws us c way a, ⟨by show 0 ≤ 60; decide, ?_⟩, ?_⟩
  · show if (way == 6) = true then _ else _
    refine iteB (fun _ => ?_) (fun _ => ⟨rfl, us, lu, mono_sm su (by decide), rfl⟩)
    have f60 := fm (x := c.fdiv 60) (b := 2) (by decide)
    have s2 : Sm 4 (1 + (c.fdiv 60).fmod 2) := by unfold Sm; omega
    have sf : SmR 4 (Rat.divInt ((c.fdiv 20).fmod 3) (1 + (c.fdiv 60).fmod 2)) := fr_sm (by omega) (by unfold Sm; omega) s2
    refine ⟨fun i out ρ M8 => M8 = M6 ∧ out = (us.take i).map (fun u => frD (Rat.divInt ((c.fdiv 20).fmod 3) (1 + (c.fdiv 60).fmod 2) * u)) ∧ ∃ o, ρ = [o, .sh (.int c)], ⟨rfl, rfl, _, rfl⟩, ?_, ?_⟩
    · rintro i d out ρ M8 hd ⟨rfl, rfl, o, rfl⟩
      obtain ⟨x, hx, rfl⟩ := map_get hd
      exact ⟨_root_.M.cdv, (by decide : (3 : Int) ≠ 0), _root_.M.cdv, (by decide : (2 : Int) ≠ 0), _, _, rfl, by omega, s2.mono (by decide), _, x, rfl, Mx.of sf (su x (List.mem_of_getElem? hx)), take_small (by omega), rfl, take_map' (f := fun u => frD (Rat.divInt ((c.fdiv 20).fmod 3) (1 + (c.fdiv 60).fmod 2) * u)) hx, .sh (frD x), rfl⟩
    rintro out ρ M8 ⟨rfl, rfl, o, rfl⟩
    rw [List.length_map, List.take_length]
    refine ⟨rfl, us.map fun u => Rat.divInt ((c.fdiv 20).fmod 3) (1 + (c.fdiv 60).fmod 2) * u, by rw [List.length_map]; exact lu, fun u hu => ?_, by unfold spR; rw [List.map_map]; rfl⟩
    obtain ⟨x, hx, rfl⟩ := List.mem_map.mp hu
    exact smr_mul sf (su x hx)
  clear lu su us
  rintro ρ M7 ⟨rfl, us, lu, su, rfl⟩
  refine ⟨fun ρ M8 => M8 = M7 ∧ ∃ us : List Rat, us.length ≤ ws.length + 1 ∧ (∀ u ∈ us, SmR 18 u) ∧ ρ = spR ws us c way a, ⟨by show 0 ≤ 60; decide, ?_⟩, ?_⟩
  · show if (way == 7) = true then _ else _
    refine iteB (fun _ => ?_) (fun _ => ⟨rfl, us, lu, su, rfl⟩)
    refine ⟨⟨by rw [List.length_map]; omega, by rw [List.length_map]; omega⟩, fun i out ρ M8 => M8 = M7 ∧ ∃ vs : List Rat, out = vs.map frD ∧ vs.length = i ∧ (∀ u ∈ vs, SmR 18 u) ∧ ∃ o, ρ = [o, .sh (.int c)], ⟨rfl, [], rfl, rfl, no_mem, _, rfl⟩, ?_, ?_⟩
    · rintro i d out ρ M8 hd ⟨rfl, vs, rfl, lv, sv, o, rfl⟩
      obtain ⟨rfl, hi⟩ := rng_get0 hd
      rw [Int.toNat_natCast, List.length_map] at hi
      have f3 := fm (x := c.fdiv ((i : Int) + 1)) (b := 3) (by decide)
      refine ⟨⟨by omega, by unfold Sm; have : (2 : Nat) ^ 9000 ≥ 2 ^ 30 := Nat.pow_le_pow_right (by decide) (by decide); omega⟩, (by decide : (3 : Int) ≠ 0), _, _, rfl, by decide, by unfold Sm; decide, map_few (by omega), rfl, vs ++ [_], by rw [List.map_append]; rfl, by rw [len_snoc, lv], all_snoc sv ((fr_sm (n := 4) (by decide) (by unfold Sm; omega) (by unfold Sm; decide)).mono (by decide)), .sh (.int i), rfl⟩
    rintro out ρ M8 ⟨rfl, vs, rfl, lv, sv, o, rfl⟩
    rw [rng_len, Int.toNat_natCast, List.length_map] at lv
    exact ⟨rfl, vs, by omega, sv, rfl⟩
  clear lu su us
  rintro ρ M8 ⟨rfl, us, lu, su, rfl⟩
  exact ⟨_, Sub.refl _, q us (by omega) (mono_sm su (by decide))⟩

private theorem deps_map' {α : Type} {f : α → D} {n : Nat} (h : ∀ a, dep (f a) ≤ n) : ∀ l : List α, deps (l.map f) ≤ n
  | [] => by rw [List.map_nil, deps]; exact Nat.zero_le _
  | x :: l => by rw [List.map_cons, deps]; exact Nat.max_le.mpr ⟨h x, deps_map' h l⟩
private theorem dep_frD1 (q : Rat) : dep (frD q) ≤ 1 := by simp [frD, dep, deps]
private theorem dep_frL (qs : List Rat) : dep (frL qs) ≤ 2 := by rw [dep]; exact Nat.succ_le_succ (deps_map' dep_frD1 qs)
private theorem dep_bQ (x : Rat × Rat) : dep (bQ x) ≤ 2 := by
  have h1 := dep_frD1 x.1
  have h2 := dep_frD1 x.2
  simp only [bQ, dep, deps]; omega
private theorem dep_zQ (z : ZR) : dep (zQ z) ≤ 3 := by
  have h1 := dep_frL z.1
  have h2 := dep_frL z.2.1
  have h3 := dep_frD1 z.2.2
  simp only [zQ, dep, deps] at h1 h2 ⊢; omega
private theorem dep_rQ (z : BR) : dep (rQ z) ≤ 3 := by
  have h1 := dep_frL z.1
  have h3 := dep_frD1 z.2
  simp only [rQ, dep, deps] at h1 ⊢; omega
private theorem dep_planQ (S T : List (Rat × Rat)) (Z : List ZR) : dep (planQ S T Z) ≤ 5 := by
  have h1 := deps_map' dep_bQ S
  have h2 := deps_map' dep_bQ T
  have h3 := deps_map' dep_zQ Z
  simp only [planQ, dep, deps]; omega
private theorem dep_rows (R : List BR) : dep (.lst (R.map rQ)) ≤ 4 := by rw [dep]; exact Nat.succ_le_succ (deps_map' dep_rQ R)

/-! ### the law -/
private theorem wh_dotG {D E n m : Nat} : ∀ (qs rs : List Rat), (∀ q ∈ qs, Wh D n q) → (∀ r ∈ rs, Wh E m r) → Wh (D * E) (n + m + qs.length) (dot qs rs) := by
  intro qs
  induction qs with
  | nil => intro rs _ _; rw [dot_nil]; exact wh_0 _ _
  | cons q qs ih =>
    intro rs h k
    cases rs with
    | nil => exact wh_0 _ _
    | cons r rs =>
      rw [dot]
      have a : Wh (D * E) (n + m) (q * r) := (h q (.head _)).mul (k r (.head _))
      exact (a.mono (b := n + m + qs.length) (by omega)).add (ih rs (fun x hx => h x (.tail _ hx)) fun x hx => k x (.tail _ hx))
private theorem Wh.neg {D n : Nat} {q : Rat} (h : Wh D n q) : Wh D n (-q) := by
  obtain ⟨a, rfl, sa⟩ := h
  exact ⟨-a, by rw [Rat.neg_divInt], sa.neg⟩
private theorem row_wh {S T : List (Rat × Rat)} {Z : List ZR} {made : List Rat} (o : In13 S T Z made) : (∀ r ∈ rowsQ T Z made, ∀ q ∈ r.1, Wh 6 5 q) ∧ ∀ r ∈ rowsQ T Z made, Wh 144 26 r.2 := by
  have s6 := o.ok.s6
  have u : ∀ (k : Nat) (x : Rat), Wh 6 5 x → ∀ q ∈ unitQ T.length k x, Wh 6 5 q := fun k x hx q hq => by
    unfold unitQ at hq
    rcases List.mem_or_eq_of_mem_set hq with z | z
    · rw [List.eq_of_mem_replicate z]; exact wh_0 _ _
    · rw [z]; exact hx
  refine ⟨fun r hr => ?_, fun r hr => ?_⟩
  · rcases List.mem_append.mp hr with h | h
    · obtain ⟨z, hz, rfl⟩ := List.mem_map.mp h; exact o.ok.q2 z hz
    · obtain ⟨k, x, _, rfl | rfl⟩ := bnd_mem h
      · exact u k 1 ⟨6, by decide +kernel, by unfold Sm; decide⟩
      · exact u k (-1) ⟨-6, by decide +kernel, by unfold Sm; decide⟩
  · rcases List.mem_append.mp hr with h | h
    · obtain ⟨z, hz, rfl⟩ := List.mem_map.mp h
      have a := (wh_dot z.1 made (fun q hq => o.ok.q1 z hz q hq) o.sm).mono (b := 25) (by have := o.ok.l1 z hz; omega)
      have b : Wh 144 25 z.2.2 := ((o.ok.q3 z hz).up 24 (by decide) (show Sm 5 ((24 : Nat) : Int) by unfold Sm; decide)).mono (by decide)
      exact a.add b
    · have up : ∀ {q : Rat}, Wh 6 7 q → Wh 144 26 q := fun h => (h.up 24 (by decide) (show Sm 5 ((24 : Nat) : Int) by unfold Sm; decide)).mono (by decide)
      obtain ⟨k, x, hx, rfl | rfl⟩ := bnd_mem h
      · exact up (o.ok.oT x (List.mem_of_getElem? hx)).1.1.neg
      · exact up (o.ok.oT x (List.mem_of_getElem? hx)).1.2
private theorem against_in {S T : List (Rat × Rat)} {Z : List ZR} {made ws b : List Rat} {c : Rat} (o : In13 S T Z made) (ag : AgIs T Z made ws b c) : InY 28 60 20 S T (Z ++ [(List.replicate S.length 0, b, c)]) made ∧ wbB T.length (rowsQ T (Z ++ [(List.replicate S.length 0, b, c)]) made) (ws.take Z.length ++ 1 :: ws.drop Z.length) = true := by
  have z11 := o.ok.z11
  have n17 := o.len
  obtain ⟨w1, w2⟩ := row_wh o
  obtain ⟨m, m0, m1, rfl⟩ := ag.hc
  have wm : Wh 1 1 (-1 : Rat) := ⟨-1, by decide +kernel, by unfold Sm; decide⟩
  have cb : ∀ k, Wh 36 28 (-1 * dot (colB (rowsQ T Z made) k) ws) := fun k => by
    have a : Wh 36 27 (dot (colB (rowsQ T Z made) k) ws) := (wh_dotG (D := 6) (E := 6) (n := 5) (m := 5) (colB (rowsQ T Z made) k) ws (fun q hq => by
      unfold colB at hq
      obtain ⟨r, hr, rfl⟩ := List.mem_map.mp hq
      rw [List.getD_eq_getElem?_getD]
      cases e : r.1[k]? with
      | none => exact wh_0 _ _
      | some x => exact w1 r hr x (List.mem_of_getElem? e)) ag.sw).mono (by unfold colB; rw [List.length_map]; omega)
    exact wm.mul a
  have hb : ∀ q ∈ b, Wh 36 28 q := fun q hq => by
    obtain ⟨k, hk⟩ := List.mem_iff_getElem?.mp hq
    have l := (List.getElem?_eq_some_iff.mp hk).1
    have e : b.getD k 0 = q := by rw [List.getD_eq_getElem?_getD, hk]; rfl
    rw [← e, ag.hb k (by rw [← ag.lb]; exact l)]
    exact cb k
  have cd : Wh 864 49 (-1 * dot (colD (rowsQ T Z made)) ws) := by
    have a : Wh 864 48 (dot (colD (rowsQ T Z made)) ws) := (wh_dotG (D := 144) (E := 6) (n := 26) (m := 5) (colD (rowsQ T Z made)) ws (fun q hq => by
      unfold colD at hq
      obtain ⟨r, hr, rfl⟩ := List.mem_map.mp hq
      exact w2 r hr) ag.sw).mono (by unfold colD; rw [List.length_map]; omega)
    exact wm.mul a
  have sM : Sm 10 (m : Int) := by unfold Sm; omega
  have sD : Sm 20 ((864 * m : Nat) : Int) := by unfold Sm; omega
  have nD : 864 * m ≠ 0 := by omega
  have wc : Wh (864 * m) 60 (-1 * dot (colD (rowsQ T Z made)) ws + Rat.divInt (-1) m) := by
    have a : Wh (864 * m) 59 (-1 * dot (colD (rowsQ T Z made)) ws) := cd.up m (by omega) sM
    have e : Wh (m * 864) 11 (Rat.divInt (-1) m) := Wh.of (by decide) (by unfold Sm; decide)
    rw [Nat.mul_comm] at e
    exact a.add (e.mono (by decide))
  have en : Rat.divInt (-1) m < 0 := by
    have pm : (0 : Rat) < ((m : Int) : Rat) := cast_pos (by omega)
    refine rat_neg pm ?_
    rw [Rat.divInt_eq_div, Rat.div_mul_cancel (by grind)]
    decide +kernel
  have e0 : dot (List.replicate S.length 0) made + (-1 * dot (colD (rowsQ T Z made)) ws + Rat.divInt (-1) m) = -1 * dot (colD (rowsQ T Z made)) ws + Rat.divInt (-1) m := by rw [dot_rep]; grind
  have low := o.low
  have oldw : ∀ z ∈ Z, Wh 144 26 (dot z.1 made + z.2.2) := fun z hz => w2 (z.2.1, dot z.1 made + z.2.2) (List.mem_append_left _ (List.mem_map.mpr ⟨z, hz, rfl⟩))
  refine ⟨⟨o.ok.s6, o.ok.t3, by rw [len_snoc]; omega, o.ok.oT, all_snoc o.ok.l1 List.length_replicate, all_snoc o.ok.l2 ag.lb, all_snoc o.ok.q1 (fun q hq => by rw [List.eq_of_mem_replicate hq]; exact wh_0 _ _), all_snoc (fun z hz q hq => ((o.ok.q2 z hz q hq).s5).mono (by decide)) (fun q hq => (hb q hq).smr (by decide) (by unfold Sm; decide)), o.lm, o.sm, all_snoc (fun z hz => ((o.ok.q3 z hz).s5).mono (by decide)) ((wc.smr nD (sD.mono (by decide))).mono (by decide)), all_snoc (fun z hz => ((oldw z hz).smr (by decide) (by unfold Sm; decide)).mono (by decide)) ?_,
    all_snoc (fun z hz => ⟨144, by decide, by unfold Sm; decide, fun q hq => Int.dvd_trans ((o.ok.q2 z hz q hq).dvd (by decide)) (by decide), (oldw z hz).dvd (by decide)⟩) ?_, by decide, by decide, by decide, by decide, by decide, by decide⟩, ?_⟩
  · show SmR 60 (dot (List.replicate S.length 0) made + (-1 * dot (colD (rowsQ T Z made)) ws + Rat.divInt (-1) m))
    rw [e0]; exact wc.smr nD (sD.mono (by decide))
  · refine ⟨((864 * m : Nat) : Int), by omega, sD, fun q hq => Int.dvd_trans ((hb q hq).dvd (by decide)) ⟨24 * (m : Int), by omega⟩, ?_⟩
    show ((dot (List.replicate S.length 0) made + (-1 * dot (colD (rowsQ T Z made)) ws + Rat.divInt (-1) m)).den : Int) ∣ _
    rw [e0]; exact wc.dvd nD
  · refine against_bars ag.lw ag.nn ag.lb ag.hb ?_
    grind
noncomputable def spLaw (K : PySem.W.Frag) (P0 : Addr) : Sp := fun vs H Q _ => ∃ (a : Addr) (ns : List Int), vs = [.ref a] ∧ SqL K H a (ns.map V.int) ∧ ns.length ≤ 63 ∧ H P0 = some (.tbl #[]) ∧ ∀ H', Q (.bl true) H'
private theorem one_plan {S T : List (Rat × Rat)} {Z : List ZR} (ok : P13 S T Z) : P13 S [(0, 2)] (Z.map fun z => (z.1, [1], z.2.2)) := by
  have w2 : Wh 6 7 (2 : Rat) := ⟨12, by decide +kernel, by unfold Sm; decide⟩
  have w1 : Wh 6 5 (1 : Rat) := ⟨6, by decide +kernel, by unfold Sm; decide⟩
  have g : ∀ {p : ZR → Prop}, (∀ z ∈ Z, p (z.1, [1], z.2.2)) → ∀ z ∈ Z.map fun z => ((z.1, [1], z.2.2) : ZR), p z := fun h z hz => by obtain ⟨y, hy, rfl⟩ := List.mem_map.mp hz; exact h y hy
  exact ⟨ok.s1, ok.s6, by show 1 ≤ 3; decide, by rw [List.length_map]; exact ok.z11, ok.oS, fun x hx => by rw [List.mem_singleton] at hx; subst hx; exact ⟨⟨wh_0 _ _, w2⟩, by show (0 : Rat) ≤ 2; decide +kernel⟩, g fun z hz => ok.l1 z hz, g fun z hz => rfl, g fun z hz => ok.q1 z hz, g fun z hz q hq => by rw [List.mem_singleton] at hq; subst hq; exact w1, g fun z hz => ok.q3 z hz⟩
private theorem frD_2 : frD (2 : Rat) = .tup [.int 2, .int 1] := by
  have e1 : (2 : Rat).num = 2 := by decide +kernel
  have e2 : (2 : Rat).den = 1 := by decide +kernel
  rw [frD, e1, e2]; rfl
noncomputable abbrev s_law : Stmt := top 53
private theorem sc_law : FnScope ["script", "plan", "made", "cells", "weights", "rows", "many", "found", "k", "some", "handed", "told"] ["script"] (defScope s_law) := ⟨rfl, rfl, rfl, by decide +kernel, rfl, by decide +kernel, by decide +kernel⟩
private theorem fn_law {e P0 : Addr} {ed : FuncData} (B : Bl2 mg) (F : Fun K "law" "law" s_law e ed) (F__law_plan : Has P w K mg base CX0 4 "_law_plan" ["script", "start"] (spD K (Scr K) gPlan13)) (F__law_cell : hCell P w K mg base) (F__law_made : Has P w K mg base CX0 4 "_law_made" ["plan", "cell"] (spN K gMade)) (F__law_against : Has P w K mg base CX0 6 "_law_against" ["plan", "made", "cells"] (spW K (pur gAg)))
    (F__law_rows : Has P w K mg base CX0 5 "_law_rows" ["plan", "made"] (spW K (pur gLRows))) (F__law_bars : Has P w K mg base CX0 5 "_law_bars" ["rows", "weights", "many"] (spW K (pur gLBars))) (F_choice_for : Has P w K mg base CX0 7 "choice_for" ["plan", "made"] (spNM K (gCF P0))) (F_weights_bar : Has P w K mg base CX0 6 "weights_bar" ["plan", "made", "weights"] (spW K (pur gWB)))
    (F__law_spoilt : Has P w K mg base CX0 4 "_law_spoilt" ["weights", "cell"] (spW K (pur gSpo))) (F__law_copy : Has P w K mg base CX0 1 "_law_copy" ["plan"] (spW K (pur gCopy))) : FnOk P w K mg base CX0 8 e ed ["script"] (spLaw K P0) := by
  refine F.ok sc_law (fun vs H Q E h => by obtain ⟨a, ns, rfl, _⟩ := h; rfl) (fun cdv A outer s H vs Q E hr h => ?_)
  obtain ⟨a, ns, rfl, hS, h63, hT, q⟩ := h
  have nd := sc_law.nd
  refine ⟨_, JSs.h (jss_cons (js_set (i := 1) nd rfl (Or.inl rfl) (j_hD 0 F__law_plan (hr.mono (by decide)) rfl (ja_cons j_int ja_nil)))
    (jss_cons (js_cut (js_if (jt_eq hr (j_atV 1 j_int) (j_fz (jn_lst ja_nil))) (jss_one (js_set (i := 1) nd rfl (Or.inl rfl) (j_tup (ja_cons (j_atV 1 j_int) (ja_cons (j_fz (jn_lst (ja_cons (j_tup (ja_cons (j_tup (ja_cons j_int (ja_cons j_int ja_nil))) (ja_cons (j_tup (ja_cons j_int (ja_cons j_int ja_nil))) ja_nil))) ja_nil))) (ja_cons (j_fz (jn_lc ["a", "b", "c"] [none, none, none] ⟨rfl, by decide +kernel, by decide +kernel, rfl, rfl, by intro i x j _ h; exact absurd h (by rcases i with _ | _ | _ | i <;> simp)⟩ rfl (ji_list (j_atV 1 j_int)) (fun _ _ _ _ _ => (jg_tup (n := 3) rfl (jgs_cons (jg_name (i := 0) (show List.Nodup [("a" : Str), ("b" : Str), ("c" : Str)] by decide +kernel) rfl (Or.inl rfl)) (jgs_cons (jg_name (i := 1) (show List.Nodup [("a" : Str), ("b" : Str), ("c" : Str)] by decide +kernel) rfl (Or.inl rfl)) (jgs_cons (jg_name (i := 2) (show List.Nodup [("a" : Str), ("b" : Str), ("c" : Str)] by decide +kernel) rfl (Or.inl rfl)) jgs_nil))))) (fun _ _ _ _ _ => jc_nil) (fun _ _ _ _ _ => (j_tup (ja_cons (jv 0) (ja_cons (j_fz (jn_lst (ja_cons (j_tup (ja_cons j_int (ja_cons j_int ja_nil))) ja_nil))) (ja_cons (jv 2) ja_nil))))))) ja_nil)))))) jss_nil))
    (jss_cons (js_set (i := 2) nd rfl (Or.inl rfl) (j_h (L3.Has.toW F__law_made) (hr.mono (by decide)) rfl (ja_cons (jv 1) (ja_cons (j_hD 0 F__law_cell (hr.mono (by decide)) rfl (ja_cons j_int ja_nil)) ja_nil))))
    (jss_cons (js_setC (k := 3) nd rfl (Or.inl rfl) ["k", "script"] [none, some 0] ⟨rfl, by decide +kernel, by decide +kernel, rfl, rfl, free_of rfl⟩ rfl (ji_rng1 rfl B.range (ja_cons j_int ja_nil)) (fun _ _ _ _ _ => (jg_name (i := 0) (show List.Nodup [("k" : Str), ("script" : Str)] by decide +kernel) rfl (Or.inl rfl))) (fun _ _ _ _ _ => jc_nil) (fun _ _ _ _ _ => (j_mod (j_hD 1 F__law_cell (hr.mono (by decide)) rfl (ja_cons (j_add j_int (jv 0)) ja_nil)) (j_pow j_int j_int))))
    (jss_cons (js_asg (j_h F__law_against (hr.mono (by decide)) rfl (ja_cons (jv 1) (ja_cons (jv 2) (ja_cons (jv 3) ja_nil)))) (jg_tupL (n := 2) rfl (jgs_cons (jg_name (i := 1) nd rfl (Or.inl rfl)) (jgs_cons (jg_name (i := 4) nd rfl (Or.inl rfl)) jgs_nil))))
    (jss_cons (js_set (i := 5) nd rfl (Or.inl rfl) (j_h F__law_rows (hr.mono (by decide)) rfl (ja_cons (jv 1) (ja_cons (jv 2) ja_nil))))
    (jss_cons (js_set (i := 6) nd rfl (Or.inl rfl) (j_len rfl B.len (ja_cons (j_atV 1 j_int) ja_nil)))
    (jss_cons (js_if (JW.jt (jw_or (jt_not (jt (j_h F__law_bars (hr.mono (by decide)) rfl (ja_cons (jv 5) (ja_cons (jv 4) (ja_cons (jv 6) ja_nil)))))) (jw_or1 (jt_not (jt (j_h F_weights_bar (hr.mono (by decide)) rfl (ja_cons (jv 1) (ja_cons (jv 2) (ja_cons (j_fz (jn_list rfl B.list (ja_cons (jv 4) ja_nil))) ja_nil))))))))) (jss_one (js_ret j_bl)) jss_nil)
    (jss_cons (js_set (i := 7) nd rfl (Or.inl rfl) (j_h (toWM F_choice_for) (hr.mono (by decide)) rfl (ja_cons (jv 1) (ja_cons (jv 2) ja_nil))))
    (jss_cons (js_if (JW.jt (jw_or (jt_ne hr (j_atV 7 j_int) j_str) (jw_or1 (jt_not (jt (j_h F__law_bars (hr.mono (by decide)) rfl (ja_cons (jv 5) (ja_cons (j_atV 7 j_int) (ja_cons (jv 6) ja_nil))))))))) (jss_one (js_ret j_bl)) jss_nil)
    (jss_cons (js_for PassesOwn.never rfl (ji_rng2 rfl B.range (ja_cons j_int (ja_cons (j_max2 rfl B.max rfl (ja_cons j_int (ja_cons (j_min2 rfl B.min rfl (ja_cons (j_lenS 0 rfl B.len) (ja_cons j_int ja_nil))) ja_nil))) ja_nil))) (jg_name (i := 8) nd rfl (Or.inl rfl))
    (jss_cons (js_set (i := 9) nd rfl (Or.inl rfl) (j_h F__law_spoilt (hr.mono (by decide)) rfl (ja_cons (jv 4) (ja_cons (j_hD 0 F__law_cell (hr.mono (by decide)) rfl (ja_cons (jv 8) ja_nil)) ja_nil))))
    (jss_cons (js_set (i := 10) nd rfl (Or.inl rfl) (j_fz (jn_lst (ja_cons (j_fz (jn_list rfl B.list (ja_cons (jv 9) ja_nil))) (ja_cons (j_h F__law_copy (hr.mono (by decide)) rfl (ja_cons (jv 1) ja_nil)) (ja_cons (j_fz (jn_list rfl B.list (ja_cons (jv 2) ja_nil))) ja_nil))))))
    (jss_cons (js_set (i := 11) nd rfl (Or.inl rfl) (j_h F_weights_bar (hr.mono (by decide)) rfl (ja_cons (j_atV 10 j_int) (ja_cons (j_atV 10 j_int) (ja_cons (j_atV 10 j_int) ja_nil)))))
    (jss_one (js_if (JW.jt (jw_or (jt_ne hr (jv 11) (j_h F__law_bars (hr.mono (by decide)) rfl (ja_cons (jv 5) (ja_cons (jv 9) (ja_cons (jv 6) ja_nil))))) (jw_or1 (jt_ne hr (jv 10) (j_fz (jn_lst (ja_cons (jv 9) (ja_cons (jv 1) (ja_cons (jv 2) ja_nil))))))))) (jss_one (js_ret j_bl)) jss_nil))))))
    (jss_one (js_ret j_bl))))))))))))), ?_⟩
  obtain ⟨M0, ag, hM, hP⟩ := Scr.startT (K := K) (lp := lamP) (q := lamQ) (N := ["script", "plan", "made", "cells", "weights", "rows", "many", "found", "k", "some", "handed", "told"]) h63 hS hT
  refine ⟨fun _ => none, fun _ => none, startD ["script", "plan", "made", "cells", "weights", "rows", "many", "found", "k", "some", "handed", "told"] a [], M0, ⟨fun _ _ => False, rtD fun x _ => x = .bl true, fun _ _ => False, fun _ _ => False⟩, ag, ?_, ⟨fun _ _ _ _ _ _ _ z => z.elim, fun _ _ _ _ _ _ _ z => z.elim, fun _ _ _ _ _ _ _ z => z.elim, fun v H' F' u M' _ _ r e => by
    obtain ⟨d, r, e⟩ := rtD_of (M := M') (q := fun x _ => x = .bl true) e r
    subst e; rw [Rp] at r; subst r; exact q H'⟩⟩
  clear ag
  have l63 := hM.1
  have hN : Scr K M0 a := ⟨ns, hM⟩
  refine ⟨hN, rfl, fun S T0 Z0 ok0 => ?_⟩
  refine ⟨fun ρ M' => M' = M0 ∧ ∃ T Z, P13 S T Z ∧ ρ = [.rf a, .sh (planQ S T Z), .un, .un, .un, .un, .un, .un, .un, .un, .un, .un], ?_, ?_⟩
  · refine ⟨by show 0 ≤ sizeLine; decide, Nat.le_trans (show dep (.lst (T0.map bQ)) ≤ 3 by rw [dep]; exact Nat.succ_le_succ (deps_map' dep_bQ T0)) (by decide), ?_⟩
    show if peq (D.lst (T0.map bQ)) (D.lst []) = true then _ else _
    refine iteB (fun _ => ?_) (fun _ => ⟨rfl, T0, Z0, ok0, rfl⟩)
    have z11 := ok0.z11
    refine ⟨by show 2 ≤ sizeLine; decide, by show 2 ≤ sizeLine; decide, by show 2 ≤ sizeLine; decide, by show 1 ≤ sizeLine; decide, fun i out ρ M' => M' = M0 ∧ out = (Z0.take i).map (fun z => zQ (z.1, [1], z.2.2)) ∧ ∃ o1 o2 o3, ρ = [o1, o2, o3], ⟨rfl, rfl, _, _, _, rfl⟩, ?_, ?_⟩
    · rintro i d out ρ M' hd ⟨rfl, rfl, o1, o2, o3, rfl⟩
      obtain ⟨z, hz, rfl⟩ := map_get hd
      exact ⟨rfl, by show 2 ≤ sizeLine; decide, by show 1 ≤ sizeLine; decide, by show 3 ≤ sizeLine; decide, take_small (by omega), rfl, take_map' (f := fun z : ZR => zQ (z.1, [1], z.2.2)) hz, .sh (frL z.1), .sh (frL z.2.1), .sh (frD z.2.2), rfl⟩
    rintro out ρ M' ⟨rfl, rfl, o1, o2, o3, rfl⟩
    rw [List.length_map, List.take_length]
    refine ⟨by show 3 ≤ sizeLine; decide, rfl, _, _, one_plan ok0, ?_⟩
    have e : planQ S [(0, 2)] (Z0.map fun z => ((z.1, [1], z.2.2) : ZR)) = .tup [.lst (S.map bQ), .lst [.tup [.tup [.int 0, .int 1], .tup [.int 2, .int 1]]], .lst (Z0.map fun z => zQ (z.1, [1], z.2.2))] := by
      unfold planQ
      rw [List.map_map]
      show D.tup [_, .lst [.tup [frD 0, frD 2]], _] = _
      rw [frD_2]; rfl
    rw [e]; rfl
  clear ok0
  rintro ρ M' ⟨rfl, T, Z, ok, rfl⟩
  have s6 := ok.s6
  have t3 := ok.t3
  have z11 := ok.z11
  refine ⟨hN, 1, rfl, by decide, by decide, fun c1 => ⟨S, T, Z, c1, rfl, by omega, ok.oS, fun made lm sm _ => ?_⟩⟩
  have inn : In13 S T Z made := ⟨ok, lm, fun x hx => (sm x hx).mono (by decide)⟩
  refine ⟨⟨by decide, by decide⟩, fun i out ρ M2 => M2 = M' ∧ ∃ cs : List Int, out = cs.map D.int ∧ cs.length = i ∧ ∃ o, ρ = [o, .rf a], ⟨rfl, [], rfl, rfl, _, rfl⟩, ?_, ?_⟩
  · rintro i d out ρ M2 hd ⟨rfl, cs, rfl, lc, o, rfl⟩
    obtain ⟨rfl, hi⟩ := rng_get0 hd
    have hi : i < 30 := hi
    exact ⟨hN, _, rfl, by omega, by omega, fun c => ⟨⟨by decide, by decide⟩, (by decide : (10 : Int) ^ Int.toNat 18 ≠ 0), by rw [List.length_map]; exact small1000 (by omega), rfl, cs ++ [_], by rw [List.map_append]; rfl, by rw [len_snoc, lc], .sh (.int i), rfl⟩⟩
  rintro out ρ M2 ⟨rfl, cs, rfl, lc, o, rfl⟩
  rw [rng_len] at lc
  refine ⟨S, T, Z, made, cs, rfl, inn, lc, fun ws b c agi => ⟨rfl, ?_⟩⟩
  obtain ⟨iy, hbar⟩ := against_in inn agi
  have oT : ∀ x ∈ T, bQok 4000 x := fun x hx => ⟨((ok.oT x hx).ok.1).mono (by decide), ((ok.oT x hx).ok.2).mono (by decide)⟩
  have lm' : made.length = (S.map bQ).length := by rw [List.length_map, lm]
  have lw0 := agi.lw
  have n17 := inn.len
  have sw5 : ∀ w ∈ ws.take Z.length ++ 1 :: ws.drop Z.length, SmR 5 w := fun w hw => by
    rcases List.mem_append.mp hw with h | h
    · exact (agi.sw w (List.mem_of_mem_take h)).s5
    · rcases List.mem_cons.mp h with rfl | h
      · exact SmR.mono (a := 1) ⟨by unfold Sm; decide, by unfold Sm; decide⟩ (by decide)
      · exact (agi.sw w (List.mem_of_mem_drop h)).s5
  have lw1 : (ws.take Z.length ++ 1 :: ws.drop Z.length).length ≤ 100 := by rw [List.length_append, List.length_cons, List.length_take, List.length_drop]; omega
  have lw2 : 0 < (ws.take Z.length ++ 1 :: ws.drop Z.length).length := by rw [List.length_append, List.length_cons]; omega
  have lZ2 : (Z ++ [(List.replicate S.length 0, b, c)]).length ≤ 100 := by rw [List.length_append]; show Z.length + 1 ≤ 100; omega
  generalize ws.take Z.length ++ 1 :: ws.drop Z.length = W at *
  generalize Z ++ [(List.replicate S.length 0, b, c)] = Z2 at *
  clear agi lw0 n17 inn lc
  have eT : ((T.map bQ).length : Int) = (T.length : Int) := by rw [List.length_map]
  refine ⟨S, T, Z2, made, rfl, iy.rok, oT, T.length, rowsQ T Z2 made, W, _, _, _, by rw [← List.length_map (f := bQ)], iy.wok (by omega) (fun w hw => (sw5 w hw).mono (by decide)), ?_⟩
  rw [hbar]
  refine ⟨S.map bQ, T, Z2, made, W, _, _, _, rfl, lm', iy.rok, iy.wok (by omega) (fun w hw => (sw5 w hw).mono (by decide)), ?_⟩
  rw [hbar]
  refine iteN rfl ⟨.lst (S.map bQ), T, Z2, made, 28, 60, 20, rfl, iy.rok, iy.low, hP, fun d cf => ?_⟩
  rcases cf.says iy.low with ⟨xs, _, lx, kx, _⟩ | ⟨w2, rfl, bb⟩
  · rw [no_bars t3 lx iy.low.len kx] at hbar
    cases hbar
  have lv : w2.length ≤ 900 := by rw [bb.len]; have := iy.len; omega
  refine ⟨by show 0 ≤ 60; decide, ?_⟩
  show if (!peq (D.str "bars") (D.str "bars")) = true then _ else _
  rw [peq_refl]
  refine iteN rfl ⟨T.length, rowsQ T Z2 made, w2, _, _, _, by rw [← List.length_map (f := bQ)], iy.wok lv bb.s, ?_⟩
  rw [bars_wb bb]
  refine iteN rfl ⟨ns, hM, ⟨by decide, by decide, ?_, ?_⟩, fun i ρ M3 => M3 = M2 ∧ ∃ o8 o9 o10 o11 o3, ρ = [.rf a, .sh (planQ S T Z2), .sh (frL made), o3, .sh (frL W), .sh (.lst ((rowsQ T Z2 made).map rQ)), .sh (.int ((T.map bQ).length : Nat)), .sh (.tup [.str "bars", frL w2]), o8, o9, o10, o11], ⟨rfl, _, _, _, _, _, rfl⟩, ?_, ?_⟩
  · dsimp only; split <;> split <;> omega
  · dsimp only; split <;> split <;> omega
  · intro i d ρ M3 hd hI
    refine wabsG fun EE hE => ?_
    obtain ⟨rfl, o8, o9, o10, o11, o3, rfl⟩ := hI
    obtain ⟨rfl, hi⟩ := rng_get hd
    have hi : i < 100 := by
      refine Nat.lt_of_lt_of_le hi ?_
      dsimp only
      split <;> split <;> omega
    refine ⟨hN, _, rfl, by omega, by omega, fun c => ⟨W, c, rfl, lw2, lw1, sw5, fun us lu su => ?_⟩⟩
    have wo := iy.wok (ws := us) (by omega) (fun w hw => (su w hw).mono (by decide))
    refine ⟨S, T, Z2, rfl, lZ2, by show 3 ≤ sizeLine; decide, S.map bQ, T, Z2, made, us, _, _, _, rfl, lm', iy.rok, wo, T.length, rowsQ T Z2 made, us, _, _, _, by rw [← List.length_map (f := bQ)], wo, by show 0 ≤ 60; decide, ?_⟩
    show if (!peq (D.bl (wbB T.length (rowsQ T Z2 made) us)) (D.bl (wbB T.length (rowsQ T Z2 made) us))) = true then _ else _
    rw [peq_refl]
    have dd : dep (D.lst [frL us, planQ S T Z2, frL made]) ≤ 60 := by
      have h1 := dep_planQ S T Z2
      have h2 := dep_frL made
      have h3 := dep_frL us
      simp only [dep, deps] at h1 h2 h3 ⊢; omega
    refine iteN rfl ⟨by show 3 ≤ sizeLine; decide, dd, ?_⟩
    show if (!peq (D.lst [frL us, planQ S T Z2, frL made]) (D.lst [frL us, planQ S T Z2, frL made])) = true then _ else _
    rw [peq_refl]
    exact iteN rfl (by subst hE; exact ⟨rfl, _, _, _, _, _, rfl⟩)
  · rintro ρ M3 ⟨rfl, o8, o9, o10, o11, o3, rfl⟩
    exact rfl

private theorem def_of {x : Str} {st : Stmt} {ps : List Str} {f : Addr} {oc kV doc pm cdv ct : Value} {od an : Option Addr} {osl : Array (Option Value)} (l : List.lookup f K = some ⟨oc, od, .func (PySem.W.fnOf x x (defArgs st) (defBody st) (defScope st) .none kV doc pm an cdv ct), osl⟩) (c : PySem.W.codeIn K cdv x = true) (k : PySem.W.keepIn K (.ref f) = true) (a : mg x = some (.ref f))
    (hb : ∀ (kV doc pm : Value) (an : Option Addr) (cdv ct : Value) (us : List Value), us.length = ps.length → PySem.bindArgs (PySem.W.fnOf x x (defArgs st) (defBody st) (defScope st) .none kV doc pm an cdv ct) { pos := us } = pure (ps.zip us)) : Def K mg x st ps := ⟨_, _, fun_mk l c k, (fun_mk l c k).binds hb, a⟩
private theorem code_at {h : Heap} {x : Str} {f c P0 : Addr} {st : Stmt} (X : K.In h) (G : h.Ns mainGlobals mg) (a : PySem.W.nsIn K mainGlobals x = some (some (.ref f))) (t : PySem.W.tabIn K x = some (c, P0)) : CodeAt K mg x st c := fun f' fd' F m => by
  obtain ⟨oc, od, kV, doc, pm, an, cdv, ct, osl, rfl, lk, hcd⟩ := F.ex
  have e := m.symm.trans (PySem.W.mg_of X G a)
  cases e
  unfold PySem.W.tabIn at t
  rw [a] at t
  dsimp only at t
  rw [lk] at t
  cases cdv
  case ref c' =>
    dsimp only at t
    split at t
    · split at t
      · cases t; rfl
      · cases t
    · cases t
  all_goals cases t
private theorem tab_mk {x : Str} {f c P0 : Addr} {oc oc' : Value} {od od' : Option Addr} {fd : FuncData} {sl sl' : Array (Option Value)} {vs : Array Value} (a : PySem.W.nsIn K mainGlobals x = some (some (.ref f))) (l : K.lookup f = some ⟨oc, od, .func fd, sl⟩) (h : fd.code = .ref c) (l' : K.lookup c = some ⟨oc', od', .fields vs, sl'⟩) (p : vs[11]? = some (.ref P0)) : PySem.W.tabIn K x = some (c, P0) := by
  unfold PySem.W.tabIn
  rw [a]
  dsimp only
  rw [l]
  dsimp only
  rw [h]
  dsimp only
  rw [l']
  dsimp only
  rw [p]


end
private theorem all_mk {l : PySem.W.OpenLaw} {w : World} {K : PySem.W.Frag} {h : Heap} {mg : Str → Option Value} {fa : Addr} (X : K.In h) (G : h.Ns mainGlobals mg) (hfa : mg "law" = some (.ref fa))
    {f0 : Addr} {od0 an0 : Option Addr} {sl0 : Array (Option Value)} {oc0 kV0 dc0 pm0 cd0 ct0 : Value} (a0 : PySem.W.nsIn K mainGlobals "common_divisor" = some (some (.ref f0))) (l0 : K.lookup f0 = some ⟨oc0, od0, .func (PySem.W.fnOf "common_divisor" "common_divisor" (defArgs s_common_divisor) (defBody s_common_divisor) (defScope s_common_divisor) .none kV0 dc0 pm0 an0 cd0 ct0), sl0⟩) (c0 : PySem.W.codeIn K cd0 "common_divisor" = true) (k0 : PySem.W.keepIn K (.ref f0) = true)
    {f1 : Addr} {od1 an1 : Option Addr} {sl1 : Array (Option Value)} {oc1 kV1 dc1 pm1 cd1 ct1 : Value} (a1 : PySem.W.nsIn K mainGlobals "fraction" = some (some (.ref f1))) (l1 : K.lookup f1 = some ⟨oc1, od1, .func (PySem.W.fnOf "fraction" "fraction" (defArgs s_fraction) (defBody s_fraction) (defScope s_fraction) .none kV1 dc1 pm1 an1 cd1 ct1), sl1⟩) (c1 : PySem.W.codeIn K cd1 "fraction" = true) (k1 : PySem.W.keepIn K (.ref f1) = true)
    {f2 : Addr} {od2 an2 : Option Addr} {sl2 : Array (Option Value)} {oc2 kV2 dc2 pm2 cd2 ct2 : Value} (a2 : PySem.W.nsIn K mainGlobals "plus" = some (some (.ref f2))) (l2 : K.lookup f2 = some ⟨oc2, od2, .func (PySem.W.fnOf "plus" "plus" (defArgs s_plus) (defBody s_plus) (defScope s_plus) .none kV2 dc2 pm2 an2 cd2 ct2), sl2⟩) (c2 : PySem.W.codeIn K cd2 "plus" = true) (k2 : PySem.W.keepIn K (.ref f2) = true)
    {f3 : Addr} {od3 an3 : Option Addr} {sl3 : Array (Option Value)} {oc3 kV3 dc3 pm3 cd3 ct3 : Value} (a3 : PySem.W.nsIn K mainGlobals "opposite" = some (some (.ref f3))) (l3 : K.lookup f3 = some ⟨oc3, od3, .func (PySem.W.fnOf "opposite" "opposite" (defArgs s_opposite) (defBody s_opposite) (defScope s_opposite) .none kV3 dc3 pm3 an3 cd3 ct3), sl3⟩) (c3 : PySem.W.codeIn K cd3 "opposite" = true) (k3 : PySem.W.keepIn K (.ref f3) = true)
    {f4 : Addr} {od4 an4 : Option Addr} {sl4 : Array (Option Value)} {oc4 kV4 dc4 pm4 cd4 ct4 : Value} (a4 : PySem.W.nsIn K mainGlobals "times" = some (some (.ref f4))) (l4 : K.lookup f4 = some ⟨oc4, od4, .func (PySem.W.fnOf "times" "times" (defArgs s_times) (defBody s_times) (defScope s_times) .none kV4 dc4 pm4 an4 cd4 ct4), sl4⟩) (c4 : PySem.W.codeIn K cd4 "times" = true) (k4 : PySem.W.keepIn K (.ref f4) = true)
    {f5 : Addr} {od5 an5 : Option Addr} {sl5 : Array (Option Value)} {oc5 kV5 dc5 pm5 cd5 ct5 : Value} (a5 : PySem.W.nsIn K mainGlobals "below" = some (some (.ref f5))) (l5 : K.lookup f5 = some ⟨oc5, od5, .func (PySem.W.fnOf "below" "below" (defArgs s_below) (defBody s_below) (defScope s_below) .none kV5 dc5 pm5 an5 cd5 ct5), sl5⟩) (c5 : PySem.W.codeIn K cd5 "below" = true) (k5 : PySem.W.keepIn K (.ref f5) = true)
    {f6 : Addr} {od6 an6 : Option Addr} {sl6 : Array (Option Value)} {oc6 kV6 dc6 pm6 cd6 ct6 : Value} (a6 : PySem.W.nsIn K mainGlobals "weighed_sum" = some (some (.ref f6))) (l6 : K.lookup f6 = some ⟨oc6, od6, .func (PySem.W.fnOf "weighed_sum" "weighed_sum" (defArgs s_weighed_sum) (defBody s_weighed_sum) (defScope s_weighed_sum) .none kV6 dc6 pm6 an6 cd6 ct6), sl6⟩) (c6 : PySem.W.codeIn K cd6 "weighed_sum" = true) (k6 : PySem.W.keepIn K (.ref f6) = true)
    {f7 : Addr} {od7 an7 : Option Addr} {sl7 : Array (Option Value)} {oc7 kV7 dc7 pm7 cd7 ct7 : Value} (a7 : PySem.W.nsIn K mainGlobals "scale_of" = some (some (.ref f7))) (l7 : K.lookup f7 = some ⟨oc7, od7, .func (PySem.W.fnOf "scale_of" "scale_of" (defArgs s_scale_of) (defBody s_scale_of) (defScope s_scale_of) .none kV7 dc7 pm7 an7 cd7 ct7), sl7⟩) (c7 : PySem.W.codeIn K cd7 "scale_of" = true) (k7 : PySem.W.keepIn K (.ref f7) = true)
    {f8 : Addr} {od8 an8 : Option Addr} {sl8 : Array (Option Value)} {oc8 kV8 dc8 pm8 cd8 ct8 : Value} (a8 : PySem.W.nsIn K mainGlobals "whole_line" = some (some (.ref f8))) (l8 : K.lookup f8 = some ⟨oc8, od8, .func (PySem.W.fnOf "whole_line" "whole_line" (defArgs s_whole_line) (defBody s_whole_line) (defScope s_whole_line) .none kV8 dc8 pm8 an8 cd8 ct8), sl8⟩) (c8 : PySem.W.codeIn K cd8 "whole_line" = true) (k8 : PySem.W.keepIn K (.ref f8) = true)
    {f9 : Addr} {od9 an9 : Option Addr} {sl9 : Array (Option Value)} {oc9 kV9 dc9 pm9 cd9 ct9 : Value} (a9 : PySem.W.nsIn K mainGlobals "unit_line" = some (some (.ref f9))) (l9 : K.lookup f9 = some ⟨oc9, od9, .func (PySem.W.fnOf "unit_line" "unit_line" (defArgs s_unit_line) (defBody s_unit_line) (defScope s_unit_line) .none kV9 dc9 pm9 an9 cd9 ct9), sl9⟩) (c9 : PySem.W.codeIn K cd9 "unit_line" = true) (k9 : PySem.W.keepIn K (.ref f9) = true)
    {f10 : Addr} {od10 an10 : Option Addr} {sl10 : Array (Option Value)} {oc10 kV10 dc10 pm10 cd10 ct10 : Value} (a10 : PySem.W.nsIn K mainGlobals "table_at_lows" = some (some (.ref f10))) (l10 : K.lookup f10 = some ⟨oc10, od10, .func (PySem.W.fnOf "table_at_lows" "table_at_lows" (defArgs s_table_at_lows) (defBody s_table_at_lows) (defScope s_table_at_lows) .none kV10 dc10 pm10 an10 cd10 ct10), sl10⟩) (c10 : PySem.W.codeIn K cd10 "table_at_lows" = true) (k10 : PySem.W.keepIn K (.ref f10) = true)
    {f11 : Addr} {od11 an11 : Option Addr} {sl11 : Array (Option Value)} {oc11 kV11 dc11 pm11 cd11 ct11 : Value} (a11 : PySem.W.nsIn K mainGlobals "choice_at" = some (some (.ref f11))) (l11 : K.lookup f11 = some ⟨oc11, od11, .func (PySem.W.fnOf "choice_at" "choice_at" (defArgs s_choice_at) (defBody s_choice_at) (defScope s_choice_at) .none kV11 dc11 pm11 an11 cd11 ct11), sl11⟩) (c11 : PySem.W.codeIn K cd11 "choice_at" = true) (k11 : PySem.W.keepIn K (.ref f11) = true)
    {f12 : Addr} {od12 an12 : Option Addr} {sl12 : Array (Option Value)} {oc12 kV12 dc12 pm12 cd12 ct12 : Value} (a12 : PySem.W.nsIn K mainGlobals "exchanged" = some (some (.ref f12))) (l12 : K.lookup f12 = some ⟨oc12, od12, .func (PySem.W.fnOf "exchanged" "exchanged" (defArgs s_exchanged) (defBody s_exchanged) (defScope s_exchanged) .none kV12 dc12 pm12 an12 cd12 ct12), sl12⟩) (c12 : PySem.W.codeIn K cd12 "exchanged" = true) (k12 : PySem.W.keepIn K (.ref f12) = true)
    {f13 : Addr} {od13 an13 : Option Addr} {sl13 : Array (Option Value)} {oc13 kV13 dc13 pm13 cd13 ct13 : Value} (a13 : PySem.W.nsIn K mainGlobals "turned" = some (some (.ref f13))) (l13 : K.lookup f13 = some ⟨oc13, od13, .func (PySem.W.fnOf "turned" "turned" (defArgs s_turned) (defBody s_turned) (defScope s_turned) .none kV13 dc13 pm13 an13 cd13 ct13), sl13⟩) (c13 : PySem.W.codeIn K cd13 "turned" = true) (k13 : PySem.W.keepIn K (.ref f13) = true)
    {f14 : Addr} {od14 an14 : Option Addr} {sl14 : Array (Option Value)} {oc14 kV14 dc14 pm14 cd14 ct14 : Value} (a14 : PySem.W.nsIn K mainGlobals "first_held" = some (some (.ref f14))) (l14 : K.lookup f14 = some ⟨oc14, od14, .func (PySem.W.fnOf "first_held" "first_held" (defArgs s_first_held) (defBody s_first_held) (defScope s_first_held) .none kV14 dc14 pm14 an14 cd14 ct14), sl14⟩) (c14 : PySem.W.codeIn K cd14 "first_held" = true) (k14 : PySem.W.keepIn K (.ref f14) = true)
    {f15 : Addr} {od15 an15 : Option Addr} {sl15 : Array (Option Value)} {oc15 kV15 dc15 pm15 cd15 ct15 : Value} (a15 : PySem.W.nsIn K mainGlobals "first_broken" = some (some (.ref f15))) (l15 : K.lookup f15 = some ⟨oc15, od15, .func (PySem.W.fnOf "first_broken" "first_broken" (defArgs s_first_broken) (defBody s_first_broken) (defScope s_first_broken) .none kV15 dc15 pm15 an15 cd15 ct15), sl15⟩) (c15 : PySem.W.codeIn K cd15 "first_broken" = true) (k15 : PySem.W.keepIn K (.ref f15) = true)
    {f16 : Addr} {od16 an16 : Option Addr} {sl16 : Array (Option Value)} {oc16 kV16 dc16 pm16 cd16 ct16 : Value} (a16 : PySem.W.nsIn K mainGlobals "lifting_place" = some (some (.ref f16))) (l16 : K.lookup f16 = some ⟨oc16, od16, .func (PySem.W.fnOf "lifting_place" "lifting_place" (defArgs s_lifting_place) (defBody s_lifting_place) (defScope s_lifting_place) .none kV16 dc16 pm16 an16 cd16 ct16), sl16⟩) (c16 : PySem.W.codeIn K cd16 "lifting_place" = true) (k16 : PySem.W.keepIn K (.ref f16) = true)
    {f17 : Addr} {od17 an17 : Option Addr} {sl17 : Array (Option Value)} {oc17 kV17 dc17 pm17 cd17 ct17 : Value} (a17 : PySem.W.nsIn K mainGlobals "settled" = some (some (.ref f17))) (l17 : K.lookup f17 = some ⟨oc17, od17, .func (PySem.W.fnOf "settled" "settled" (defArgs s_settled) (defBody s_settled) (defScope s_settled) .none kV17 dc17 pm17 an17 cd17 ct17), sl17⟩) (c17 : PySem.W.codeIn K cd17 "settled" = true) (k17 : PySem.W.keepIn K (.ref f17) = true)
    {f18 : Addr} {od18 an18 : Option Addr} {sl18 : Array (Option Value)} {oc18 kV18 dc18 pm18 cd18 ct18 : Value} (a18 : PySem.W.nsIn K mainGlobals "barring_weights" = some (some (.ref f18))) (l18 : K.lookup f18 = some ⟨oc18, od18, .func (PySem.W.fnOf "barring_weights" "barring_weights" (defArgs s_barring_weights) (defBody s_barring_weights) (defScope s_barring_weights) .none kV18 dc18 pm18 an18 cd18 ct18), sl18⟩) (c18 : PySem.W.codeIn K cd18 "barring_weights" = true) (k18 : PySem.W.keepIn K (.ref f18) = true)
    {f19 : Addr} {od19 an19 : Option Addr} {sl19 : Array (Option Value)} {oc19 kV19 dc19 pm19 cd19 ct19 : Value} (a19 : PySem.W.nsIn K mainGlobals "all_but_one_0" = some (some (.ref f19))) (l19 : K.lookup f19 = some ⟨oc19, od19, .func (PySem.W.fnOf "all_but_one_0" "all_but_one_0" (defArgs s_all_but_one_0) (defBody s_all_but_one_0) (defScope s_all_but_one_0) .none kV19 dc19 pm19 an19 cd19 ct19), sl19⟩) (c19 : PySem.W.codeIn K cd19 "all_but_one_0" = true) (k19 : PySem.W.keepIn K (.ref f19) = true)
    {f20 : Addr} {od20 an20 : Option Addr} {sl20 : Array (Option Value)} {oc20 kV20 dc20 pm20 cd20 ct20 : Value} (a20 : PySem.W.nsIn K mainGlobals "bound_rows" = some (some (.ref f20))) (l20 : K.lookup f20 = some ⟨oc20, od20, .func (PySem.W.fnOf "bound_rows" "bound_rows" (defArgs s_bound_rows) (defBody s_bound_rows) (defScope s_bound_rows) .none kV20 dc20 pm20 an20 cd20 ct20), sl20⟩) (c20 : PySem.W.codeIn K cd20 "bound_rows" = true) (k20 : PySem.W.keepIn K (.ref f20) = true)
    {f21 : Addr} {od21 an21 : Option Addr} {sl21 : Array (Option Value)} {oc21 kV21 dc21 pm21 cd21 ct21 : Value} (a21 : PySem.W.nsIn K mainGlobals "rows_of" = some (some (.ref f21))) (l21 : K.lookup f21 = some ⟨oc21, od21, .func (PySem.W.fnOf "rows_of" "rows_of" (defArgs s_rows_of) (defBody s_rows_of) (defScope s_rows_of) .none kV21 dc21 pm21 an21 cd21 ct21), sl21⟩) (c21 : PySem.W.codeIn K cd21 "rows_of" = true) (k21 : PySem.W.keepIn K (.ref f21) = true)
    {f22 : Addr} {od22 an22 : Option Addr} {sl22 : Array (Option Value)} {oc22 kV22 dc22 pm22 cd22 ct22 : Value} (a22 : PySem.W.nsIn K mainGlobals "choice_for" = some (some (.ref f22))) (l22 : K.lookup f22 = some ⟨oc22, od22, .func (PySem.W.fnOf "choice_for" "choice_for" (defArgs s_choice_for) (defBody s_choice_for) (defScope s_choice_for) .none kV22 dc22 pm22 an22 cd22 ct22), sl22⟩) (c22 : PySem.W.codeIn K cd22 "choice_for" = true) (k22 : PySem.W.keepIn K (.ref f22) = true)
    {f23 : Addr} {od23 an23 : Option Addr} {sl23 : Array (Option Value)} {oc23 kV23 dc23 pm23 cd23 ct23 : Value} (a23 : PySem.W.nsIn K mainGlobals "weights_bar" = some (some (.ref f23))) (l23 : K.lookup f23 = some ⟨oc23, od23, .func (PySem.W.fnOf "weights_bar" "weights_bar" (defArgs s_weights_bar) (defBody s_weights_bar) (defScope s_weights_bar) .none kV23 dc23 pm23 an23 cd23 ct23), sl23⟩) (c23 : PySem.W.codeIn K cd23 "weights_bar" = true) (k23 : PySem.W.keepIn K (.ref f23) = true)
    {f24 : Addr} {od24 an24 : Option Addr} {sl24 : Array (Option Value)} {oc24 kV24 dc24 pm24 cd24 ct24 : Value} (a24 : PySem.W.nsIn K mainGlobals "_law_cell" = some (some (.ref f24))) (l24 : K.lookup f24 = some ⟨oc24, od24, .func (PySem.W.fnOf "_law_cell" "_law_cell" (defArgs s_law_cell) (defBody s_law_cell) (defScope s_law_cell) .none kV24 dc24 pm24 an24 cd24 ct24), sl24⟩) (c24 : PySem.W.codeIn K cd24 "_law_cell" = true) (k24 : PySem.W.keepIn K (.ref f24) = true)
    {f25 : Addr} {od25 an25 : Option Addr} {sl25 : Array (Option Value)} {oc25 kV25 dc25 pm25 cd25 ct25 : Value} (a25 : PySem.W.nsIn K mainGlobals "_law_mixed" = some (some (.ref f25))) (l25 : K.lookup f25 = some ⟨oc25, od25, .func (PySem.W.fnOf "_law_mixed" "_law_mixed" (defArgs s_law_mixed) (defBody s_law_mixed) (defScope s_law_mixed) .none kV25 dc25 pm25 an25 cd25 ct25), sl25⟩) (c25 : PySem.W.codeIn K cd25 "_law_mixed" = true) (k25 : PySem.W.keepIn K (.ref f25) = true)
    {f26 : Addr} {od26 an26 : Option Addr} {sl26 : Array (Option Value)} {oc26 kV26 dc26 pm26 cd26 ct26 : Value} (a26 : PySem.W.nsIn K mainGlobals "_law_divisor" = some (some (.ref f26))) (l26 : K.lookup f26 = some ⟨oc26, od26, .func (PySem.W.fnOf "_law_divisor" "_law_divisor" (defArgs s_law_divisor) (defBody s_law_divisor) (defScope s_law_divisor) .none kV26 dc26 pm26 an26 cd26 ct26), sl26⟩) (c26 : PySem.W.codeIn K cd26 "_law_divisor" = true) (k26 : PySem.W.keepIn K (.ref f26) = true)
    {f27 : Addr} {od27 an27 : Option Addr} {sl27 : Array (Option Value)} {oc27 kV27 dc27 pm27 cd27 ct27 : Value} (a27 : PySem.W.nsIn K mainGlobals "_law_fraction" = some (some (.ref f27))) (l27 : K.lookup f27 = some ⟨oc27, od27, .func (PySem.W.fnOf "_law_fraction" "_law_fraction" (defArgs s_law_fraction) (defBody s_law_fraction) (defScope s_law_fraction) .none kV27 dc27 pm27 an27 cd27 ct27), sl27⟩) (c27 : PySem.W.codeIn K cd27 "_law_fraction" = true) (k27 : PySem.W.keepIn K (.ref f27) = true)
    {f28 : Addr} {od28 an28 : Option Addr} {sl28 : Array (Option Value)} {oc28 kV28 dc28 pm28 cd28 ct28 : Value} (a28 : PySem.W.nsIn K mainGlobals "_law_plus" = some (some (.ref f28))) (l28 : K.lookup f28 = some ⟨oc28, od28, .func (PySem.W.fnOf "_law_plus" "_law_plus" (defArgs s_law_plus) (defBody s_law_plus) (defScope s_law_plus) .none kV28 dc28 pm28 an28 cd28 ct28), sl28⟩) (c28 : PySem.W.codeIn K cd28 "_law_plus" = true) (k28 : PySem.W.keepIn K (.ref f28) = true)
    {f29 : Addr} {od29 an29 : Option Addr} {sl29 : Array (Option Value)} {oc29 kV29 dc29 pm29 cd29 ct29 : Value} (a29 : PySem.W.nsIn K mainGlobals "_law_times" = some (some (.ref f29))) (l29 : K.lookup f29 = some ⟨oc29, od29, .func (PySem.W.fnOf "_law_times" "_law_times" (defArgs s_law_times) (defBody s_law_times) (defScope s_law_times) .none kV29 dc29 pm29 an29 cd29 ct29), sl29⟩) (c29 : PySem.W.codeIn K cd29 "_law_times" = true) (k29 : PySem.W.keepIn K (.ref f29) = true)
    {f30 : Addr} {od30 an30 : Option Addr} {sl30 : Array (Option Value)} {oc30 kV30 dc30 pm30 cd30 ct30 : Value} (a30 : PySem.W.nsIn K mainGlobals "_law_below" = some (some (.ref f30))) (l30 : K.lookup f30 = some ⟨oc30, od30, .func (PySem.W.fnOf "_law_below" "_law_below" (defArgs s_law_below) (defBody s_law_below) (defScope s_law_below) .none kV30 dc30 pm30 an30 cd30 ct30), sl30⟩) (c30 : PySem.W.codeIn K cd30 "_law_below" = true) (k30 : PySem.W.keepIn K (.ref f30) = true)
    {f31 : Addr} {od31 an31 : Option Addr} {sl31 : Array (Option Value)} {oc31 kV31 dc31 pm31 cd31 ct31 : Value} (a31 : PySem.W.nsIn K mainGlobals "_law_sum" = some (some (.ref f31))) (l31 : K.lookup f31 = some ⟨oc31, od31, .func (PySem.W.fnOf "_law_sum" "_law_sum" (defArgs s_law_sum) (defBody s_law_sum) (defScope s_law_sum) .none kV31 dc31 pm31 an31 cd31 ct31), sl31⟩) (c31 : PySem.W.codeIn K cd31 "_law_sum" = true) (k31 : PySem.W.keepIn K (.ref f31) = true)
    {f32 : Addr} {od32 an32 : Option Addr} {sl32 : Array (Option Value)} {oc32 kV32 dc32 pm32 cd32 ct32 : Value} (a32 : PySem.W.nsIn K mainGlobals "_law_drawn" = some (some (.ref f32))) (l32 : K.lookup f32 = some ⟨oc32, od32, .func (PySem.W.fnOf "_law_drawn" "_law_drawn" (defArgs s_law_drawn) (defBody s_law_drawn) (defScope s_law_drawn) .none kV32 dc32 pm32 an32 cd32 ct32), sl32⟩) (c32 : PySem.W.codeIn K cd32 "_law_drawn" = true) (k32 : PySem.W.keepIn K (.ref f32) = true)
    {f33 : Addr} {od33 an33 : Option Addr} {sl33 : Array (Option Value)} {oc33 kV33 dc33 pm33 cd33 ct33 : Value} (a33 : PySem.W.nsIn K mainGlobals "_law_plan" = some (some (.ref f33))) (l33 : K.lookup f33 = some ⟨oc33, od33, .func (PySem.W.fnOf "_law_plan" "_law_plan" (defArgs s_law_plan) (defBody s_law_plan) (defScope s_law_plan) .none kV33 dc33 pm33 an33 cd33 ct33), sl33⟩) (c33 : PySem.W.codeIn K cd33 "_law_plan" = true) (k33 : PySem.W.keepIn K (.ref f33) = true)
    {f34 : Addr} {od34 an34 : Option Addr} {sl34 : Array (Option Value)} {oc34 kV34 dc34 pm34 cd34 ct34 : Value} (a34 : PySem.W.nsIn K mainGlobals "_law_made" = some (some (.ref f34))) (l34 : K.lookup f34 = some ⟨oc34, od34, .func (PySem.W.fnOf "_law_made" "_law_made" (defArgs s_law_made) (defBody s_law_made) (defScope s_law_made) .none kV34 dc34 pm34 an34 cd34 ct34), sl34⟩) (c34 : PySem.W.codeIn K cd34 "_law_made" = true) (k34 : PySem.W.keepIn K (.ref f34) = true)
    {f35 : Addr} {od35 an35 : Option Addr} {sl35 : Array (Option Value)} {oc35 kV35 dc35 pm35 cd35 ct35 : Value} (a35 : PySem.W.nsIn K mainGlobals "_law_rows" = some (some (.ref f35))) (l35 : K.lookup f35 = some ⟨oc35, od35, .func (PySem.W.fnOf "_law_rows" "_law_rows" (defArgs s_law_rows) (defBody s_law_rows) (defScope s_law_rows) .none kV35 dc35 pm35 an35 cd35 ct35), sl35⟩) (c35 : PySem.W.codeIn K cd35 "_law_rows" = true) (k35 : PySem.W.keepIn K (.ref f35) = true)
    {f36 : Addr} {od36 an36 : Option Addr} {sl36 : Array (Option Value)} {oc36 kV36 dc36 pm36 cd36 ct36 : Value} (a36 : PySem.W.nsIn K mainGlobals "_law_bars" = some (some (.ref f36))) (l36 : K.lookup f36 = some ⟨oc36, od36, .func (PySem.W.fnOf "_law_bars" "_law_bars" (defArgs s_law_bars) (defBody s_law_bars) (defScope s_law_bars) .none kV36 dc36 pm36 an36 cd36 ct36), sl36⟩) (c36 : PySem.W.codeIn K cd36 "_law_bars" = true) (k36 : PySem.W.keepIn K (.ref f36) = true)
    {f37 : Addr} {od37 an37 : Option Addr} {sl37 : Array (Option Value)} {oc37 kV37 dc37 pm37 cd37 ct37 : Value} (a37 : PySem.W.nsIn K mainGlobals "_law_against" = some (some (.ref f37))) (l37 : K.lookup f37 = some ⟨oc37, od37, .func (PySem.W.fnOf "_law_against" "_law_against" (defArgs s_law_against) (defBody s_law_against) (defScope s_law_against) .none kV37 dc37 pm37 an37 cd37 ct37), sl37⟩) (c37 : PySem.W.codeIn K cd37 "_law_against" = true) (k37 : PySem.W.keepIn K (.ref f37) = true)
    {f38 : Addr} {od38 an38 : Option Addr} {sl38 : Array (Option Value)} {oc38 kV38 dc38 pm38 cd38 ct38 : Value} (a38 : PySem.W.nsIn K mainGlobals "_law_copy" = some (some (.ref f38))) (l38 : K.lookup f38 = some ⟨oc38, od38, .func (PySem.W.fnOf "_law_copy" "_law_copy" (defArgs s_law_copy) (defBody s_law_copy) (defScope s_law_copy) .none kV38 dc38 pm38 an38 cd38 ct38), sl38⟩) (c38 : PySem.W.codeIn K cd38 "_law_copy" = true) (k38 : PySem.W.keepIn K (.ref f38) = true)
    {f39 : Addr} {od39 an39 : Option Addr} {sl39 : Array (Option Value)} {oc39 kV39 dc39 pm39 cd39 ct39 : Value} (a39 : PySem.W.nsIn K mainGlobals "_law_spoilt" = some (some (.ref f39))) (l39 : K.lookup f39 = some ⟨oc39, od39, .func (PySem.W.fnOf "_law_spoilt" "_law_spoilt" (defArgs s_law_spoilt) (defBody s_law_spoilt) (defScope s_law_spoilt) .none kV39 dc39 pm39 an39 cd39 ct39), sl39⟩) (c39 : PySem.W.codeIn K cd39 "_law_spoilt" = true) (k39 : PySem.W.keepIn K (.ref f39) = true)
    {f40 : Addr} {od40 an40 : Option Addr} {sl40 : Array (Option Value)} {oc40 kV40 dc40 pm40 cd40 ct40 : Value} (a40 : PySem.W.nsIn K mainGlobals "law" = some (some (.ref f40))) (l40 : K.lookup f40 = some ⟨oc40, od40, .func (PySem.W.fnOf "law" "law" (defArgs s_law) (defBody s_law) (defScope s_law) .none kV40 dc40 pm40 an40 cd40 ct40), sl40⟩) (c40 : PySem.W.codeIn K cd40 "law" = true) (k40 : PySem.W.keepIn K (.ref f40) = true)
    (z_len : PySem.W.nsIn K mainGlobals "len" = some none)
    (z_abs : PySem.W.nsIn K mainGlobals "abs" = some none)
    (z_isinstance : PySem.W.nsIn K mainGlobals "isinstance" = some none)
    (z_tuple : PySem.W.nsIn K mainGlobals "tuple" = some none)
    (z_list : PySem.W.nsIn K mainGlobals "list" = some none)
    (z_int : PySem.W.nsIn K mainGlobals "int" = some none)
    (z_bool : PySem.W.nsIn K mainGlobals "bool" = some none)
    (z_str : PySem.W.nsIn K mainGlobals "str" = some none)
    (z_range : PySem.W.nsIn K mainGlobals "range" = some none)
    (z_zip : PySem.W.nsIn K mainGlobals "zip" = some none)
    (z_all : PySem.W.nsIn K mainGlobals "all" = some none)
    (z_any : PySem.W.nsIn K mainGlobals "any" = some none)
    (z_ValueError : PySem.W.nsIn K mainGlobals "ValueError" = some none)
    (z_enumerate : PySem.W.nsIn K mainGlobals "enumerate" = some none)
    (z_sum : PySem.W.nsIn K mainGlobals "sum" = some none)
    (z_min : PySem.W.nsIn K mainGlobals "min" = some none)
    (z_max : PySem.W.nsIn K mainGlobals "max" = some none)
    (z_sorted : PySem.W.nsIn K mainGlobals "sorted" = some none)
    (z_reversed : PySem.W.nsIn K mainGlobals "reversed" = some none)
    (z_dict : PySem.W.nsIn K mainGlobals "dict" = some none)
    {c_ZERO : Addr} {od_ZERO : Option Addr} {sl_ZERO : Array (Option Value)} {n_ZERO : Nat} {t0_ZERO t1_ZERO : Tok} (b_ZERO : PySem.W.nsIn K mainGlobals "ZERO" = some (some (.ref c_ZERO))) (m_ZERO : K.lookup c_ZERO = some ⟨.type "tuple", od_ZERO, .seq #[.int 0 t0_ZERO, .int 1 t1_ZERO] n_ZERO, sl_ZERO⟩)
    {c_ONE : Addr} {od_ONE : Option Addr} {sl_ONE : Array (Option Value)} {n_ONE : Nat} {t0_ONE t1_ONE : Tok} (b_ONE : PySem.W.nsIn K mainGlobals "ONE" = some (some (.ref c_ONE))) (m_ONE : K.lookup c_ONE = some ⟨.type "tuple", od_ONE, .seq #[.int 1 t0_ONE, .int 1 t1_ONE] n_ONE, sl_ONE⟩)
    {C_Table fi_Table : Addr} {odI anI : Option Addr} {slI : Array (Option Value)} {ocI kVI dcI pmI cdI ctI : Value} (tC : PySem.W.nsIn K mainGlobals "Table" = some (some (.ref C_Table))) (t_pg : PySem.W.plainGet K C_Table Str.empty = true) (t_hd : PySem.W.hasDictIn K C_Table = true) (t_po : PySem.W.plainOver K C_Table = true) (t_sa : PySem.W.findIn K (.ref C_Table) "__setattr__" = some (some (.builtin "object.__setattr__"))) (t_held : PySem.W.findIn K (.ref C_Table) "held" = some none) (t_bottom : PySem.W.findIn K (.ref C_Table) "bottom" = some none) (t_rows : PySem.W.findIn K (.ref C_Table) "rows" = some none) (t_scales : PySem.W.findIn K (.ref C_Table) "scales" = some none) (t_shims : PySem.W.findIn K (.ref C_Table) "shims" = some none)
    (t_mk : PySem.W.makesIn K C_Table = true) (t_in : PySem.W.findIn K (.ref C_Table) "__init__" = some (some (.ref fi_Table))) (t_fn : PySem.W.isFn K (.ref fi_Table) = true) (t_kp : PySem.W.keepIn K (.ref C_Table) = true) (t_l : K.lookup fi_Table = some ⟨ocI, odI, .func (PySem.W.fnOf "__init__" "Table.__init__" (defArgs s_init) (defBody s_init) (defScope s_init) .none kVI dcI pmI anI cdI ctI), slI⟩) (t_c : PySem.W.codeIn K cdI "Table.__init__" = true) (t_k : PySem.W.keepIn K (.ref fi_Table) = true)
    {cL PL : Addr} {ocL : Value} {odL : Option Addr} {vsL : Array Value} {slL : Array (Option Value)} (u_c : cd14 = .ref cL) (u_l : K.lookup cL = some ⟨ocL, odL, .fields vsL, slL⟩) (u_p : vsL[11]? = some (.ref PL)) (u_n : K.lookup PL = none)
    : ∃ c0 P0, PySem.W.tabIn K "first_held" = some (c0, P0) ∧ K.lookup P0 = none ∧ ∃ fd : FuncData, (∀ (s : Shared) (v : Value), BindsTo s fd ⟨[v], []⟩ [("script", v)]) ∧ ∀ base : Heap, K.In base → base.Ns mainGlobals mg → PySem.W.CodeHd base c0 P0 → BMain mg base → FnOk l.prog w K mg base CX0 8 fa fd ["script"] (spLaw K P0) := by
  have e := hfa.symm.trans (PySem.W.mg_of X G a40)
  cases e
  have B : Bl mg := ⟨PySem.W.mg_none_of X G z_len, PySem.W.mg_none_of X G z_abs, PySem.W.mg_none_of X G z_isinstance, PySem.W.mg_none_of X G z_tuple, PySem.W.mg_none_of X G z_list, PySem.W.mg_none_of X G z_int, PySem.W.mg_none_of X G z_bool, PySem.W.mg_none_of X G z_str, PySem.W.mg_none_of X G z_range, PySem.W.mg_none_of X G z_zip, PySem.W.mg_none_of X G z_all, PySem.W.mg_none_of X G z_any, PySem.W.mg_none_of X G z_ValueError⟩
  have B2 : Bl2 mg := ⟨B, PySem.W.mg_none_of X G z_enumerate, PySem.W.mg_none_of X G z_sum, PySem.W.mg_none_of X G z_min, PySem.W.mg_none_of X G z_max, PySem.W.mg_none_of X G z_sorted, PySem.W.mg_none_of X G z_reversed, PySem.W.mg_none_of X G z_dict⟩
  have C_ZERO : Zero4 K mg := Zero4.of (PySem.W.mg_of X G b_ZERO) m_ZERO
  have C_ONE : One4 K mg := One4.of (PySem.W.mg_of X G b_ONE) m_ONE
  have d_common_divisor : Def K mg "common_divisor" s_common_divisor ["one", "other"] := def_of (st := s_common_divisor) l0 c0 k0 (PySem.W.mg_of X G a0) fun _ _ _ _ _ _ us hl => by obtain ⟨_, _, rfl⟩ := len2 hl; rfl
  have d_fraction : Def K mg "fraction" s_fraction ["top", "bottom"] := def_of (st := s_fraction) l1 c1 k1 (PySem.W.mg_of X G a1) fun _ _ _ _ _ _ us hl => by obtain ⟨_, _, rfl⟩ := len2 hl; rfl
  have d_plus : Def K mg "plus" s_plus ["q", "r"] := def_of (st := s_plus) l2 c2 k2 (PySem.W.mg_of X G a2) fun _ _ _ _ _ _ us hl => by obtain ⟨_, _, rfl⟩ := len2 hl; rfl
  have d_opposite : Def K mg "opposite" s_opposite ["q"] := def_of (st := s_opposite) l3 c3 k3 (PySem.W.mg_of X G a3) fun _ _ _ _ _ _ us hl => by obtain ⟨_, rfl⟩ := len1 hl; rfl
  have d_times : Def K mg "times" s_times ["q", "r"] := def_of (st := s_times) l4 c4 k4 (PySem.W.mg_of X G a4) fun _ _ _ _ _ _ us hl => by obtain ⟨_, _, rfl⟩ := len2 hl; rfl
  have d_below : Def K mg "below" s_below ["q", "r"] := def_of (st := s_below) l5 c5 k5 (PySem.W.mg_of X G a5) fun _ _ _ _ _ _ us hl => by obtain ⟨_, _, rfl⟩ := len2 hl; rfl
  have d_weighed_sum : Def K mg "weighed_sum" s_weighed_sum ["factors", "told"] := def_of (st := s_weighed_sum) l6 c6 k6 (PySem.W.mg_of X G a6) fun _ _ _ _ _ _ us hl => by obtain ⟨_, _, rfl⟩ := len2 hl; rfl
  have d_scale_of : Def K mg "scale_of" s_scale_of ["parts"] := def_of (st := s_scale_of) l7 c7 k7 (PySem.W.mg_of X G a7) fun _ _ _ _ _ _ us hl => by obtain ⟨_, rfl⟩ := len1 hl; rfl
  have d_whole_line : Def K mg "whole_line" s_whole_line ["parts", "scale"] := def_of (st := s_whole_line) l8 c8 k8 (PySem.W.mg_of X G a8) fun _ _ _ _ _ _ us hl => by obtain ⟨_, _, rfl⟩ := len2 hl; rfl
  have d_unit_line : Def K mg "unit_line" s_unit_line ["length", "place"] := def_of (st := s_unit_line) l9 c9 k9 (PySem.W.mg_of X G a9) fun _ _ _ _ _ _ us hl => by obtain ⟨_, _, rfl⟩ := len2 hl; rfl
  have d_table_at_lows : Def K mg "table_at_lows" s_table_at_lows ["shim_count", "rows"] := def_of (st := s_table_at_lows) l10 c10 k10 (PySem.W.mg_of X G a10) fun _ _ _ _ _ _ us hl => by obtain ⟨_, _, rfl⟩ := len2 hl; rfl
  have d_choice_at : Def K mg "choice_at" s_choice_at ["table"] := def_of (st := s_choice_at) l11 c11 k11 (PySem.W.mg_of X G a11) fun _ _ _ _ _ _ us hl => by obtain ⟨_, rfl⟩ := len1 hl; rfl
  have d_exchanged : Def K mg "exchanged" s_exchanged ["line", "incoming", "place", "bottom"] := def_of (st := s_exchanged) l12 c12 k12 (PySem.W.mg_of X G a12) fun _ _ _ _ _ _ us hl => by obtain ⟨_, _, _, _, rfl⟩ := len4 hl; rfl
  have d_turned : Def K mg "turned" s_turned ["table", "number", "place"] := def_of (st := s_turned) l13 c13 k13 (PySem.W.mg_of X G a13) fun _ _ _ _ _ _ us hl => by obtain ⟨_, _, _, rfl⟩ := len3 hl; rfl
  have d_first_held : Def K mg "first_held" s_first_held ["table", "places"] := def_of (st := s_first_held) l14 c14 k14 (PySem.W.mg_of X G a14) fun _ _ _ _ _ _ us hl => by obtain ⟨_, _, rfl⟩ := len2 hl; rfl
  have d_first_broken : Def K mg "first_broken" s_first_broken ["table"] := def_of (st := s_first_broken) l15 c15 k15 (PySem.W.mg_of X G a15) fun _ _ _ _ _ _ us hl => by obtain ⟨_, rfl⟩ := len1 hl; rfl
  have d_lifting_place : Def K mg "lifting_place" s_lifting_place ["table", "number"] := def_of (st := s_lifting_place) l16 c16 k16 (PySem.W.mg_of X G a16) fun _ _ _ _ _ _ us hl => by obtain ⟨_, _, rfl⟩ := len2 hl; rfl
  have d_settled : Def K mg "settled" s_settled ["table"] := def_of (st := s_settled) l17 c17 k17 (PySem.W.mg_of X G a17) fun _ _ _ _ _ _ us hl => by obtain ⟨_, rfl⟩ := len1 hl; rfl
  have d_barring_weights : Def K mg "barring_weights" s_barring_weights ["table", "number"] := def_of (st := s_barring_weights) l18 c18 k18 (PySem.W.mg_of X G a18) fun _ _ _ _ _ _ us hl => by obtain ⟨_, _, rfl⟩ := len2 hl; rfl
  have d_all_but_one_0 : Def K mg "all_but_one_0" s_all_but_one_0 ["length", "place", "q"] := def_of (st := s_all_but_one_0) l19 c19 k19 (PySem.W.mg_of X G a19) fun _ _ _ _ _ _ us hl => by obtain ⟨_, _, _, rfl⟩ := len3 hl; rfl
  have d_bound_rows : Def K mg "bound_rows" s_bound_rows ["shims"] := def_of (st := s_bound_rows) l20 c20 k20 (PySem.W.mg_of X G a20) fun _ _ _ _ _ _ us hl => by obtain ⟨_, rfl⟩ := len1 hl; rfl
  have d_rows_of : Def K mg "rows_of" s_rows_of ["plan", "made"] := def_of (st := s_rows_of) l21 c21 k21 (PySem.W.mg_of X G a21) fun _ _ _ _ _ _ us hl => by obtain ⟨_, _, rfl⟩ := len2 hl; rfl
  have d_choice_for : Def K mg "choice_for" s_choice_for ["plan", "made"] := def_of (st := s_choice_for) l22 c22 k22 (PySem.W.mg_of X G a22) fun _ _ _ _ _ _ us hl => by obtain ⟨_, _, rfl⟩ := len2 hl; rfl
  have d_weights_bar : Def K mg "weights_bar" s_weights_bar ["plan", "made", "weights"] := def_of (st := s_weights_bar) l23 c23 k23 (PySem.W.mg_of X G a23) fun _ _ _ _ _ _ us hl => by obtain ⟨_, _, _, rfl⟩ := len3 hl; rfl
  have d__law_cell : Def K mg "_law_cell" s_law_cell ["script", "k"] := def_of (st := s_law_cell) l24 c24 k24 (PySem.W.mg_of X G a24) fun _ _ _ _ _ _ us hl => by obtain ⟨_, _, rfl⟩ := len2 hl; rfl
  have d__law_mixed : Def K mg "_law_mixed" s_law_mixed ["cell", "k"] := def_of (st := s_law_mixed) l25 c25 k25 (PySem.W.mg_of X G a25) fun _ _ _ _ _ _ us hl => by obtain ⟨_, _, rfl⟩ := len2 hl; rfl
  have d__law_divisor : Def K mg "_law_divisor" s_law_divisor ["one", "other"] := def_of (st := s_law_divisor) l26 c26 k26 (PySem.W.mg_of X G a26) fun _ _ _ _ _ _ us hl => by obtain ⟨_, _, rfl⟩ := len2 hl; rfl
  have d__law_fraction : Def K mg "_law_fraction" s_law_fraction ["top", "bottom"] := def_of (st := s_law_fraction) l27 c27 k27 (PySem.W.mg_of X G a27) fun _ _ _ _ _ _ us hl => by obtain ⟨_, _, rfl⟩ := len2 hl; rfl
  have d__law_plus : Def K mg "_law_plus" s_law_plus ["q", "r"] := def_of (st := s_law_plus) l28 c28 k28 (PySem.W.mg_of X G a28) fun _ _ _ _ _ _ us hl => by obtain ⟨_, _, rfl⟩ := len2 hl; rfl
  have d__law_times : Def K mg "_law_times" s_law_times ["q", "r"] := def_of (st := s_law_times) l29 c29 k29 (PySem.W.mg_of X G a29) fun _ _ _ _ _ _ us hl => by obtain ⟨_, _, rfl⟩ := len2 hl; rfl
  have d__law_below : Def K mg "_law_below" s_law_below ["q", "r"] := def_of (st := s_law_below) l30 c30 k30 (PySem.W.mg_of X G a30) fun _ _ _ _ _ _ us hl => by obtain ⟨_, _, rfl⟩ := len2 hl; rfl
  have d__law_sum : Def K mg "_law_sum" s_law_sum ["ones", "others"] := def_of (st := s_law_sum) l31 c31 k31 (PySem.W.mg_of X G a31) fun _ _ _ _ _ _ us hl => by obtain ⟨_, _, rfl⟩ := len2 hl; rfl
  have d__law_drawn : Def K mg "_law_drawn" s_law_drawn ["cell"] := def_of (st := s_law_drawn) l32 c32 k32 (PySem.W.mg_of X G a32) fun _ _ _ _ _ _ us hl => by obtain ⟨_, rfl⟩ := len1 hl; rfl
  have d__law_plan : Def K mg "_law_plan" s_law_plan ["script", "start"] := def_of (st := s_law_plan) l33 c33 k33 (PySem.W.mg_of X G a33) fun _ _ _ _ _ _ us hl => by obtain ⟨_, _, rfl⟩ := len2 hl; rfl
  have d__law_made : Def K mg "_law_made" s_law_made ["plan", "cell"] := def_of (st := s_law_made) l34 c34 k34 (PySem.W.mg_of X G a34) fun _ _ _ _ _ _ us hl => by obtain ⟨_, _, rfl⟩ := len2 hl; rfl
  have d__law_rows : Def K mg "_law_rows" s_law_rows ["plan", "made"] := def_of (st := s_law_rows) l35 c35 k35 (PySem.W.mg_of X G a35) fun _ _ _ _ _ _ us hl => by obtain ⟨_, _, rfl⟩ := len2 hl; rfl
  have d__law_bars : Def K mg "_law_bars" s_law_bars ["rows", "weights", "many"] := def_of (st := s_law_bars) l36 c36 k36 (PySem.W.mg_of X G a36) fun _ _ _ _ _ _ us hl => by obtain ⟨_, _, _, rfl⟩ := len3 hl; rfl
  have d__law_against : Def K mg "_law_against" s_law_against ["plan", "made", "cells"] := def_of (st := s_law_against) l37 c37 k37 (PySem.W.mg_of X G a37) fun _ _ _ _ _ _ us hl => by obtain ⟨_, _, _, rfl⟩ := len3 hl; rfl
  have d__law_copy : Def K mg "_law_copy" s_law_copy ["plan"] := def_of (st := s_law_copy) l38 c38 k38 (PySem.W.mg_of X G a38) fun _ _ _ _ _ _ us hl => by obtain ⟨_, rfl⟩ := len1 hl; rfl
  have d__law_spoilt : Def K mg "_law_spoilt" s_law_spoilt ["weights", "cell"] := def_of (st := s_law_spoilt) l39 c39 k39 (PySem.W.mg_of X G a39) fun _ _ _ _ _ _ us hl => by obtain ⟨_, _, rfl⟩ := len2 hl; rfl
  have d_law : Def K mg "law" s_law ["script"] := def_of (st := s_law) l40 c40 k40 (PySem.W.mg_of X G a40) fun _ _ _ _ _ _ us hl => by obtain ⟨_, rfl⟩ := len1 hl; rfl
  have TK : TabK K mg C_Table fi_Table _ := ⟨PySem.W.mg_of X G tC, ⟨t_pg, t_hd, t_po, t_sa⟩, t_held, t_bottom, t_rows, t_scales, t_shims, ⟨t_mk, t_in, t_fn, t_kp⟩, fun_mk (st := s_init) t_l t_c t_k, (fun_mk (st := s_init) t_l t_c t_k).binds (ps := tPs) fun _ _ _ _ _ _ us hl => by obtain ⟨_, _, _, _, _, _, rfl⟩ := len6 hl; rfl⟩
  have u_t : PySem.W.tabIn K "first_held" = some (cL, PL) := tab_mk a14 l14 u_c u_l u_p
  have CA : CodeAt K mg "first_held" s_first_held cL := code_at X G a14 u_t
  refine ⟨cL, PL, u_t, u_n, PySem.W.fnOf "law" "law" (defArgs s_law) (defBody s_law) (defScope s_law) .none kV40 dc40 pm40 an40 cd40 ct40, fun s v => .of_eq rfl, fun base _ _ CH BM => ?_⟩
  have TC := TK.ok (P := l.prog) (w := w) (base := base)
  have h_common_divisor := M.h_common_divisor (P := l.prog) (w := w) (base := base) B d_common_divisor 
  have h_opposite := M.h_opposite (P := l.prog) (w := w) (base := base) B d_opposite 
  have h_below := M.h_below (P := l.prog) (w := w) (base := base) B d_below 
  have h_whole_line := M.h_whole_line (P := l.prog) (w := w) (base := base) B d_whole_line 
  have h_unit_line := M.h_unit_line (P := l.prog) (w := w) (base := base) B d_unit_line 
  have h_exchanged := M.h_exchanged (P := l.prog) (w := w) (base := base) B d_exchanged 
  have h_first_broken := M.h_first_broken (P := l.prog) (w := w) (base := base) B2 d_first_broken  (TC := TC)
  have h_all_but_one_0 := M.h_all_but_one_0 (P := l.prog) (w := w) (base := base) B d_all_but_one_0  (C_ZERO := C_ZERO)
  have h__law_cell := M.h__law_cell (P := l.prog) (w := w) (base := base) B d__law_cell 
  have h__law_mixed := M.h__law_mixed (P := l.prog) (w := w) (base := base) B d__law_mixed 
  have h__law_divisor := M.h__law_divisor (P := l.prog) (w := w) (base := base) B d__law_divisor 
  have h__law_below := M.h__law_below (P := l.prog) (w := w) (base := base) B d__law_below 
  have h__law_copy := M.h__law_copy (P := l.prog) (w := w) (base := base) B d__law_copy 
  have h_fraction := M.h_fraction (P := l.prog) (w := w) (base := base) B d_fraction (F_common_divisor := h_common_divisor)
  have h_scale_of := M.h_scale_of (P := l.prog) (w := w) (base := base) B d_scale_of (F_common_divisor := h_common_divisor)
  have h_barring_weights := M.h_barring_weights (P := l.prog) (w := w) (base := base) B2 d_barring_weights (F_common_divisor := h_common_divisor) (TC := TC)
  have h_bound_rows := M.h_bound_rows (P := l.prog) (w := w) (base := base) B2 d_bound_rows (F_all_but_one_0 := h_all_but_one_0) (F_opposite := h_opposite) (C_ONE := C_ONE)
  have h__law_fraction := M.h__law_fraction (P := l.prog) (w := w) (base := base) B d__law_fraction (F__law_divisor := h__law_divisor)
  have h_plus := M.h_plus (P := l.prog) (w := w) (base := base) B d_plus (F_fraction := h_fraction)
  have h_times := M.h_times (P := l.prog) (w := w) (base := base) B d_times (F_fraction := h_fraction)
  have h_choice_at := M.h_choice_at (P := l.prog) (w := w) (base := base) B d_choice_at (F_fraction := h_fraction) (TC := TC)
  have h_turned := M.h_turned (P := l.prog) (w := w) (base := base) B d_turned (F_exchanged := h_exchanged) (TC := TC)
  have h__law_plus := M.h__law_plus (P := l.prog) (w := w) (base := base) B d__law_plus (F__law_fraction := h__law_fraction)
  have h__law_times := M.h__law_times (P := l.prog) (w := w) (base := base) B d__law_times (F__law_fraction := h__law_fraction)
  have h__law_drawn := M.h__law_drawn (P := l.prog) (w := w) (base := base) B d__law_drawn (F__law_fraction := h__law_fraction)
  have h_weighed_sum := M.h_weighed_sum (P := l.prog) (w := w) (base := base) B d_weighed_sum (F_plus := h_plus) (F_times := h_times) (C_ZERO := C_ZERO)
  have h_table_at_lows := M.h_table_at_lows (P := l.prog) (w := w) (base := base) B d_table_at_lows (F_scale_of := h_scale_of) (F_whole_line := h_whole_line) (F_unit_line := h_unit_line) (F_turned := h_turned) (TC := TC)
  have h_first_held := M.h_first_held (P := l.prog) (w := w) (base := base) B2 d_first_held  (hc := CA) (CH := CH) (BM := BM) (TC := TC)
  have h__law_sum := M.h__law_sum (P := l.prog) (w := w) (base := base) B d__law_sum (F__law_plus := h__law_plus) (F__law_times := h__law_times)
  have h__law_plan := M.h__law_plan (P := l.prog) (w := w) (base := base) B d__law_plan (F__law_cell := h__law_cell) (F__law_drawn := h__law_drawn) (F__law_plus := h__law_plus) (F__law_fraction := h__law_fraction) (F__law_mixed := h__law_mixed)
  have h__law_made := M.h__law_made (P := l.prog) (w := w) (base := base) B d__law_made (F__law_fraction := h__law_fraction) (F__law_plus := h__law_plus) (F__law_times := h__law_times)
  have h__law_spoilt := M.h__law_spoilt (P := l.prog) (w := w) (base := base) B d__law_spoilt (F__law_plus := h__law_plus) (F__law_fraction := h__law_fraction) (F__law_times := h__law_times)
  have h_lifting_place := M.h_lifting_place (P := l.prog) (w := w) (base := base) B d_lifting_place (F_first_held := h_first_held) (TC := TC)
  have h_rows_of := M.h_rows_of (P := l.prog) (w := w) (base := base) B d_rows_of (F_bound_rows := h_bound_rows) (F_plus := h_plus) (F_weighed_sum := h_weighed_sum)
  have h__law_rows := M.h__law_rows (P := l.prog) (w := w) (base := base) B d__law_rows (F__law_plus := h__law_plus) (F__law_sum := h__law_sum) (F__law_times := h__law_times)
  have h__law_bars := M.h__law_bars (P := l.prog) (w := w) (base := base) B d__law_bars (F__law_below := h__law_below) (F__law_sum := h__law_sum)
  have h_settled := M.h_settled (P := l.prog) (w := w) (base := base) B d_settled (F_first_broken := h_first_broken) (F_lifting_place := h_lifting_place) (F_turned := h_turned) (TC := TC)
  have h_weights_bar := M.h_weights_bar (P := l.prog) (w := w) (base := base) B2 d_weights_bar (F_rows_of := h_rows_of) (F_below := h_below) (F_weighed_sum := h_weighed_sum) (C_ZERO := C_ZERO)
  have h__law_against := M.h__law_against (P := l.prog) (w := w) (base := base) B d__law_against (F__law_rows := h__law_rows) (F__law_sum := h__law_sum) (F__law_plus := h__law_plus) (F__law_fraction := h__law_fraction) (F__law_times := h__law_times)
  have h_choice_for := M.h_choice_for (P := l.prog) (w := w) (base := base) B d_choice_for (F_settled := h_settled) (F_table_at_lows := h_table_at_lows) (F_barring_weights := h_barring_weights) (F_rows_of := h_rows_of) (F_choice_at := h_choice_at) (TC := TC)
  exact M.fn_law (P := l.prog) (w := w) (base := base) B2 (fun_mk (st := s_law) l40 c40 k40) (F__law_plan := h__law_plan) (F__law_made := h__law_made) (F__law_against := h__law_against) (F__law_rows := h__law_rows) (F_choice_for := h_choice_for) (F__law_cell := h__law_cell) (F__law_spoilt := h__law_spoilt) (F_weights_bar := h_weights_bar) (F__law_bars := h__law_bars) (F__law_copy := h__law_copy)
private theorem walk {l : PySem.W.OpenLaw} {q : Program} {loose : List Str} {XP : (Str → Option Value) → Heap → Prop} {YP : World → Heap → Prop} {d d0 : DefRec} {K : Params → PySem.W.Frag} (hn : l.most = some 63) (hdf : d.params.defaults = []) (hrec : (recsOf q).find? (fun e => e.name == ("first_held" : Str)) = some d0)
    (hY : ∀ (w : World) (h : Heap), YP w h → (K w.params).In h)
    (F : ∀ (w : World) (mg : Str → Option Value) (fa : Addr) (h : Heap), (K w.params).In h → h.Ns mainGlobals mg → mg d.name = some (.ref fa) →
      ∃ c0 P0, PySem.W.tabIn (K w.params) "first_held" = some (c0, P0) ∧ (K w.params).lookup P0 = none ∧ ∃ fd : FuncData, (∀ (s : Shared) (u : Value), BindsTo s fd ⟨[u], []⟩ [("script", u)]) ∧ ∀ base : Heap, (K w.params).In base → base.Ns mainGlobals mg → PySem.W.CodeHd base c0 P0 → BMain mg base → FnOk l.prog w (K w.params) mg base CX0 8 fa fd ["script"] (spLaw (K w.params) P0)) :
    PySem.W.WalkO q loose XP YP l.row.toRowW d [] (fun f vs => PySem.call f vs) :=
  L4.walk_ofT (n := 63) (k := 8) (x := "script") (x0 := "first_held") (CX := fun _ => CX0) (sp := fun w P0 => spLaw (K w.params) P0) hn (by decide) hdf ⟨rfl, by decide, by decide⟩ hrec hY F (fun _ _ _ a ns hl hT hS => ⟨a, ns, rfl, hS, hl, hT, fun _ => rfl⟩) fun _ _ _ _ _ z => z
end M
-- the head would lay twins of the heap, of trees and of texts here; with their names taken it lays none and goes on without them, and the compiled file stays small
theorem PySem.W.Fast.te6607919640573518329 : True := trivial
noncomputable def PySem.W.Fast.tw15648119779372191021 : PySem.Program := PySem.Challenge.pw_shimright_k14_weights_judged
theorem PySem.W.Fast.te15648119779372191021 : PySem.Challenge.pw_shimright_k14_weights_judged = PySem.W.Fast.tw15648119779372191021 := rfl
theorem PySem.W.Fast.tw11615349069460339352 : True := trivial
theorem PySem.W.Fast.tw5492094453666206397 : True := trivial
theorem PySem.W.Fast.tw17817540057612243780 : True := trivial
theorem PySem.W.Fast.tw5262820724143526358 : True := trivial
theorem PySem.W.Fast.tw13396506502400620294 : True := trivial
theorem PySem.W.Fast.tw10503681749349748648 : True := trivial
theorem PySem.W.Fast.tw9657005917919816329 : True := trivial
theorem PySem.W.Fast.tw12721508975380431146 : True := trivial
theorem PySem.W.Fast.tw6298138182428360242 : True := trivial
theorem PySem.W.Fast.tw18255163602614961899 : True := trivial
theorem PySem.W.Fast.tw2229859176119875085 : True := trivial
theorem PySem.W.Fast.tw881806748064674484 : True := trivial
namespace M
end M
open PySem PySem.W PyProof.Rows
set_option maxRecDepth 100000 in
set_option maxHeartbeats 0 in
theorem PySem.Challenge.cw_shimright_k14_weights_judged_holds : PySem.Challenge.rw_shimright_k14_weights_judged.Holds := by
  w_on; o_law; k_head; (case hw => w_witness2)
  k_fill
  refine M.walk (l := PySem.Challenge.rw_shimright_k14_weights_judged) rfl rfl rfl (fun w h Y => PySem.W.km_in_of Y) ?F
  case F =>
    intro w mg fa h KX G hmg
    refine' M.all_mk KX G hmg ?a0 ?l0 ?c0 ?k0 ?a1 ?l1 ?c1 ?k1 ?a2 ?l2 ?c2 ?k2 ?a3 ?l3 ?c3 ?k3 ?a4 ?l4 ?c4 ?k4 ?a5 ?l5 ?c5 ?k5 ?a6 ?l6 ?c6 ?k6 ?a7 ?l7 ?c7 ?k7 ?a8 ?l8 ?c8 ?k8 ?a9 ?l9 ?c9 ?k9 ?a10 ?l10 ?c10 ?k10 ?a11 ?l11 ?c11 ?k11 ?a12 ?l12 ?c12 ?k12 ?a13 ?l13 ?c13 ?k13 ?a14 ?l14 ?c14 ?k14 ?a15 ?l15 ?c15 ?k15 ?a16 ?l16 ?c16 ?k16 ?a17 ?l17 ?c17 ?k17 ?a18 ?l18 ?c18 ?k18 ?a19 ?l19 ?c19 ?k19 ?a20 ?l20 ?c20 ?k20 ?a21 ?l21 ?c21 ?k21 ?a22 ?l22 ?c22 ?k22 ?a23 ?l23 ?c23 ?k23 ?a24 ?l24 ?c24 ?k24 ?a25 ?l25 ?c25 ?k25 ?a26 ?l26 ?c26 ?k26 ?a27 ?l27 ?c27 ?k27 ?a28 ?l28 ?c28 ?k28 ?a29 ?l29 ?c29 ?k29 ?a30 ?l30 ?c30 ?k30 ?a31 ?l31 ?c31 ?k31 ?a32 ?l32 ?c32 ?k32 ?a33 ?l33 ?c33 ?k33 ?a34 ?l34 ?c34 ?k34 ?a35 ?l35 ?c35 ?k35 ?a36 ?l36 ?c36 ?k36 ?a37 ?l37 ?c37 ?k37 ?a38 ?l38 ?c38 ?k38 ?a39 ?l39 ?c39 ?k39 ?a40 ?l40 ?c40 ?k40 ?z_len ?z_abs ?z_isinstance ?z_tuple ?z_list ?z_int ?z_bool ?z_str ?z_range ?z_zip ?z_all ?z_any ?z_ValueError ?z_enumerate ?z_sum ?z_min ?z_max ?z_sorted ?z_reversed ?z_dict ?b_ZERO ?m_ZERO ?b_ONE ?m_ONE ?tC ?t_pg ?t_hd ?t_po ?t_sa ?t_held ?t_bottom ?t_rows ?t_scales ?t_shims ?t_mk ?t_in ?t_fn ?t_kp ?t_l ?t_c ?t_k ?u_c ?u_l ?u_p ?u_n
    (case a0 => k_is)
    (case l0 => k_is)
    (case c0 => k_is)
    (case k0 => k_is)
    (case a1 => k_is)
    (case l1 => k_is)
    (case c1 => k_is)
    (case k1 => k_is)
    (case a2 => k_is)
    (case l2 => k_is)
    (case c2 => k_is)
    (case k2 => k_is)
    (case a3 => k_is)
    (case l3 => k_is)
    (case c3 => k_is)
    (case k3 => k_is)
    (case a4 => k_is)
    (case l4 => k_is)
    (case c4 => k_is)
    (case k4 => k_is)
    (case a5 => k_is)
    (case l5 => k_is)
    (case c5 => k_is)
    (case k5 => k_is)
    (case a6 => k_is)
    (case l6 => k_is)
    (case c6 => k_is)
    (case k6 => k_is)
    (case a7 => k_is)
    (case l7 => k_is)
    (case c7 => k_is)
    (case k7 => k_is)
    (case a8 => k_is)
    (case l8 => k_is)
    (case c8 => k_is)
    (case k8 => k_is)
    (case a9 => k_is)
    (case l9 => k_is)
    (case c9 => k_is)
    (case k9 => k_is)
    (case a10 => k_is)
    (case l10 => k_is)
    (case c10 => k_is)
    (case k10 => k_is)
    (case a11 => k_is)
    (case l11 => k_is)
    (case c11 => k_is)
    (case k11 => k_is)
    (case a12 => k_is)
    (case l12 => k_is)
    (case c12 => k_is)
    (case k12 => k_is)
    (case a13 => k_is)
    (case l13 => k_is)
    (case c13 => k_is)
    (case k13 => k_is)
    (case a14 => k_is)
    (case l14 => k_is)
    (case c14 => k_is)
    (case k14 => k_is)
    (case a15 => k_is)
    (case l15 => k_is)
    (case c15 => k_is)
    (case k15 => k_is)
    (case a16 => k_is)
    (case l16 => k_is)
    (case c16 => k_is)
    (case k16 => k_is)
    (case a17 => k_is)
    (case l17 => k_is)
    (case c17 => k_is)
    (case k17 => k_is)
    (case a18 => k_is)
    (case l18 => k_is)
    (case c18 => k_is)
    (case k18 => k_is)
    (case a19 => k_is)
    (case l19 => k_is)
    (case c19 => k_is)
    (case k19 => k_is)
    (case a20 => k_is)
    (case l20 => k_is)
    (case c20 => k_is)
    (case k20 => k_is)
    (case a21 => k_is)
    (case l21 => k_is)
    (case c21 => k_is)
    (case k21 => k_is)
    (case a22 => k_is)
    (case l22 => k_is)
    (case c22 => k_is)
    (case k22 => k_is)
    (case a23 => k_is)
    (case l23 => k_is)
    (case c23 => k_is)
    (case k23 => k_is)
    (case a24 => k_is)
    (case l24 => k_is)
    (case c24 => k_is)
    (case k24 => k_is)
    (case a25 => k_is)
    (case l25 => k_is)
    (case c25 => k_is)
    (case k25 => k_is)
    (case a26 => k_is)
    (case l26 => k_is)
    (case c26 => k_is)
    (case k26 => k_is)
    (case a27 => k_is)
    (case l27 => k_is)
    (case c27 => k_is)
    (case k27 => k_is)
    (case a28 => k_is)
    (case l28 => k_is)
    (case c28 => k_is)
    (case k28 => k_is)
    (case a29 => k_is)
    (case l29 => k_is)
    (case c29 => k_is)
    (case k29 => k_is)
    (case a30 => k_is)
    (case l30 => k_is)
    (case c30 => k_is)
    (case k30 => k_is)
    (case a31 => k_is)
    (case l31 => k_is)
    (case c31 => k_is)
    (case k31 => k_is)
    (case a32 => k_is)
    (case l32 => k_is)
    (case c32 => k_is)
    (case k32 => k_is)
    (case a33 => k_is)
    (case l33 => k_is)
    (case c33 => k_is)
    (case k33 => k_is)
    (case a34 => k_is)
    (case l34 => k_is)
    (case c34 => k_is)
    (case k34 => k_is)
    (case a35 => k_is)
    (case l35 => k_is)
    (case c35 => k_is)
    (case k35 => k_is)
    (case a36 => k_is)
    (case l36 => k_is)
    (case c36 => k_is)
    (case k36 => k_is)
    (case a37 => k_is)
    (case l37 => k_is)
    (case c37 => k_is)
    (case k37 => k_is)
    (case a38 => k_is)
    (case l38 => k_is)
    (case c38 => k_is)
    (case k38 => k_is)
    (case a39 => k_is)
    (case l39 => k_is)
    (case c39 => k_is)
    (case k39 => k_is)
    (case a40 => k_is)
    (case l40 => k_is)
    (case c40 => k_is)
    (case k40 => k_is)
    (case z_len => k_is)
    (case z_abs => k_is)
    (case z_isinstance => k_is)
    (case z_tuple => k_is)
    (case z_list => k_is)
    (case z_int => k_is)
    (case z_bool => k_is)
    (case z_str => k_is)
    (case z_range => k_is)
    (case z_zip => k_is)
    (case z_all => k_is)
    (case z_any => k_is)
    (case z_ValueError => k_is)
    (case z_enumerate => k_is)
    (case z_sum => k_is)
    (case z_min => k_is)
    (case z_max => k_is)
    (case z_sorted => k_is)
    (case z_reversed => k_is)
    (case z_dict => k_is)
    (case b_ZERO => k_is)
    (case m_ZERO => k_is)
    (case b_ONE => k_is)
    (case m_ONE => k_is)
    (case tC => k_is)
    (case t_pg => k_is)
    (case t_hd => k_is)
    (case t_po => k_is)
    (case t_sa => k_is)
    (case t_held => k_is)
    (case t_bottom => k_is)
    (case t_rows => k_is)
    (case t_scales => k_is)
    (case t_shims => k_is)
    (case t_mk => k_is)
    (case t_in => k_is)
    (case t_fn => k_is)
    (case t_kp => k_is)
    (case t_l => k_is)
    (case t_c => k_is)
    (case t_k => k_is)
    (case u_c => exact rfl)
    (case u_l => k_is)
    (case u_p => exact rfl)
    (case u_n => exact rfl)
#print axioms PySem.Challenge.cw_shimright_k14_weights_judged_holds
