import PyProof.Rows.All
import Wide.All
import OpenK.AllK
import Wide.FinOn
import Lean
import PyProof.EqAt
import PyProof.EqKinds
import PyProof.TupleCall
import PyProof.NeKinds
import KE.KLam
import KE.KMinKey
import KE.KEqDict
import PySem.Challenge.RW_shimright_k06_what_is_a_plan
set_option genSizeOf false
set_option genSizeOfSpec false
set_option bootstrap.genMatcherCode false
set_option compiler.extract_closed false
set_option Elab.async false
set_option linter.all false
set_option maxRecDepth 100000
namespace L2
private theorem e12 {α : Type} {A B : α → Prop} {R : Prop} (h : ∃ x, A x ∧ B x) (k : ∀ x, A x → B x → R) : R := h.elim fun x h => k x h.1 h.2
private theorem e22 {α β : Type} {A B : α → β → Prop} {R : Prop} (h : ∃ x y, A x y ∧ B x y) (k : ∀ x y, A x y → B x y → R) : R := h.elim fun x h => h.elim fun y h => k x y h.1 h.2
private theorem e23 {α β : Type} {A B C : α → β → Prop} {R : Prop} (h : ∃ x y, A x y ∧ B x y ∧ C x y) (k : ∀ x y, A x y → B x y → C x y → R) : R := h.elim fun x h => h.elim fun y h => k x y h.1 h.2.1 h.2.2
private theorem e24 {α β : Type} {A B C D : α → β → Prop} {R : Prop} (h : ∃ x y, A x y ∧ B x y ∧ C x y ∧ D x y) (k : ∀ x y, A x y → B x y → C x y → D x y → R) : R := h.elim fun x h => h.elim fun y h => k x y h.1 h.2.1 h.2.2.1 h.2.2.2
open PySem PySem.Spec PyProof.Rows
noncomputable abbrev Key := Sum Int Str
noncomputable def keyIs : Key → Value → Bool
  | .inl k, v => Value.isInt k v
  | .inr x, v => Value.isStrOf x v
noncomputable def keyH (w : World) : Key → Int
  | .inl k => hashInt k
  | .inr x => hashStr w x
private theorem keyIs_shape : ∀ {k : Key} {v : Value}, keyIs k v = true → (∃ i t, k = Sum.inl i ∧ v = Value.int i t) ∨ (∃ x t, k = Sum.inr x ∧ v = Value.str x t)
  | .inl i, v, h => by
    obtain ⟨t, e⟩ := Value.isInt_shape (k := i) (v := v) h
    exact .inl ⟨i, t, rfl, e⟩
  | .inr x, v, h => by
    obtain ⟨t, e⟩ := Value.isStrOf_shape (x := x) (v := v) h
    exact .inr ⟨x, t, rfl, e⟩
private theorem key_ll (a b : Int) : decide ((Sum.inl a : Key) = Sum.inl b) = (a == b) := by
  by_cases e : a = b
  · subst e; simp
  · have h : ¬ (Sum.inl a : Key) = Sum.inl b := fun q => e (Sum.inl.inj q)
    rw [decide_eq_false h]
    exact (beq_eq_false_iff_ne.mpr e).symm
private theorem key_rr (a b : Str) : decide ((Sum.inr a : Key) = Sum.inr b) = decide (a = b) := by
  by_cases e : a = b
  · subst e; simp
  · have h : ¬ (Sum.inr a : Key) = Sum.inr b := fun q => e (Sum.inr.inj q)
    rw [decide_eq_false h, decide_eq_false e]
private theorem key_lr (a : Int) (b : Str) : decide ((Sum.inl a : Key) = Sum.inr b) = false := decide_eq_false (fun q => nomatch q)
private theorem key_rl (a : Str) (b : Int) : decide ((Sum.inr a : Key) = Sum.inl b) = false := decide_eq_false (fun q => nomatch q)
noncomputable def mixKind (prog : Program) (w : World) : PySem.KeyKind prog w Key where
  is := keyIs
  hash := keyH w
  inj := fun v a b ha hb => by
    rcases keyIs_shape ha with ⟨i, t, rfl, rfl⟩ | ⟨x, t, rfl, rfl⟩
    · rcases keyIs_shape hb with ⟨j, u, rfl, e⟩ | ⟨y, u, rfl, e⟩
      · injection e with e1 _; rw [e1]
      · exact nomatch e
    · rcases keyIs_shape hb with ⟨j, u, rfl, e⟩ | ⟨y, u, rfl, e⟩
      · exact nomatch e
      · injection e with e1 _; rw [e1]
  byValue := fun k v h => by
    rcases keyIs_shape h with ⟨i, t, rfl, rfl⟩ | ⟨x, t, rfl, rfl⟩ <;> rfl
  pyHash := fun hv h => by
    rcases keyIs_shape hv with ⟨i, t, rfl, rfl⟩ | ⟨x, t, rfl, rfl⟩
    · exact wpAny_pyHash_int h
    · exact wpAny_pyHash_str h
  eqBool := fun hu hv h => by
    rcases keyIs_shape hu with ⟨i, t, rfl, rfl⟩ | ⟨x, t, rfl, rfl⟩
    · rcases keyIs_shape hv with ⟨j, u, rfl, rfl⟩ | ⟨y, u, rfl, rfl⟩
      · rw [key_ll] at h; exact wpAny_eqBool_int h
      · rw [key_lr] at h; exact SeqAt.EqAt.int_str i t y u _ _ _ _ h
    · rcases keyIs_shape hv with ⟨j, u, rfl, rfl⟩ | ⟨y, u, rfl, rfl⟩
      · rw [key_rl] at h; exact SeqAt.EqAt.str_int x t j u _ _ _ _ h
      · rw [key_rr] at h; exact wpAny_eqBool_str h
  «strs» := fun k x t v h => by
    rcases keyIs_shape h with ⟨i, u, rfl, e⟩ | ⟨y, u, rfl, e⟩
    · exact nomatch e
    · injection e with e1 _
      subst e1
      cases v <;> rfl
end L2
namespace L2
open PySem PySem.Spec PyProof.Rows
inductive V where
  | non | bl (b : Bool) | int (i : Int) | str (x : Str) | byt (b : Array UInt8) | flt (b : UInt64) | ref (a : Addr) | ty (n : String)
  deriving DecidableEq
noncomputable def RelV : V → Value → Prop
  | .non, u => u = Value.none
  | .bl b, u => u = Value.bool b
  | .int i, u => ∃ t, u = Value.int i t
  | .str x, u => ∃ t, u = Value.str x t
  | .byt b, u => ∃ t, u = Value.bytes b t
  | .flt b, u => ∃ t, u = Value.float b t
  | .ref a, u => u = Value.ref a
  | .ty n, u => u = Value.type n
noncomputable abbrev Vals : List V → List Value → Prop := Paired RelV
private theorem Vals.length {xs : List V} {us : List Value} (r : Vals xs us) : xs.length = us.length := Paired.length r
private theorem Vals.get : ∀ {xs : List V} {us : List Value} {i : Nat} {x : V}, Vals xs us → xs[i]? = some x → ∃ u, us[i]? = some u ∧ RelV x u
  | _, _, _, _, .nil, e => by simp at e
  | _, _, 0, _, .cons r _, e => by simp at e; subst e; exact ⟨_, rfl, r⟩
  | _, _, i + 1, x, .cons _ t, e => by
    obtain ⟨u, h1, h2⟩ := Vals.get (i := i) (x := x) t (by simpa using e)
    exact ⟨u, by simpa using h1, h2⟩
private theorem Vals.set {x : V} {u : Value} (r : RelV x u) : ∀ {xs : List V} {us : List Value} (i : Nat), Vals xs us → Vals (xs.set i x) (us.set i u)
  | _, _, _, .nil => .nil
  | _, _, 0, .cons _ t => .cons r t
  | _, _, i + 1, .cons q t => .cons q (Vals.set r i t)
private theorem Vals.append : ∀ {xs ys : List V} {us ws : List Value}, Vals xs us → Vals ys ws → Vals (xs ++ ys) (us ++ ws)
  | _, _, _, _, .nil, s => s
  | _, _, _, _, .cons r t, s => .cons r (Vals.append t s)
private theorem Vals.take : ∀ {xs : List V} {us : List Value} (n : Nat), Vals xs us → Vals (xs.take n) (us.take n)
  | _, _, 0, _ => .nil
  | _, _, _ + 1, .nil => .nil
  | _, _, n + 1, .cons r t => .cons r (Vals.take n t)
private theorem Vals.drop : ∀ {xs : List V} {us : List Value} (n : Nat), Vals xs us → Vals (xs.drop n) (us.drop n)
  | _, _, 0, r => r
  | _, _, _ + 1, .nil => .nil
  | _, _, n + 1, .cons _ t => Vals.drop n t
noncomputable def RelO : Option V → Option Value → Prop
  | some v, some u => RelV v u
  | none, none => True
  | _, _ => False
noncomputable def KV {κ : Type} : List (κ × V) → List (κ × Value) → Prop := Paired fun (p : κ × V) (q : κ × Value) => p.1 = q.1 ∧ RelV p.2 q.2
noncomputable def kV : Key → V
  | .inl i => .int i
  | .inr x => .str x
inductive HO where
  | lst (xs : List V)
  | tup (xs : List V)
  | dK (kvs : List (Key × V)) | dT (kvs : List (List Key × V))
  | set (S : Int → Bool) (n : Nat)
  | ins (C dx : Addr) (fs : List (Str × V))
  | own (x : Addr)
  | xd (fs : List (Str × V))
  | met (f x : Addr)
  | rng (lo hi : Int)
  | frz (o : Obj) (u : HO)
  | tbl (ps : Array Value)
  | ext (φ : Heap → Prop)
noncomputable abbrev Hp := Addr → Option HO
noncomputable def upd (H : Hp) (a : Addr) (o : HO) : Hp := fun b => if b = a then some o else H b
private theorem upd_same {H : Hp} {a : Addr} {o : HO} : upd H a o a = some o := by unfold upd; rw [if_pos rfl]
private theorem upd_ne {H : Hp} {a b : Addr} {o : HO} (h : b ≠ a) : upd H a o b = H b := by unfold upd; rw [if_neg h]
private theorem ne_of_none {H : Hp} {a b : Addr} {o : HO} (h : H a = some o) (h' : H b = none) : a ≠ b := by
  intro e; subst e; rw [h] at h'; cases h'
section
variable (P : Program) (w : World)
noncomputable def ObjOk (H : Hp) (h : Heap) (a : Addr) : HO → Prop
  | .lst xs => xs.length ≤ sizeLine ∧ ∃ (its : List Value) (n : Nat), Vals xs its ∧ h.get? a = some { cls := .type "list", data := .seq its.toArray n }
  | .tup xs => xs.length ≤ sizeLine ∧ ∃ its : List Value, Vals xs its ∧ IsTup h a its.toArray
  | .dK kvs => kvs.length ≤ sizeLine ∧ (a == sysModules) = false ∧ ∃ vs, KV kvs vs ∧ h.DictOf (mixKind P w) a vs
  | .dT kvs => kvs.length ≤ sizeLine ∧ (a == sysModules) = false ∧ ∃ xs : List (List Key × Addr × Value),
      Paired (fun (p : List Key × V) (q : List Key × Addr × Value) => p.1 = q.1 ∧ H q.2.1 = some (.tup (p.1.map kV)) ∧ RelV p.2 q.2.2) kvs xs ∧
      ∃ o es ep, h.get? a = some o ∧ o.ExactDict ∧ o.data = .dict es ep ∧ es.toList = xs.map (entryOfKey (tupleKind (mixKind P w))) ∧ (xs.map (·.1)).Nodup
  | .set S n => h.SetOf (intKind P w) a S n
  | .ins C dx fs => H dx = some (.own a) ∧ fs.length ≤ 1000 ∧ dx ≠ a ∧ h.get? a = some (PySem.W.instObj C dx) ∧
      ∃ mA, h.Ns1 dx mA ∧ (∀ f, RelO (fs.lookup f) (mA f)) ∧ PySem.Within mA (fs.map (·.1))
  | .own _ => ∃ o, h.get? a = some o
  | .xd fs => ∃ mA, h.Ns1 a mA ∧ ∀ f, RelO (fs.lookup f) (mA f)
  | .rng lo hi => ∃ t u v, h.get? a = some { cls := .type "range", data := .fields #[.int lo t, .int hi u, .int 1 v] }
  | .frz o u => h.get? a = some o ∧ ObjOk H h a u
  | .tbl ps => h.get? a = some { cls := .none, data := .fields ps }
  | .met f x => h.get? a = some (PySem.W.methodObj (.ref f) (.ref x))
  | .ext φ => φ h ∧ (∃ o, h.get? a = some o) ∧ ∀ h1 h2 : Heap, φ h1 → (∀ o, h1.get? a = some o → h2.get? a = some o) → φ h2
noncomputable def HOk (H : Hp) (h : Heap) : Prop := ∀ a o, H a = some o → ObjOk P w H h a o
end
section
variable {P : Program} {w : World} {H H' : Hp} {h h' : Heap} {a : Addr} {o : HO}
private theorem ObjOk.lt (x : ObjOk P w H h a o) : a < h.objs.size := by
  cases o with
  | lst xs => obtain ⟨_, _, _, _, e⟩ := x; exact Heap.lt_size e
  | tup xs => obtain ⟨_, _, _, p⟩ := x; exact p.lt
  | dK kvs => obtain ⟨_, _, _, _, o, _, _, e, _⟩ := x; exact Heap.lt_size e
  | dT kvs => obtain ⟨_, _, _, _, o, _, _, e, _⟩ := x; exact Heap.lt_size e
  | set S n => obtain ⟨o, _, _, _, e, _⟩ := x; exact Heap.lt_size e
  | ins C dx fs => obtain ⟨_, _, _, e, _⟩ := x; exact Heap.lt_size e
  | own y => obtain ⟨_, e⟩ := x; exact Heap.lt_size e
  | xd fs => obtain ⟨_, ⟨_, _, _, e, _⟩, _⟩ := x; exact Heap.lt_size e
  | rng lo hi => obtain ⟨_, _, _, e⟩ := x; exact Heap.lt_size e
  | frz ob u => obtain ⟨e, _⟩ := x; exact Heap.lt_size e
  | tbl ps => exact Heap.lt_size (show h.get? a = some _ from x)
  | met f y => exact Heap.lt_size (show h.get? a = some _ from x)
  | ext φ => obtain ⟨_, ⟨_, e⟩, _⟩ := x; exact Heap.lt_size e
private theorem Paired.mapP {α β : Type} {F G : α → β → Prop} : ∀ {l₁ : List α} {l₂ : List β}, Paired F l₁ l₂ → (∀ a b, F a b → G a b) → Paired G l₁ l₂
  | _, _, .nil, _ => .nil
  | _, _, .cons r t, f => .cons (f _ _ r) (Paired.mapP t f)
private theorem ObjOk.stay (x : ObjOk P w H h a o) (k : ∀ b u, (b = a ∨ H b = some (.own a)) → h.get? b = some u → h'.get? b = some u)
    (ho : ∀ b, H b = some (.own a) → H' b = some (.own a)) (ht : ∀ b xs, H b = some (.tup xs) → H' b = some (.tup xs)) : ObjOk P w H' h' a o := by
  induction o with
  | lst xs => obtain ⟨z, its, n, r, e⟩ := x; exact ⟨z, its, n, r, k _ _ (.inl rfl) e⟩
  | tup xs => obtain ⟨z, its, r, ob, e, c⟩ := x; exact ⟨z, its, r, ob, k _ _ (.inl rfl) e, c⟩
  | dK kvs => obtain ⟨z, y, vs, r, ob, es, ep, e, c⟩ := x; exact ⟨z, y, vs, r, ob, es, ep, k _ _ (.inl rfl) e, c⟩
  | dT kvs =>
    obtain ⟨z, y, xs, r, ob, es, ep, e, c⟩ := x
    exact ⟨z, y, xs, Paired.mapP r fun p q z => ⟨z.1, ht _ _ z.2.1, z.2.2⟩, ob, es, ep, k _ _ (.inl rfl) e, c⟩
  | set S n => obtain ⟨ob, es, ep, t, e, c⟩ := x; exact ⟨ob, es, ep, t, k _ _ (.inl rfl) e, c⟩
  | ins C dx fs =>
    obtain ⟨d, z, ne, e, mA, ⟨od, es, ep, e2, c⟩, r⟩ := x
    exact ⟨ho _ d, z, ne, k _ _ (.inl rfl) e, mA, ⟨od, es, ep, k _ _ (.inr d) e2, c⟩, r⟩
  | own y => obtain ⟨ob, e⟩ := x; exact ⟨ob, k _ _ (.inl rfl) e⟩
  | xd fs => obtain ⟨mA, ⟨od, es, ep, e, c⟩, r⟩ := x; exact ⟨mA, ⟨od, es, ep, k _ _ (.inl rfl) e, c⟩, r⟩
  | rng lo hi => obtain ⟨t, u, v, e⟩ := x; exact ⟨t, u, v, k _ _ (.inl rfl) e⟩
  | frz ob u ih => obtain ⟨e, q⟩ := x; exact ⟨k _ _ (.inl rfl) e, ih q⟩
  | tbl ps =>
    have e : h.get? a = some { cls := .none, data := .fields ps } := x
    show h'.get? a = some { cls := .none, data := .fields ps }
    exact k a _ (.inl rfl) e
  | met f y =>
    have e : h.get? a = some (PySem.W.methodObj (.ref f) (.ref y)) := x
    show h'.get? a = some (PySem.W.methodObj (.ref f) (.ref y))
    exact k a _ (.inl rfl) e
  | ext φ => obtain ⟨p, ⟨o, e⟩, st⟩ := x; exact ⟨st _ _ p fun o q => k _ _ (.inl rfl) q, ⟨o, k _ _ (.inl rfl) e⟩, st⟩
private theorem HOk.lt (x : HOk P w H h) (e : H a = some o) : a < h.objs.size := (x a o e).lt
private theorem HOk.fresh (x : HOk P w H h) (e : h.objs.size ≤ a) : H a = none := by
  cases q : H a with
  | none => rfl
  | some u => exact absurd (Nat.lt_of_lt_of_le (x.lt q) e) (Nat.lt_irrefl _)
private theorem HOk.kept (x : HOk P w H h) (k : ∀ b u, h.get? b = some u → h'.get? b = some u) : HOk P w H h' := fun a o e =>
  (x a o e).stay (fun b u _ q => k b u q) (fun _ q => q) fun _ _ q => q
private theorem HOk.laid (x : HOk P w H h) (k : ∀ b u, h.get? b = some u → h'.get? b = some u) (hp : h.objs.size ≤ a) (new : ObjOk P w (upd H a o) h' a o) : HOk P w (upd H a o) h' := fun b u e => by
  have hn := x.fresh hp
  by_cases hb : b = a
  · subst hb; rw [upd_same] at e; cases e; exact new
  · rw [upd_ne hb] at e
    exact (x b u e).stay (fun c v _ q => k c v q) (fun c q => by rw [upd_ne (ne_of_none q hn)]; exact q) fun c xs q => by rw [upd_ne (ne_of_none q hn)]; exact q
end
noncomputable def Rd (H : Hp) (a : Addr) (u : HO) : Prop := H a = some u ∨ ∃ o, H a = some (.frz o u)
private theorem Rd.ok {P : Program} {w : World} {H : Hp} {h : Heap} {a : Addr} {u : HO} (r : Rd H a u) (x : HOk P w H h) : ObjOk P w H h a u := by
  rcases r with r | ⟨o, r⟩
  · exact x a u r
  · obtain ⟨_, q⟩ := x a _ r
    exact q
noncomputable def Mut : Option HO → Prop
  | some (.lst _) => True
  | some (.dK _) => True
  | some (.dT _) => True
  | some (.set _ _) => True
  | some (.ins _ _ _) => True
  | some (.ext _) => True
  | _ => False
section
variable {P : Program} {w : World} {H : Hp} {h h' : Heap} {x e : Addr} {o' : HO}
private theorem HOk.write (ok : HOk P w H h) (mu : Mut (H x)) (he : e = x ∨ H e = some (.own x)) (k : ∀ b u, b ≠ e → h.get? b = some u → h'.get? b = some u) (heo : ∃ u, h'.get? e = some u)
    (new : ObjOk P w (upd H x o') h' x o') : HOk P w (upd H x o') h' := fun b u q => by
  have nown : ∀ c y, H c = some (.own y) → c ≠ x := fun c y r z => by subst z; rw [r] at mu; exact mu
  have ntup : ∀ c xs, H c = some (.tup xs) → c ≠ x := fun c xs r z => by subst z; rw [r] at mu; exact mu
  by_cases hb : b = x
  · subst hb; rw [upd_same] at q; cases q; exact new
  · rw [upd_ne hb] at q
    by_cases hbe : b = e
    · have q' : H b = some (.own x) := by
        rcases he with z | z
        · exact absurd (hbe.trans z) hb
        · rw [hbe]; exact z
      rw [q] at q'; cases q'
      obtain ⟨v, hv⟩ := heo
      exact ⟨v, by rw [hbe]; exact hv⟩
    · refine (ok b u q).stay (fun c v hc r => k c v ?_ r) (fun c r => by rw [upd_ne (nown c b r)]; exact r) fun c xs r => by rw [upd_ne (ntup c xs r)]; exact r
      rcases hc with rfl | hc
      · exact hbe
      · rintro rfl
        rcases he with z | z
        · exact nown c b hc z
        · rw [hc] at z; cases z; exact hb rfl
end
structure Un (fs ex : List Addr) (H H' : Hp) (h h' : Heap) : Prop where
  keep : ∀ b o, h.get? b = some o → H b = none → b ∉ fs → b ∉ ex → h'.get? b = some o
  slot : ∀ b o, h.get? b = some o → H b = none → b ∈ fs → b ∉ ex → ∃ sl, h'.get? b = some { o with slots := sl }
  free : ∀ b o, h.get? b = some o → H b = none → b ∉ ex → H' b = none
  there : ∀ b o, h.get? b = some o → b ∉ ex → ∃ o', h'.get? b = some o'
  tups : ∀ b xs, H b = some (.tup xs) → H' b = some (.tup xs)
  frzs : ∀ b o u, H b = some (.frz o u) → H' b = some (.frz o u)
  tbls : ∀ b ps, H b = some (.tbl ps) → ∃ more, H' b = some (.tbl (ps ++ more))
section
variable {fs fs' ex ex' : List Addr} {H H1 H2 : Hp} {h h1 h2 h' : Heap} {a x e : Addr} {o : HO}
private theorem Un.any (u : Un fs ex H H1 h h1) {b : Addr} {ob : Obj} (q : h.get? b = some ob) (n : H b = none) (hx : b ∉ ex) : ∃ sl, h1.get? b = some { ob with slots := sl } := by
  by_cases hb : b ∈ fs
  · exact u.slot b ob q n hb hx
  · exact ⟨ob.slots, u.keep b ob q n hb hx⟩
private theorem Un.kept (k : ∀ b u, h.get? b = some u → h'.get? b = some u) : Un fs ex H H h h' :=
  ⟨fun b ob q _ _ _ => k b ob q, fun b ob q _ _ _ => ⟨ob.slots, k b ob q⟩, fun _ _ _ n _ => n, fun b ob q _ => ⟨ob, k b ob q⟩, fun _ _ q => q, fun _ _ _ q => q, fun _ ps q => ⟨#[], by rw [q]; simp⟩⟩
private theorem Un.refl : Un fs ex H H h h := Un.kept fun _ _ q => q
private theorem Un.laid (k : ∀ b u, h.get? b = some u → h'.get? b = some u) (hp : h.objs.size ≤ a) (hn : H a = none) : Un fs ex H (upd H a o) h h' where
  keep := fun b u q _ _ _ => k b u q
  slot := fun b u q _ _ _ => ⟨u.slots, k b u q⟩
  free := fun b u q n _ => by rw [upd_ne (Nat.ne_of_lt (Nat.lt_of_lt_of_le (Heap.lt_size q) hp))]; exact n
  there := fun b u q _ => ⟨u, k b u q⟩
  tups := fun b xs q => by rw [upd_ne (ne_of_none q hn)]; exact q
  frzs := fun b u xs q => by rw [upd_ne (ne_of_none q hn)]; exact q
  tbls := fun b ps q => ⟨#[], by rw [upd_ne (ne_of_none q hn), q]; simp⟩
private theorem Un.write (mu : Mut (H x)) (he : e = x ∨ H e = some (.own x)) (k : ∀ b u, b ≠ e → h.get? b = some u → h'.get? b = some u) (heo : ∃ u, h'.get? e = some u) : Un fs ex H (upd H x o) h h' := by
  have hx : ∀ b, H b = none → b ≠ x := fun b n z => by subst z; rw [n] at mu; exact mu
  have hb : ∀ b, H b = none → b ≠ e := fun b n z => by
    subst z
    rcases he with r | r
    · exact hx b n r
    · rw [n] at r; cases r
  have hm : ∀ b u, H b = some u → ¬ Mut (some u) → b ≠ x := fun b u q nm z => by subst z; rw [q] at mu; exact nm mu
  refine ⟨fun b u q n _ _ => k b u (hb b n) q, fun b u q n _ _ => ⟨u.slots, k b u (hb b n) q⟩, fun b u q n _ => by rw [upd_ne (hx b n)]; exact n, fun b u q _ => ?_,
    fun b xs q => by rw [upd_ne (hm b _ q fun z => z)]; exact q, fun b u xs q => by rw [upd_ne (hm b _ q fun z => z)]; exact q, fun b ps q => ⟨#[], by rw [upd_ne (hm b _ q fun z => z), q]; simp⟩⟩
  by_cases hbe : b = e
  · subst hbe; exact heo
  · exact ⟨u, k b u hbe q⟩
end
noncomputable def trk (h : Heap) (H : Hp) : List Addr := (List.range h.objs.size).filter fun a => (H a).isSome
noncomputable def hidT (h : Heap) (H : Hp) : Heap := PySem.W.hideAll h (trk h H)
private theorem hidT_size (h : Heap) (H : Hp) : (hidT h H).objs.size = h.objs.size := PySem.W.hideAll_size _ _
private theorem hidT_get {h : Heap} {H : Hp} {b : Addr} {o : Obj} (e : h.get? b = some o) (n : H b = none) : (hidT h H).get? b = some o :=
  PySem.W.hideAll_get _ e fun hm => by
    have q : (H b).isSome = true := (List.mem_filter.mp hm).2
    rw [n] at q; simp at q
private theorem of_hidT {h : Heap} {H : Hp} {b : Addr} {o : Obj} (e : (hidT h H).get? b = some o) : h.get? b = some o ∧ H b = none := by
  have e' : h.get? b = some o := PySem.W.of_hideAll (trk h H) e
  refine ⟨e', ?_⟩
  cases q : H b with
  | none => rfl
  | some x =>
    have hm : b ∈ trk h H := List.mem_filter.mpr ⟨List.mem_range.mpr (Heap.lt_size e'), by simp [q]⟩
    have z : (hidT h H).get? b = none := PySem.W.hideAll_none (trk h H) hm
    rw [z] at e; cases e
end L2
namespace L2
open PySem PySem.Spec PyProof.Rows
structure Mod (K : PySem.W.Frag) (mg : Str → Option Value) (base : Heap) : Prop where
  kin : K.In base
  glob : base.Ns mainGlobals mg
  blt : ∃ mb, base.Ns builtinsNs mb ∧ ∀ x : Str, x ≠ "__name__" → mb x = bootBuiltins x
  nolimit : base.NoLimit
structure Cx where
  prog : Program
  w : World
  K : PySem.W.Frag
  mg : Str → Option Value
  base : Heap
  A : Around
  N : List Str
  s₀ : Shared
  H₀ : Hp
  env : Env
  outer : List Env
  stack : List Env
  ex : List Addr
  fn : Str → Bool
  calm : Bool
  pn : List (Addr × Obj)
  xe : Value → Shared → Prop
noncomputable def frs (l : List Env) : List Addr := l.filterMap (·.frame)
noncomputable abbrev Cx.fs (X : Cx) : List Addr := frs X.outer
noncomputable def Vis (sc : Scope) (x : Str) : Prop := sc.names.lookup x = some .local ∨ sc.names.lookup x = some .cell ∨ sc.names.lookup x = some .free
noncomputable def Loc (sc : Scope) (x : Str) : Prop := sc.names.lookup x = some .local ∨ sc.names.lookup x = some .cell
noncomputable def Look (env : Env) (h : Heap) (m : Str → Option Value) (x : Str) (u : Value) : Prop :=
  (env.kindOf x = some .local ∧ m x = some u) ∨ ((env.kindOf x = some .cell ∨ env.kindOf x = some .free) ∧ ∃ c, env.cells.lookup x = some c ∧ h.IsCell c (some u))
structure Cx.Ok (X : Cx) : Prop where
  mod : Mod X.K X.mg X.base
  kind : X.env.scope.kind = .function
  glob : X.env.globals = mainGlobals
  blt : X.env.builtins = builtinsNs
  above : X.s₀.heap.objs.size ≤ X.env.locals
  inj : ∀ x y c, X.env.cells.lookup x = some c → X.env.cells.lookup y = some c → x = y
  has : ∀ x, (X.env.kindOf x = some .cell ∨ X.env.kindOf x = some .free) → ∃ c, X.env.cells.lookup x = some c
  cab : ∀ x c, X.fn x = true → X.env.cells.lookup x = some c → X.s₀.heap.objs.size ≤ c
  hd : X.calm = true → X.A.handled = none
  frames : X.A.frames = some X.stack
  stk : X.stack = X.outer ∨ (X.stack = X.env :: X.outer ∧ X.env.frame = some X.env.locals)
  exf : ∀ b ∈ X.ex, b ≠ X.env.locals ∧ ∀ x c, X.env.cells.lookup x = some c → c ≠ b
  bs : ∀ b o, X.base.get? b = some o → X.s₀.heap.get? b = some o ∧ X.H₀ b = none
  bsz : X.base.objs.size ≤ X.s₀.heap.objs.size
  noex : ∀ b o, X.base.get? b = some o → b ∉ X.ex
  exfs : ∀ b ∈ X.ex, b ∉ X.fs
  funs : X.s₀.heap.FunFrames X.base X.outer
  frf : ∀ b ∈ X.fs, X.H₀ b = none
structure Inv (X : Cx) (pins : List (Addr × Obj)) (σ : List (Option V)) (H : Hp) (s : Shared) : Prop where
  ok : X.Ok
  os : s.os = X.s₀.os
  bare : AllBare s.gens
  base : Un X.fs X.ex X.H₀ H X.s₀.heap s.heap
  loc : ∃ m, s.heap.Ns X.env.locals m ∧ ∀ (i : Nat) (x : Str) (v : V), X.N[i]? = some x → σ[i]? = some (some v) → Vis X.env.scope x → ∃ u, RelV v u ∧ Look X.env s.heap m x u
  cell : ∀ x c, X.env.cells.lookup x = some c → ∃ v, s.heap.IsCell c v
  free : H X.env.locals = none
  freeC : ∀ x c, X.env.cells.lookup x = some c → H c = none
  pin : ∀ p ∈ X.pn ++ pins, s.heap.get? p.1 = some p.2 ∧ H p.1 = none ∧ p.1 ≠ X.env.locals ∧ p.1 ∉ X.fs ∧ ∀ v, p.2.data ≠ .cell v
  hok : HOk X.prog X.w H s.heap
  len : σ.length = X.N.length
section
variable {X : Cx} {pins : List (Addr × Obj)} {σ : List (Option V)} {H H' : Hp} {s : Shared} {h' : Heap}
private theorem Cx.Ok.nofr (ok : X.Ok) {b : Addr} {o : Obj} (e : X.base.get? b = some o) : b ∉ X.fs := fun hb => by
  have := (ok.funs.mem hb).1
  rw [e] at this; cases this
private theorem Inv.bs (I : Inv X pins σ H s) : ∀ b o, X.base.get? b = some o → s.heap.get? b = some o ∧ H b = none := fun b o e =>
  ⟨I.base.keep b o (I.ok.bs b o e).1 (I.ok.bs b o e).2 (I.ok.nofr e) (I.ok.noex b o e), I.base.free b o (I.ok.bs b o e).1 (I.ok.bs b o e).2 (I.ok.noex b o e)⟩
private theorem Inv.bk (I : Inv X pins σ H s) : ∀ b o, X.base.get? b = some o → s.heap.get? b = some o := fun b o e => (I.bs b o e).1
private theorem Inv.mod (I : Inv X pins σ H s) : Mod X.K X.mg X.base := I.ok.mod
private theorem Inv.kIn (I : Inv X pins σ H s) : X.K.In s.heap := I.ok.mod.kin.keeps I.bk
private theorem Inv.lt (I : Inv X pins σ H s) : X.env.locals < s.heap.objs.size := let ⟨_, hn, _⟩ := I.loc; hn.lt
private theorem Inv.sz (I : Inv X pins σ H s) : X.s₀.heap.objs.size ≤ s.heap.objs.size := Nat.le_trans I.ok.above (Nat.le_of_lt I.lt)
private theorem Inv.nofs (I : Inv X pins σ H s) {a : Addr} (h : s.heap.objs.size ≤ a) : a ∉ X.fs := fun hb => by
  obtain ⟨_, o, ho, _⟩ := I.ok.funs.mem hb
  exact absurd (Nat.lt_of_lt_of_le (Heap.lt_size ho) (Nat.le_trans I.sz h)) (Nat.lt_irrefl _)
private theorem Inv.cne (I : Inv X pins σ H s) : ∀ x c, X.env.cells.lookup x = some c → c ≠ X.env.locals := fun x c e z => by
  obtain ⟨v, o, ho, hd⟩ := I.cell x c e
  obtain ⟨m, ⟨o', es, ep, ho', hd', _⟩, _⟩ := I.loc
  rw [z, ho'] at ho; cases ho; rw [hd'] at hd; cases hd
private theorem Inv.funs (I : Inv X pins σ H s) : s.heap.FunFrames X.base X.outer := by
  have all : ∀ (l : List Env), (∀ b ∈ frs l, b ∈ X.fs) → X.s₀.heap.FunFrames X.base l → s.heap.FunFrames X.base l := by
    intro l
    induction l with
    | nil => intro _ _; trivial
    | cons env r ih =>
      intro hs hl
      obtain ⟨hk, ⟨L, o, hf, hn, ho, hd⟩, hr⟩ := hl
      have hL : L ∈ X.fs := hs L (by unfold frs; rw [List.filterMap_cons, hf]; exact List.mem_cons_self)
      obtain ⟨sl, e⟩ := I.base.slot L o ho (I.ok.frf L hL) hL fun z => I.ok.exfs L z hL
      exact ⟨hk, ⟨L, _, hf, hn, e, hd⟩, ih (fun b hb => hs b (by unfold frs; rw [List.filterMap_cons, hf]; exact List.mem_cons_of_mem _ hb)) hr⟩
  exact all X.outer (fun _ hb => hb) I.ok.funs
private theorem Inv.stack (I : Inv X pins σ H s) : s.heap.FunFrames X.base X.stack := by
  rcases I.ok.stk with e | ⟨e, hf⟩
  · rw [e]; exact I.funs
  · rw [e]
    obtain ⟨m, hn, _⟩ := I.loc
    refine .cons (by rw [I.ok.kind]; decide) hf hn ?_ I.funs
    exact Heap.get?_none_of_le (Nat.le_trans I.ok.bsz I.ok.above)
private theorem Inv.stkSub (I : Inv X pins σ H s) : ∀ b ∈ frs X.stack, b ∈ X.env.locals :: X.fs := fun b hb => by
  rcases I.ok.stk with e | ⟨e, hf⟩
  · rw [e] at hb; exact List.mem_cons_of_mem _ hb
  · rw [e] at hb
    unfold frs at hb
    rw [List.filterMap_cons, hf] at hb
    exact hb
private theorem Inv.stkFree (I : Inv X pins σ H s) : ∀ b ∈ frs X.stack, H b = none := fun b hb => by
  rcases List.mem_cons.mp (I.stkSub b hb) with e | hb
  · rw [e]; exact I.free
  · obtain ⟨_, o, ho, _⟩ := I.ok.funs.mem hb
    exact I.base.free b o ho (I.ok.frf b hb) fun z => I.ok.exfs b z hb
private theorem Inv.step {g' : Array GenState} {t' : Nat} {d' : Drawn} {ch : List Addr} (I : Inv X pins σ H s)
    (hch : ∀ b ∈ ch, (b ∈ X.ex ∨ X.s₀.heap.objs.size ≤ b) ∧ b ≠ X.env.locals ∧ (∀ x c, X.env.cells.lookup x = some c → c ≠ b) ∧ ∀ p ∈ X.pn ++ pins, p.1 ≠ b)
    (keep : ∀ b o, b ≠ X.env.locals → b ∉ X.fs → b ∉ ch → s.heap.get? b = some o → H b = none → h'.get? b = some o)
    (slot : ∀ b o, b ≠ X.env.locals → b ∈ X.fs → b ∉ ch → s.heap.get? b = some o → H b = none → ∃ sl, h'.get? b = some { o with slots := sl }) (free : ∀ b o, b ∉ ch → s.heap.get? b = some o → H b = none → H' b = none)
    (there : ∀ b o, b ∉ ch → s.heap.get? b = some o → ∃ o', h'.get? b = some o')
    (tups : ∀ b xs, H b = some (.tup xs) → H' b = some (.tup xs)) (frzs : ∀ b o u, H b = some (.frz o u) → H' b = some (.frz o u)) (tbls : ∀ b ps, H b = some (.tbl ps) → ∃ more, H' b = some (.tbl (ps ++ more)))
    (ns : ∀ m, s.heap.Ns X.env.locals m → h'.Ns X.env.locals m) (hok : HOk X.prog X.w H' h') (hg : AllBare g') :
    Inv X pins σ H' { s with heap := h', gens := g', drawn := d', toks := t' } := by
  have neL : ∀ b o, X.s₀.heap.get? b = some o → b ≠ X.env.locals := fun b o e => Nat.ne_of_lt (Nat.lt_of_lt_of_le (Heap.lt_size e) I.ok.above)
  have neC : ∀ b o, X.s₀.heap.get? b = some o → b ∉ X.ex → b ∉ ch := fun b o e hx hb => by
    rcases (hch b hb).1 with z | z
    · exact hx z
    · exact absurd (Nat.lt_of_lt_of_le (Heap.lt_size e) z) (Nat.lt_irrefl _)
  have cellK : ∀ x c, X.env.cells.lookup x = some c → ∀ v, s.heap.IsCell c v → h'.IsCell c v := fun x c e v ⟨o, ho, hd⟩ => by
    have nch : c ∉ ch := fun z => (hch c z).2.2.1 x c e rfl
    by_cases hc : c ∈ X.fs
    · obtain ⟨sl, q⟩ := slot c o (I.cne x c e) hc nch ho (I.freeC x c e)
      exact ⟨_, q, hd⟩
    · exact ⟨o, keep c o (I.cne x c e) hc nch ho (I.freeC x c e), hd⟩
  refine ⟨I.ok, I.os, hg, ⟨fun b o e n hb hx => ?_, fun b o e n hb hx => ?_, fun b o e n hx => ?_, fun b o e hx => ?_, fun b xs e => tups b xs (I.base.tups b xs e), fun b o xs e => frzs b o xs (I.base.frzs b o xs e), fun b ps e => ?_⟩, ?_, fun x c e => ?_, ?_, fun x c e => ?_, fun p hp => ?_, hok, I.len⟩
  · exact keep b o (neL b o e) hb (neC b o e hx) (I.base.keep b o e n hb hx) (I.base.free b o e n hx)
  · obtain ⟨sl, e1⟩ := I.base.slot b o e n hb hx
    obtain ⟨sl', e2⟩ := slot b _ (neL b o e) hb (neC b o e hx) e1 (I.base.free b o e n hx)
    exact ⟨sl', e2⟩
  · obtain ⟨o', e1⟩ := I.base.there b o e hx
    exact free b o' (neC b o e hx) e1 (I.base.free b o e n hx)
  · obtain ⟨o', e1⟩ := I.base.there b o e hx
    exact there b o' (neC b o e hx) e1
  · obtain ⟨m1, e1⟩ := I.base.tbls b ps e
    obtain ⟨m2, e2⟩ := tbls b _ e1
    exact ⟨m1 ++ m2, by rw [e2, Array.append_assoc]⟩
  · obtain ⟨m, hn, hl⟩ := I.loc
    refine ⟨m, ns m hn, fun i x v e1 e2 e3 => ?_⟩
    obtain ⟨u, r, l⟩ := hl i x v e1 e2 e3
    refine ⟨u, r, ?_⟩
    rcases l with l | ⟨k, c, e, z⟩
    · exact .inl l
    · exact .inr ⟨k, c, e, cellK x c e _ z⟩
  · obtain ⟨v, z⟩ := I.cell x c e
    exact ⟨v, cellK x c e v z⟩
  · obtain ⟨m, ⟨o, _, _, ho, _⟩, _⟩ := I.loc
    exact free _ o (fun z => (hch _ z).2.1 rfl) ho I.free
  · obtain ⟨v, o, ho, hd⟩ := I.cell x c e
    exact free c o (fun z => (hch c z).2.2.1 x c e rfl) ho (I.freeC x c e)
  · obtain ⟨e, n, ne, nf, d⟩ := I.pin p hp
    have nch : p.1 ∉ ch := fun z => (hch p.1 z).2.2.2 p hp rfl
    exact ⟨keep p.1 p.2 ne nf nch e n, free p.1 p.2 nch e n, ne, nf, d⟩
private theorem Inv.un {t' : Nat} (I : Inv X pins σ H s) (u : Un X.fs [] H H' s.heap h') (hok : HOk X.prog X.w H' h') : Inv X pins σ H' { s with heap := h', toks := t' } := by
  obtain ⟨m, ⟨o, es, ep, ho, r⟩, _⟩ := id I.loc
  obtain ⟨sl, hL⟩ := u.any ho I.free (by simp)
  exact I.step (g' := s.gens) (d' := s.drawn) (ch := []) (fun _ z => nomatch z) (fun b o _ hb _ e n => u.keep b o e n hb (by simp)) (fun b o _ hb _ e n => u.slot b o e n hb (by simp)) (fun b o _ e n => u.free b o e n (by simp)) (fun b o _ e => u.there b o e (by simp)) u.tups u.frzs u.tbls (fun m' hm => by
    obtain ⟨o', es', ep', ho', r'⟩ := hm
    rw [ho] at ho'; cases ho'
    exact ⟨_, es', ep', hL, r'⟩) hok I.bare
private theorem Inv.call {g' : Array GenState} {t' : Nat} {d' : Drawn} {ch : List Addr} (I : Inv X pins σ H s) (u : Un (frs X.stack) ch H H' s.heap h') (hok : HOk X.prog X.w H' h') (hg : AllBare g')
    (hch : ∀ b ∈ ch, (b ∈ X.ex ∨ X.s₀.heap.objs.size ≤ b) ∧ b ≠ X.env.locals ∧ (∀ x c, X.env.cells.lookup x = some c → c ≠ b) ∧ ∀ p ∈ X.pn ++ pins, p.1 ≠ b) :
    Inv X pins σ H' { s with heap := h', gens := g', drawn := d', toks := t' } := by
  obtain ⟨m, ⟨o, es, ep, ho, r⟩, _⟩ := id I.loc
  obtain ⟨sl, hL⟩ := u.any ho I.free fun z => (hch _ z).2.1 rfl
  exact I.step (ch := ch) hch (fun b o hL hb hc e n => u.keep b o e n (fun z => (List.mem_cons.mp (I.stkSub b z)).elim hL hb) hc) (fun b o _ _ hc e n => u.any e n hc) (fun b o hc e n => u.free b o e n hc) (fun b o hc e => u.there b o e hc) u.tups u.frzs u.tbls (fun m' hm => by
    obtain ⟨o', es', ep', ho', r'⟩ := hm
    rw [ho] at ho'; cases ho'
    exact ⟨_, es', ep', hL, r'⟩) hok hg
private theorem Inv.turned {t' : Nat} {it : Addr} (I : Inv X pins σ H s) (k : ∀ b o, b ≠ it → s.heap.get? b = some o → h'.get? b = some o) (hn : H it = none) (hL : it ≠ X.env.locals)
    (h1 : it ∈ X.ex ∨ X.s₀.heap.objs.size ≤ it) (h2 : ∀ x c, X.env.cells.lookup x = some c → c ≠ it) (h3 : ∀ p ∈ X.pn ++ pins, p.1 ≠ it) : Inv X pins σ H { s with heap := h', toks := t' } := by
  have nit : ∀ b u, H b = some u → b ≠ it := fun b u e z => by rw [z, hn] at e; cases e
  refine I.step (g' := s.gens) (d' := s.drawn) (ch := [it]) (fun b hb => ?_) (fun b o _ _ hc e _ => k b o (fun z => hc (by simp [z])) e) (fun b o _ _ hc e _ => ⟨o.slots, k b o (fun z => hc (by simp [z])) e⟩) (fun _ _ _ _ n => n)
    (fun b o hc e => ⟨o, k b o (fun z => hc (by simp [z])) e⟩) (fun _ _ e => e) (fun _ _ _ e => e) (fun b ps e => ⟨#[], by rw [e]; simp⟩) (fun m hm => ?_) (fun b u e => ?_) I.bare
  · have e : b = it := by simpa using hb
    subst e
    exact ⟨h1, hL, h2, h3⟩
  · obtain ⟨o, es, ep, ho, r⟩ := hm
    exact ⟨o, es, ep, k _ o (Ne.symm hL) ho, r⟩
  · refine (I.hok b u e).stay (fun c v hc q => k c v ?_ q) (fun _ q => q) fun _ _ q => q
    rcases hc with z | z
    · rw [z]; exact nit b u e
    · exact nit c _ z
private theorem Inv.tok (I : Inv X pins σ H s) (t : Nat) : Inv X pins σ H { s with toks := t } := I.un (h' := s.heap) (t' := t) Un.refl I.hok
private theorem Inv.kept {t' : Nat} (I : Inv X pins σ H s) (k : ∀ b u, s.heap.get? b = some u → h'.get? b = some u) : Inv X pins σ H { s with heap := h', toks := t' } := I.un (Un.kept k) (I.hok.kept k)
private theorem Inv.laid {a : Addr} {o : HO} {t' : Nat} (I : Inv X pins σ H s) (k : ∀ b u, s.heap.get? b = some u → h'.get? b = some u) (hp : s.heap.objs.size ≤ a) (new : ObjOk X.prog X.w (upd H a o) h' a o) :
    Inv X pins σ (upd H a o) { s with heap := h', toks := t' } := I.un (Un.laid k hp (I.hok.fresh hp)) (I.hok.laid k hp new)
private theorem Inv.write {x e : Addr} {o : HO} {t' : Nat} (I : Inv X pins σ H s) (mu : Mut (H x)) (he : e = x ∨ H e = some (.own x)) (k : ∀ b u, b ≠ e → s.heap.get? b = some u → h'.get? b = some u) (heo : ∃ u, h'.get? e = some u)
    (new : ObjOk X.prog X.w (upd H x o) h' x o) : Inv X pins σ (upd H x o) { s with heap := h', toks := t' } := I.un (Un.write mu he k heo) (I.hok.write mu he k heo new)
private theorem Inv.pins_of {pins' : List (Addr × Obj)} (I : Inv X pins σ H s) (h : ∀ p ∈ pins', s.heap.get? p.1 = some p.2 ∧ H p.1 = none ∧ p.1 ≠ X.env.locals ∧ p.1 ∉ X.fs ∧ ∀ v, p.2.data ≠ .cell v) : Inv X pins' σ H s :=
  ⟨I.ok, I.os, I.bare, I.base, I.loc, I.cell, I.free, I.freeC, fun p hp => (List.mem_append.mp hp).elim (fun z => I.pin p (List.mem_append_left _ z)) (h p), I.hok, I.len⟩
private theorem nodup_ix {N : List Str} (hN : N.Nodup) {i j : Nat} {x : Str} (a : N[i]? = some x) (b : N[j]? = some x) : i = j := by
  obtain ⟨h1, e1⟩ := List.getElem?_eq_some_iff.mp a
  obtain ⟨h2, e2⟩ := List.getElem?_eq_some_iff.mp b
  exact (List.getElem_inj hN).mp (e1.trans e2.symm)
private theorem store_ok2 {M : Model} {A : Around} {E : Value → Shared → Prop} {i : Nat} {x : Str} {v : V} {u : Value} {Q : Unit → Shared → Prop} (I : Inv X pins σ H s) (hN : X.N.Nodup) (hi : X.N[i]? = some x) (hx : Loc X.env.scope x) (r : RelV v u)
    (h : ∀ s', Inv X pins (σ.set i (some v)) H s' → (∃ a, Heap.SameBut a s.heap s'.heap ∧ (a = X.env.locals ∨ X.env.cells.lookup x = some a)) → Q () s') (hf : X.fn x = true ∨ X.env.scope.names.lookup x = some .local := by first | exact .inl rfl | exact .inr rfl | assumption) : wpAny M A (storeName X.env x u) Q E s := by
  obtain ⟨m, hn, hl⟩ := id I.loc
  have hcls : (X.env.scope.kind == .class || (X.env.scope.kind == .module && X.env.locals != X.env.globals)) = false := by rw [I.ok.kind]; rfl
  have hiσ : i < σ.length := by rw [I.len]; exact (List.getElem?_eq_some_iff.mp hi).1
  have cne := I.cne
  have tracked : ∀ {a : Addr} {h' : Heap}, (∃ o, s.heap.get? a = some o ∧ H a = none) → Heap.SameBut a s.heap h' → HOk X.prog X.w H h' := fun {a h'} ha hs b ob e => by
    obtain ⟨_, _, hfree⟩ := ha
    refine (I.hok b ob e).stay (fun c w' hc q => (hs.2 c ?_).trans q) (fun _ q => q) fun _ _ q => q
    rintro rfl
    rcases hc with rfl | hc
    · rw [hfree] at e; cases e
    · rw [hfree] at hc; cases hc
  rcases hx with hk | hk
  · refine wpAny_storeName_local hk hn (fun h' hn' hs => ?_) hcls
    obtain ⟨oL, _, _, hoL, _⟩ := id hn
    refine h _ ⟨I.ok, I.os, I.bare, ⟨fun b o e n hb hx => ?_, fun b o e n hb hx => ?_, I.base.free, fun b o e hx => ?_, I.base.tups, I.base.frzs, I.base.tbls⟩, ⟨_, hn', fun j y v' e1 e2 e3 => ?_⟩, fun y c e => ?_, I.free, I.freeC, fun p hp => ?_, tracked ⟨oL, hoL, I.free⟩ hs, by simpa using I.len⟩ ⟨_, hs, .inl rfl⟩
    · exact (hs.2 b (Nat.ne_of_lt (Nat.lt_of_lt_of_le (Heap.lt_size e) I.ok.above))).trans (I.base.keep b o e n hb hx)
    · obtain ⟨sl, e1⟩ := I.base.slot b o e n hb hx
      exact ⟨sl, (hs.2 b (Nat.ne_of_lt (Nat.lt_of_lt_of_le (Heap.lt_size e) I.ok.above))).trans e1⟩
    · obtain ⟨o', e1⟩ := I.base.there b o e hx
      exact ⟨o', (hs.2 b (Nat.ne_of_lt (Nat.lt_of_lt_of_le (Heap.lt_size e) I.ok.above))).trans e1⟩
    · by_cases hj : j = i
      · subst hj
        rw [hi] at e1; cases e1
        rw [List.getElem?_set_self hiσ] at e2
        cases e2
        exact ⟨u, r, .inl ⟨hk, by simp⟩⟩
      · rw [List.getElem?_set_ne (Ne.symm hj)] at e2
        obtain ⟨u', r', q⟩ := hl j y v' e1 e2 e3
        refine ⟨u', r', ?_⟩
        rcases q with ⟨k, e⟩ | ⟨k, c, e, z⟩
        · refine .inl ⟨k, ?_⟩
          have : y ≠ x := fun e => hj (nodup_ix hN e1 (e ▸ hi))
          simp [this, e]
        · exact .inr ⟨k, c, e, z.sameBut hs (cne y c e)⟩
    · obtain ⟨w', z⟩ := I.cell y c e
      exact ⟨w', z.sameBut hs (cne y c e)⟩
    · obtain ⟨e, n, ne, nf, d⟩ := I.pin p hp
      exact ⟨(hs.2 p.1 ne).trans e, n, ne, nf, d⟩
  · have hfn : X.fn x = true := by
      rcases hf with z | z
      · exact z
      · rw [z] at hk; cases hk
    obtain ⟨c, hc⟩ := I.ok.has x (.inl hk)
    obtain ⟨w', z⟩ := I.cell x c hc
    refine wpAny_storeName_cell I.ok.kind hk hc z (fun h' hc' hs => ?_)
    obtain ⟨oc, hoc, hocd⟩ := id z
    refine h { s with heap := h' } ⟨I.ok, I.os, I.bare, ⟨fun b o e n hb hx => ?_, fun b o e n hb hx => ?_, I.base.free, fun b o e hx => ?_, I.base.tups, I.base.frzs, I.base.tbls⟩, ⟨m, hn.sameBut hs (Ne.symm (cne x c hc)), fun j y v' e1 e2 e3 => ?_⟩, fun y c' e => ?_, I.free, I.freeC, fun p hp => ?_, tracked ⟨oc, hoc, I.freeC x c hc⟩ hs, by simpa using I.len⟩ ⟨c, hs, .inr hc⟩
    · exact (hs.2 b (Nat.ne_of_lt (Nat.lt_of_lt_of_le (Heap.lt_size e) (I.ok.cab x c hfn hc)))).trans (I.base.keep b o e n hb hx)
    · obtain ⟨sl, e1⟩ := I.base.slot b o e n hb hx
      exact ⟨sl, (hs.2 b (Nat.ne_of_lt (Nat.lt_of_lt_of_le (Heap.lt_size e) (I.ok.cab x c hfn hc)))).trans e1⟩
    · obtain ⟨o', e1⟩ := I.base.there b o e hx
      exact ⟨o', (hs.2 b (Nat.ne_of_lt (Nat.lt_of_lt_of_le (Heap.lt_size e) (I.ok.cab x c hfn hc)))).trans e1⟩
    · by_cases hj : j = i
      · subst hj
        rw [hi] at e1; cases e1
        rw [List.getElem?_set_self hiσ] at e2
        cases e2
        exact ⟨u, r, .inr ⟨.inl hk, c, hc, hc'⟩⟩
      · rw [List.getElem?_set_ne (Ne.symm hj)] at e2
        obtain ⟨u', r', q⟩ := hl j y v' e1 e2 e3
        refine ⟨u', r', ?_⟩
        rcases q with q | ⟨k, c', e, z'⟩
        · exact .inl q
        · refine .inr ⟨k, c', e, z'.sameBut hs ?_⟩
          rintro rfl
          exact hj (nodup_ix hN e1 (I.ok.inj _ _ _ e hc ▸ hi))
    · by_cases hcc : c' = c
      · subst hcc; exact ⟨_, hc'⟩
      · obtain ⟨w2, z2⟩ := I.cell y c' e
        exact ⟨w2, z2.sameBut hs hcc⟩
    · obtain ⟨e, n, ne, nf, d⟩ := I.pin p hp
      refine ⟨(hs.2 p.1 ?_).trans e, n, ne, nf, d⟩
      intro q
      rw [q, hoc] at e
      have q' : oc = p.2 := Option.some.inj e
      exact d w' (by rw [← q']; exact hocd)
private theorem store_ok {M : Model} {A : Around} {E : Value → Shared → Prop} {i : Nat} {x : Str} {v : V} {u : Value} {Q : Unit → Shared → Prop} (I : Inv X pins σ H s) (hN : X.N.Nodup) (hi : X.N[i]? = some x) (hx : Loc X.env.scope x) (r : RelV v u)
    (h : ∀ s', Inv X pins (σ.set i (some v)) H s' → Q () s') (hf : X.fn x = true ∨ X.env.scope.names.lookup x = some .local := by first | exact .inl rfl | exact .inr rfl | assumption) : wpAny M A (storeName X.env x u) Q E s :=
  store_ok2 I hN hi hx r (fun s' I' _ => h s' I') hf
private theorem Inv.call' {s' : Shared} {ch : List Addr} (I : Inv X pins σ H s) (ho : s'.os = s.os) (u : Un (frs X.stack) ch H H' s.heap s'.heap) (hok : HOk X.prog X.w H' s'.heap) (hg : AllBare s'.gens)
    (hch : ∀ b ∈ ch, (b ∈ X.ex ∨ X.s₀.heap.objs.size ≤ b) ∧ b ≠ X.env.locals ∧ (∀ x c, X.env.cells.lookup x = some c → c ≠ b) ∧ ∀ p ∈ X.pn ++ pins, p.1 ≠ b) : Inv X pins σ H' s' := by
  obtain ⟨h', g', d', t', o'⟩ := s'
  have e : o' = s.os := ho
  subst e
  exact I.call (g' := g') (t' := t') (d' := d') u hok hg hch
end
noncomputable abbrev XK := Value → Option Addr → Hp → Prop
noncomputable abbrev St := List (Option V)
noncomputable abbrev VK := V → Hp → Prop
noncomputable abbrev TE := St → Hp → VK → Prop
noncomputable abbrev TT := St → Hp → (Bool → Hp → Prop) → Prop
noncomputable abbrev TA := St → Hp → (List V → Hp → Prop) → Prop
structure Ends where
  nx : St → Hp → Prop
  rt : VK
  bk : St → Hp → Prop := fun _ _ => False
  ct : St → Hp → Prop := fun _ _ => False
noncomputable abbrev TS := Ends → St → Hp → Prop
noncomputable def EP (X : Cx) (pins : List (Addr × Obj)) (σ : St) (Q : VK) (u : Value) (s' : Shared) : Prop := ∃ v H', Inv X pins σ H' s' ∧ RelV v u ∧ Q v H'
noncomputable def TP (X : Cx) (pins : List (Addr × Obj)) (σ : St) (Q : Bool → Hp → Prop) (b : Bool) (s' : Shared) : Prop := ∃ H', Inv X pins σ H' s' ∧ Q b H'
noncomputable def AP (X : Cx) (pins : List (Addr × Obj)) (σ : St) (Q : List V → Hp → Prop) (us : List Value) (s' : Shared) : Prop := ∃ vs H', Inv X pins σ H' s' ∧ Vals vs us ∧ Q vs H'
noncomputable def SP (X : Cx) (pins : List (Addr × Obj)) (D : Ends) (f : Flow) (s' : Shared) : Prop :=
  match f with
  | .next => ∃ σ' H', Inv X pins σ' H' s' ∧ D.nx σ' H'
  | .brk => ∃ σ' H', Inv X pins σ' H' s' ∧ D.bk σ' H'
  | .cont => ∃ σ' H', Inv X pins σ' H' s' ∧ D.ct σ' H'
  | .ret u => ∃ v σ' H', Inv X pins σ' H' s' ∧ RelV v u ∧ D.rt v H'
noncomputable def PE (X : Cx) (e : Expr) (t : TE) : Prop :=
  ∀ (pins : List (Addr × Obj)) (s : Shared) (σ : St) (H : Hp) (Q : VK), Inv X pins σ H s → t σ H Q → wpAny (model X.prog X.w) X.A (eval e X.env) (EP X pins σ Q) X.xe s
noncomputable def PT (X : Cx) (e : Expr) (t : TT) : Prop :=
  ∀ (pins : List (Addr × Obj)) (s : Shared) (σ : St) (H : Hp) (Q : Bool → Hp → Prop), Inv X pins σ H s → t σ H Q → wpAny (model X.prog X.w) X.A (isTrue e X.env (eval e X.env)) (TP X pins σ Q) X.xe s
noncomputable def PW (X : Cx) (e : Expr) (t : TT) : Prop :=
  ∀ (whole : Sem Value) (pins : List (Addr × Obj)) (s : Shared) (σ : St) (H : Hp) (Q : Bool → Hp → Prop), Inv X pins σ H s → t σ H Q → wpAny (model X.prog X.w) X.A (isTrue e X.env whole) (TP X pins σ Q) X.xe s
private theorem PW.pt {X : Cx} {e : Expr} {t : TT} (h : PW X e t) : PT X e t := h _
noncomputable def PA (X : Cx) (es : List Expr) (t : TA) : Prop :=
  ∀ (pos : Pos) (pins : List (Addr × Obj)) (s : Shared) (σ : St) (H : Hp) (Q : List V → Hp → Prop), Inv X pins σ H s → t σ H Q → wpAny (model X.prog X.w) X.A (spliced (backTo pos (starEach es X.env))) (AP X pins σ Q) X.xe s
noncomputable def PS (X : Cx) (st : Stmt) (t : TS) : Prop :=
  ∀ (pins : List (Addr × Obj)) (s : Shared) (σ : St) (H : Hp) (D : Ends), Inv X pins σ H s → t D σ H → wpAny (model X.prog X.w) X.A (exec st X.env) (SP X pins D) X.xe s
noncomputable def PSs (X : Cx) (st : List Stmt) (t : TS) : Prop :=
  ∀ (pins : List (Addr × Obj)) (s : Shared) (σ : St) (H : Hp) (D : Ends), Inv X pins σ H s → t D σ H → wpAny (model X.prog X.w) X.A (execs st X.env) (SP X pins D) X.xe s
private theorem thn {α : Type} {t : Sem α} {Q Q' : α → Shared → Prop} {M : Model} {A : Around} {E : Value → Shared → Prop} {s : Shared} (h : wpAny M A t Q E s) (hQ : ∀ a s, Q a s → Q' a s) : wpAny M A t Q' E s := wpAny_mono h hQ fun _ _ x => x
end L2
namespace L2
open PySem PySem.Spec PyProof.Rows
section
variable {X : Cx}
noncomputable def tVar (i : Nat) : TE := fun σ H Q => ∃ v, σ[i]? = some (some v) ∧ Q v H
noncomputable def tC (v : V) : TE := fun _ H Q => Q v H
private theorem pe_var {i : Nat} {x : Str} {pos : Pos} (hN : X.N[i]? = some x) (hv : Vis X.env.scope x) (hd : (x == ("__debug__" : Str)) = false := by decide) (hcd : (x == ("__classdict__" : Str)) = false := by decide) : PE X (.Name x pos) (tVar i) := by
  intro pins s σ H Q I h
  obtain ⟨v, e, h⟩ := h
  obtain ⟨m, hn, hl⟩ := I.loc
  obtain ⟨u, r, l⟩ := hl i x v hN e hv
  have fin : EP X pins σ Q u s := ⟨v, H, I, r, h⟩
  rcases l with ⟨hk, hm⟩ | ⟨hk, c, hc, hcell⟩
  · exact wpAny_Name (wpAny_loadName_local I.ok.kind hk hn hm fin) hd
  · rcases hk with hk | hk
    · exact wpAny_Name (wpAny_loadName_cell I.ok.kind hk hc hcell fin) hd
    · exact wpAny_Name (wpAny_loadName_free I.ok.kind hk hc hcell fin hcd) hd
private theorem pe_int {i j pos} : PE X (.Constant (.int i) j pos) (tC (.int i)) := fun _ _ _ H _ I h => wpAny_Constant_int ⟨.int i, H, I.tok _, ⟨_, rfl⟩, h⟩
private theorem pe_bl {b j pos} : PE X (.Constant (.bool b) j pos) (tC (.bl b)) := fun _ _ _ H _ I h => Constant_bool ⟨.bl b, H, I, rfl, h⟩
private theorem pe_non {j pos} : PE X (.Constant .none j pos) (tC .non) := fun _ _ _ H _ I h => Constant_none ⟨.non, H, I, rfl, h⟩
private theorem pe_str {x j pos} : PE X (.Constant (.str x) j pos) (tC (.str x)) := fun _ _ _ H _ I h => Calls.Constant_str ⟨.str x, H, I.tok _, ⟨_, rfl⟩, h⟩
noncomputable def Gl (X : Cx) (x : Str) : Prop := X.env.kindOf x = some .globalImplicit
private theorem ld_glob {E : Value → Shared → Prop} {pins : List (Addr × Obj)} {s : Shared} {σ : St} {H : Hp} {x : Str} {u : Value} {pos : Pos} {Q : Value → Shared → Prop} (I : Inv X pins σ H s) (hg : Gl X x) (hm : X.mg x = some u) (h : Q u s)
    (hd : (x == ("__debug__" : Str)) = false := by decide) : wpAny (model X.prog X.w) X.A (eval (.Name x pos) X.env) Q E s :=
  Calls.Name_function_global I.ok.kind hg (Calls.loadGlobal_global (by rw [I.ok.glob]; exact I.mod.glob.keeps I.bk) hm h) hd
private theorem ld_blt {E : Value → Shared → Prop} {pins : List (Addr × Obj)} {s : Shared} {σ : St} {H : Hp} {x : Str} {u : Value} {pos : Pos} {Q : Value → Shared → Prop} (I : Inv X pins σ H s) (hg : Gl X x) (hm : X.mg x = none) (hv : bootBuiltins x = some u) (h : Q u s)
    (hn : x ≠ "__name__" := by decide) (hd : (x == ("__debug__" : Str)) = false := by decide) : wpAny (model X.prog X.w) X.A (eval (.Name x pos) X.env) Q E s := by
  obtain ⟨mb, h1, h2⟩ := I.mod.blt
  exact Calls.Name_function_global I.ok.kind hg (Calls.loadGlobal_builtin (by rw [I.ok.glob]; exact I.mod.glob.keeps I.bk) hm (by rw [I.ok.blt]; exact h1.keeps I.bk) ((h2 x hn).trans hv) h) hd
private theorem pe_bltn {x : Str} {v : V} {u : Value} {pos : Pos} (hg : Gl X x) (hm : X.mg x = none) (hv : bootBuiltins x = some u) (r : RelV v u) (hn : x ≠ "__name__" := by decide) (hd : (x == ("__debug__" : Str)) = false := by decide) : PE X (.Name x pos) (tC v) :=
  fun _ _ _ H _ I h => ld_blt I hg hm hv ⟨v, H, I, r, h⟩ hn hd
variable {a b : Expr} {ta tb : TE} {pos : Pos}
noncomputable def tB (t : TE) : TT := fun σ H Q => t σ H fun x H1 => ∃ c, x = .bl c ∧ Q c H1
private theorem pt_val {e : Expr} {t : TE} (h : PE X e t) (he : ∀ whole, isTrue e X.env whole = (do let v ← whole; standAt e.pos; holding [v] (truthy v)) := by intro _; rfl) : PT X e (tB t) := by
  intro pins s σ H Q I hw
  refine isTrue_plain (thn (h pins s σ H _ I hw) fun v s1 zz7 => e23 zz7 fun x H1 I1 r1 q1 => ?_) (he _)
  obtain ⟨d, rfl, q⟩ := q1
  cases r1
  exact wpAny_truthy_bool ⟨H1, I1, q⟩
variable {tA tB' : TT} {rest : List Expr}
noncomputable def tAnd (t u : TT) : TT := fun σ H Q => t σ H fun c H1 => if c = true then u σ H1 Q else Q false H1
noncomputable def tOr (t u : TT) : TT := fun σ H Q => t σ H fun c H1 => if c = true then Q true H1 else u σ H1 Q
noncomputable def tNot (t : TT) : TT := fun σ H Q => t σ H fun c H1 => Q (!c) H1
private theorem pw_and1 (ha : PT X a tA) : PW X (.BoolOp .And [a] pos) tA := by
  intro wh pins s σ H Q I h
  refine isTrue_and (thn (ha pins s σ H Q I h) fun c s1 e => ?_)
  cases c with
  | true => exact isTrue_and_nil e
  | false => exact e
private theorem pw_or1 (ha : PT X a tA) : PW X (.BoolOp .Or [a] pos) tA := by
  intro wh pins s σ H Q I h
  refine isTrue_or (thn (ha pins s σ H Q I h) fun c s1 e => ?_)
  cases c with
  | false => exact isTrue_or_nil e
  | true => exact e
private theorem pw_and (ha : PT X a tA) (hb : PW X (.BoolOp .And (b :: rest) pos) tB') : PW X (.BoolOp .And (a :: b :: rest) pos) (tAnd tA tB') := by
  intro wh pins s σ H Q I h
  refine isTrue_and (thn (ha pins s σ H _ I h) fun c s1 zz8 => e12 zz8 fun H1 I1 q1 => ?_)
  cases c with
  | true => exact hb wh pins s1 σ H1 Q I1 q1
  | false => exact ⟨H1, I1, q1⟩
private theorem pw_or (ha : PT X a tA) (hb : PW X (.BoolOp .Or (b :: rest) pos) tB') : PW X (.BoolOp .Or (a :: b :: rest) pos) (tOr tA tB') := by
  intro wh pins s σ H Q I h
  refine isTrue_or (thn (ha pins s σ H _ I h) fun c s1 zz9 => e12 zz9 fun H1 I1 q1 => ?_)
  cases c with
  | true => exact ⟨H1, I1, q1⟩
  | false => exact hb wh pins s1 σ H1 Q I1 q1
private theorem pt_not (ha : PT X a tA) : PT X (.UnaryOp .Not a pos) (tNot tA) := by
  intro pins s σ H Q I h
  exact isTrue_not (ha pins s σ H (fun c H1 => Q (!c) H1) I h)
noncomputable def tAndV (ta tb : TE) : TE := fun σ H Q => ta σ H fun x H1 => ∃ c, x = .bl c ∧ if c = true then tb σ H1 Q else Q (.bl false) H1
noncomputable def tNotV (ta : TE) : TE := fun σ H Q => ta σ H fun x H1 => ∃ c, x = .bl c ∧ Q (.bl (!c)) H1
private theorem pe_one {op} {t : TE} (h : PE X a t) : PE X (.BoolOp op [a] pos) t := fun pins s σ H Q I hw => BoolOp_one (h pins s σ H Q I hw)
private theorem pe_and (ha : PE X a ta) (hb : PE X (.BoolOp .And (b :: rest) pos) tb) : PE X (.BoolOp .And (a :: b :: rest) pos) (tAndV ta tb) := by
  intro pins s σ H Q I h
  refine BoolOp_and (thn (ha pins s σ H _ I h) fun v s1 zz10 => e23 zz10 fun x H1 I1 r1 q1 => ?_)
  obtain ⟨c, rfl, q1⟩ := q1
  cases r1
  refine wpAny_truthy_bool ?_
  cases c with
  | true => exact hb pins s1 σ H1 Q I1 q1
  | false => exact ⟨.bl false, H1, I1, rfl, q1⟩
private theorem pe_not (ha : PE X a ta) : PE X (.UnaryOp .Not a pos) (tNotV ta) := by
  intro pins s σ H Q I h
  refine UnaryOp_ (thn (ha pins s σ H _ I h) fun v s1 zz12 => e23 zz12 fun x H1 I1 r1 q1 => ?_)
  obtain ⟨c, rfl, q1⟩ := q1
  cases r1
  exact not_of (wpAny_truthy_bool ⟨.bl (!c), H1, I1, rfl, q1⟩)
end
end L2
namespace L2
open PySem PySem.Spec PyProof.Rows
noncomputable def SqL (K : PySem.W.Frag) (H : Hp) (a : Addr) (xs : List V) : Prop :=
  Rd H a (.lst xs) ∨
    ∃ (o : Obj) (its : Array Value) (n : Nat), K.lookup a = some o ∧ o.cls = .type "list" ∧ o.dict = none ∧ o.data = .seq its n ∧ its.size ≤ sizeLine ∧ Vals xs its.toList
noncomputable def SqT (K : PySem.W.Frag) (H : Hp) (a : Addr) (xs : List V) : Prop :=
  Rd H a (.tup xs) ∨
    ∃ (o : Obj) (its : Array Value) (n : Nat), K.lookup a = some o ∧ o.cls = .type "tuple" ∧ o.data = .seq its n ∧ its.size ≤ sizeLine ∧ Vals xs its.toList
noncomputable def absV : Value → Option V
  | .none => some .non
  | .bool b => some (.bl b)
  | .int i _ => some (.int i)
  | .str x _ => some (.str x)
  | .bytes b _ => some (.byt b)
  | .float b _ => some (.flt b)
  | .ref a => some (.ref a)
  | .type n => some (.ty n)
  | _ => none
private theorem RelV.abs {x : V} {u : Value} (r : RelV x u) : absV u = some x := by
  cases x with
  | non => cases r; rfl
  | bl _ => cases r; rfl
  | int _ => obtain ⟨t, rfl⟩ := r; rfl
  | str _ => obtain ⟨t, rfl⟩ := r; rfl
  | byt _ => obtain ⟨t, rfl⟩ := r; rfl
  | flt _ => obtain ⟨t, rfl⟩ := r; rfl
  | ref _ => cases r; rfl
  | ty _ => cases r; rfl
private theorem RelV.inj {x y : V} {u : Value} (r : RelV x u) (q : RelV y u) : x = y := Option.some.inj (r.abs.symm.trans q.abs)
private theorem Vals.inj : ∀ {xs ys : List V} {us : List Value}, Vals xs us → Vals ys us → xs = ys
  | _, _, _, .nil, .nil => rfl
  | _, _, _, .cons r t, .cons r' t' => by rw [r.inj r', Vals.inj t t']
section
variable {X : Cx} {pins : List (Addr × Obj)} {σ : St} {H : Hp} {s : Shared} {a : Addr} {xs ys : List V}
private theorem SqL.of {K : PySem.W.Frag} (h : H a = some (.lst xs)) : SqL K H a xs := .inl (.inl h)
private theorem SqT.of {K : PySem.W.Frag} (h : H a = some (.tup xs)) : SqT K H a xs := .inl (.inl h)
private theorem Inv.list (I : Inv X pins σ H s) (h : SqL X.K H a xs) : ∃ its : List Value, Vals xs its ∧ PlainL s.heap a its.toArray ∧ xs.length ≤ sizeLine := by
  rcases h with h | ⟨o, its, n, hk, hc, hd, hs, hz, r⟩
  · obtain ⟨z, its, n, r, e⟩ := h.ok I.hok
    exact ⟨its, r, ⟨_, n, e, rfl, rfl, rfl⟩, z⟩
  · refine ⟨its.toList, r, ⟨o, n, I.kIn a o hk, hc, hd, by simpa using hs⟩, ?_⟩
    have e := r.length
    simp only [Array.length_toList] at e
    omega
private theorem Inv.tuple (I : Inv X pins σ H s) (h : SqT X.K H a xs) : ∃ its : List Value, Vals xs its ∧ IsTup s.heap a its.toArray ∧ xs.length ≤ sizeLine := by
  rcases h with h | ⟨o, its, n, hk, hc, hs, hz, r⟩
  · obtain ⟨z, its, r, p⟩ := h.ok I.hok
    exact ⟨its, r, p, z⟩
  · refine ⟨its.toList, r, ⟨o, I.kIn a o hk, hc, n, by simpa using hs⟩, ?_⟩
    have e := r.length
    simp only [Array.length_toList] at e
    omega
private theorem Inv.list_inj (I : Inv X pins σ H s) (h : SqL X.K H a xs) (h' : SqL X.K H a ys) : xs = ys := by
  obtain ⟨its, r, ⟨o, n, e, _, _, d⟩, _⟩ := I.list h
  obtain ⟨its', r', ⟨o', n', e', _, _, d'⟩, _⟩ := I.list h'
  rw [e] at e'; cases e'
  rw [d] at d'
  injection d' with d1 _
  have : its = its' := by simpa using congrArg Array.toList d1
  subst this
  exact r.inj r'
private theorem Inv.tuple_inj (I : Inv X pins σ H s) (h : SqT X.K H a xs) (h' : SqT X.K H a ys) : xs = ys := by
  obtain ⟨its, r, ⟨o, e, _, n, d⟩, _⟩ := I.tuple h
  obtain ⟨its', r', ⟨o', e', _, n', d'⟩, _⟩ := I.tuple h'
  rw [e] at e'; cases e'
  rw [d] at d'
  injection d' with d1 _
  have : its = its' := by simpa using congrArg Array.toList d1
  subst this
  exact r.inj r'
end
noncomputable abbrev Cx.wish (X : Cx) (E : Value → Shared → Prop) : Cx := { X with xe := E }
noncomputable abbrev Cx.nox (X : Cx) : Cx := X.wish fun _ _ => False
private theorem Cx.Ok.wish {X : Cx} (ok : X.Ok) (E : Value → Shared → Prop) : (X.wish E).Ok :=
  ⟨ok.mod, ok.kind, ok.glob, ok.blt, ok.above, ok.inj, ok.has, ok.cab, ok.hd, ok.frames, ok.stk, ok.exf, ok.bs, ok.bsz, ok.noex, ok.exfs, ok.funs, ok.frf⟩
private theorem Cx.Ok.unwish {X : Cx} {E : Value → Shared → Prop} (ok : (X.wish E).Ok) : X.Ok :=
  ⟨ok.mod, ok.kind, ok.glob, ok.blt, ok.above, ok.inj, ok.has, ok.cab, ok.hd, ok.frames, ok.stk, ok.exf, ok.bs, ok.bsz, ok.noex, ok.exfs, ok.funs, ok.frf⟩
section
variable {X : Cx} {pins : List (Addr × Obj)} {σ : St} {H : Hp} {s : Shared} {E : Value → Shared → Prop}
private theorem Inv.wish (I : Inv X pins σ H s) (E : Value → Shared → Prop) : Inv (X.wish E) pins σ H s := ⟨I.ok.wish E, I.os, I.bare, I.base, I.loc, I.cell, I.free, I.freeC, I.pin, I.hok, I.len⟩
private theorem Inv.unwish (I : Inv (X.wish E) pins σ H s) : Inv X pins σ H s := ⟨I.ok.unwish, I.os, I.bare, I.base, I.loc, I.cell, I.free, I.freeC, I.pin, I.hok, I.len⟩
private theorem SP.unwish {D : Ends} {f : Flow} {s' : Shared} (h : SP (X.wish E) pins D f s') : SP X pins D f s' := by
  cases f with
  | next => obtain ⟨σ', H', I, q⟩ := h; exact ⟨σ', H', I.unwish, q⟩
  | brk => obtain ⟨σ', H', I, q⟩ := h; exact ⟨σ', H', I.unwish, q⟩
  | cont => obtain ⟨σ', H', I, q⟩ := h; exact ⟨σ', H', I.unwish, q⟩
  | ret u => obtain ⟨v, σ', H', I, r, q⟩ := h; exact ⟨v, σ', H', I.unwish, r, q⟩
private theorem PSs.nox {st : List Stmt} {t : TS} (h : PSs X.nox st t) : PSs X st t := fun pins s σ H D I hw =>
  wpAny_mono (h pins s σ H D (I.wish _) hw) (fun _ _ q => q.unwish) fun _ _ z => False.elim z
end
section
variable {X : Cx} {st : Stmt} {rest : List Stmt} {t u : TS} {e : Expr} {te : TE} {pos : Pos}
noncomputable def tNext : TS := fun D σ H => D.nx σ H
noncomputable def tSeq (t u : TS) : TS := fun D σ H => t { D with nx := u D } σ H
private theorem pss_nil : PSs X [] tNext := fun _ _ σ H _ I h => wpAny_execs_nil ⟨σ, H, I, h⟩
private theorem pss_cons (h1 : PS X st t) (h2 : PSs X rest u) : PSs X (st :: rest) (tSeq t u) := by
  intro pins s σ H D I h
  refine wpAny_execs_cons (thn (h1 pins s σ H { D with nx := u D } I h) fun f s1 q => ?_)
  cases f with
  | next =>
    obtain ⟨σ', H', I', q⟩ := q
    exact h2 pins s1 σ' H' D I' q
  | ret v => exact q
  | brk => exact q
  | cont => exact q
private theorem pss_one (h1 : PS X st t) : PSs X [st] t := by
  intro pins s σ H D I h
  refine wpAny_execs_cons (thn (h1 pins s σ H D I h) fun f s1 q => ?_)
  cases f with
  | next => exact wpAny_execs_nil q
  | ret v => exact q
  | brk => exact q
  | cont => exact q
private theorem Inv.quiet {pins : List (Addr × Obj)} {σ : St} {H : Hp} {s : Shared} (I : Inv X pins σ H s) : interactive X.env = false := by simp [interactive, I.ok.kind]
noncomputable def tDrop (te : TE) : TS := fun D σ H => te σ H fun _ H1 => D.nx σ H1
private theorem ps_expr (he : PE X e te) (hs : swapsWith e none pos.line X.env = pure false := by rfl) : PS X (.Expr e pos) (tDrop te) := by
  intro pins s σ H D I h
  exact wpAny_Expr_any (thn (he pins s σ H _ I h) fun v s1 zz16 => e23 zz16 fun x H1 I1 r1 q1 => ⟨σ, H1, I1, q1⟩) I.quiet hs
noncomputable def tRet (te : TE) : TS := fun D σ H => te σ H D.rt
private theorem ps_ret (he : PE X e te) : PS X (.Return (some e) pos) (tRet te) := by
  intro pins s σ H D I h
  exact wpAny_Return_some (thn (he pins s σ H _ I h) fun v s1 zz17 => e23 zz17 fun x H1 I1 r1 q1 => ⟨x, σ, H1, I1, r1, q1⟩)
noncomputable def tIfS (c : TT) (t u : TS) : TS := fun D σ H => c σ H fun b H1 => if b = true then t D σ H1 else u D σ H1
private theorem ps_if {c : Expr} {a b : List Stmt} {tc : TT} (hc : PT X c tc) (ha : PSs X a t) (hb : PSs X b u) : PS X (.If c a b pos) (tIfS tc t u) := by
  intro pins s σ H D I h
  refine wpAny_If (thn (hc pins s σ H _ I h) fun d s1 zz18 => e12 zz18 fun H1 I1 q1 => ?_)
  cases d with
  | true => exact ha pins s1 σ H1 D I1 q1
  | false => exact hb pins s1 σ H1 D I1 q1
end
noncomputable abbrev TG := V → St → Hp → (St → Hp → Prop) → Prop
noncomputable def PG (X : Cx) (target : Expr) (t : TG) : Prop :=
  ∀ (pins : List (Addr × Obj)) (s : Shared) (σ : St) (H : Hp) (v : V) (u : Value) (Q : St → Hp → Prop), Inv X pins σ H s → RelV v u → t v σ H Q →
    wpAny (model X.prog X.w) X.A (assign target X.env u) (fun _ s' => ∃ σ' H', Inv X pins σ' H' s' ∧ Q σ' H') X.xe s
noncomputable abbrev TSet := V → V → V → Hp → (Hp → Prop) → Prop
noncomputable def PSet (X : Cx) (t : TSet) : Prop :=
  ∀ (pins : List (Addr × Obj)) (s : Shared) (σ : St) (H : Hp) (o i v : V) (ov iv u : Value) (Q : Hp → Prop), Inv X pins σ H s → RelV o ov → RelV i iv → RelV v u → t o i v H Q →
    wpAny (model X.prog X.w) X.A (setItem ov iv u) (fun _ s' => ∃ H', Inv X pins σ H' s' ∧ Q H') X.xe s
section
variable {X : Cx} {pos : Pos}
noncomputable def gName (i : Nat) : TG := fun v σ H Q => Q (σ.set i (some v)) H
private theorem pg_name {i : Nat} {x : Str} (hN : X.N.Nodup) (hi : X.N[i]? = some x) (hx : Loc X.env.scope x) (hf : X.fn x = true ∨ X.env.scope.names.lookup x = some .local := by first | exact .inl rfl | exact .inr rfl | assumption) : PG X (.Name x pos) (gName i) := by
  intro pins s σ H v u Q I r h
  exact wpAny_assign_Name (store_ok I hN hi hx r (fun s' I' => ⟨_, H, I', h⟩) hf)
noncomputable def gSub (to ti : TE) (t : TSet) : TG := fun v σ H Q => to σ H fun o H1 => ti σ H1 fun i H2 => t o i v H2 fun H3 => Q σ H3
private theorem pg_sub {o i : Expr} {to ti : TE} {t : TSet} (ho : PE X o to) (hi : PE X i ti) (hs : PSet X t)
    (ha : ∀ v, assign (.Subscript o i pos) X.env v = (do
      let ov ← holding [v] (eval o X.env)
      let iv ← holding [v, ov] (eval i X.env)
      standAt pos
      holding [v, ov, iv] (setItem ov iv v)
      release [v, ov, iv] []) := by intro _; rfl) : PG X (.Subscript o i pos) (gSub to ti t) := by
  intro pins s σ H v u Q I r h
  rw [ha]
  refine wpAny_bind (wpAny_holding (thn (ho pins s σ H _ I h) fun ov s1 zz20 => e23 zz20 fun x H1 I1 r1 q1 => ?_))
  refine wpAny_bind (wpAny_holding (thn (hi pins s1 σ H1 _ I1 q1) fun iv s2 zz21 => e23 zz21 fun y H2 I2 r2 q2 => ?_))
  refine wpAny_bind (wpAny_standAt (wpAny_bind (wpAny_holding (thn (hs pins s2 σ H2 x y v ov iv u _ I2 r1 r2 r q2) fun _ s3 zz22 => e12 zz22 fun H3 I3 q3 => ?_))))
  exact wpAny_release ⟨σ, H3, I3, q3⟩
noncomputable def tAsg (te : TE) (g : TG) : TS := fun D σ H => te σ H fun x H1 => g x σ H1 D.nx
private theorem ps_asg {tg e : Expr} {te : TE} {g : TG} (he : PE X e te) (hg : PG X tg g) (hs : swapsWithSole [tg] e pos.line X.env = pure false := by rfl) (hw : swappedStores [tg] e X.env = pure none := by rfl)
    (h1 : (assignEach [tg] X.env).map (·.2) = [assign tg X.env] := by rfl) : PS X (.Assign [tg] e pos) (tAsg te g) := by
  intro pins s σ H D I h
  refine wpAny_Assign_stores (thn (he pins s σ H _ I h) fun v s1 zz23 => e23 zz23 fun x H1 I1 r1 q1 => ?_) hs hw
  rw [h1]
  exact thn (hg pins s1 σ H1 x v _ I1 r1 q1) fun _ s2 q => q
private theorem ps_set {i : Nat} {x : Str} {e : Expr} {te : TE} {pos' : Pos} (hN : X.N.Nodup) (hi : X.N[i]? = some x) (hx : Loc X.env.scope x) (he : PE X e te) (hs : swapsWith e (some (.Name x pos')) pos.line X.env = pure false := by rfl) (hf : X.fn x = true ∨ X.env.scope.names.lookup x = some .local := by first | exact .inl rfl | exact .inr rfl | assumption) :
    PS X (.Assign [.Name x pos'] e pos) (tAsg te (gName i)) := by
  intro pins s σ H D I h
  refine wpAny_Assign_Name (thn (he pins s σ H _ I h) fun v s1 zz24 => e23 zz24 fun y H1 I1 r1 q1 => ?_) hs
  exact store_ok I1 hN hi hx r1 (fun s2 I2 => ⟨_, H1, I2, q1⟩) hf
noncomputable def tPar (i j : Nat) (ta : TA) : TS := fun D σ H => ta σ H fun vs H1 => ∃ v w, vs = [v, w] ∧ D.nx ((σ.set i (some v)).set j (some w)) H1
private theorem ps_par {i j : Nat} {x y : Str} {a b : Expr} {ta : TA} {px py pt : Pos} {kt k2 pt2} (hc : X.calm = true) (hN : X.N.Nodup) (hi : X.N[i]? = some x) (hj : X.N[j]? = some y) (hij : i ≠ j)
    (hx : X.env.scope.names.lookup x = some .local) (hy : X.env.scope.names.lookup y = some .local) (ha : PA X [a, b] ta)
    (hw : swappedStores [.Tuple [.Name x px, .Name y py] kt pt] (.Tuple [a, b] k2 pt2) X.env = pure (some [x, y]))
    (hs : swapsWithSole [.Tuple [.Name x px, .Name y py] kt pt] (.Tuple [a, b] k2 pt2) pos.line X.env = pure false := by rfl) :
    PS X (.Assign [.Tuple [.Name x px, .Name y py] kt pt] (.Tuple [a, b] k2 pt2) pos) (tPar i j ta) := by
  intro pins s σ H D I h
  rw [exec_Assign_arm]
  refine wpAny_bind (wpAny_standAt ?_)
  rw [hs]
  refine wpAny_bind (wpAny_pure ?_)
  rw [if_neg (by decide)]
  refine wpAny_bind (Tuple_ (thn (ha _ pins s σ H _ I h) fun us s1 zz25 => e23 zz25 fun vs H1 I1 r1 q1 => ?_))
  obtain ⟨v, w, e1, q1⟩ := q1
  subst e1
  obtain ⟨u1, u2, rfl, rv, rw'⟩ : ∃ u1 u2, us = [u1, u2] ∧ RelV v u1 ∧ RelV w u2 := by
    cases r1 with
    | cons p q =>
      cases q with
      | cons p' q' =>
        cases q'
        exact ⟨_, _, rfl, p, p'⟩
  refine wpAny_newObj_type ?_ (by show 2 ≤ sizeLine; decide)
  have I2 : Inv X pins σ H1 { s1 with heap := s1.heap.push { cls := .type "tuple", data := .seq [u1, u2].toArray } } := I1.kept (t' := s1.toks) fun b o e => Heap.get?_push_of_some _ e
  rw [hw]
  refine wpAny_bind (wpAny_pure ?_)
  show wpAny (model X.prog X.w) X.A (do rule "assign.swapped-stores"; let items ← unpackItems (.ref s1.heap.objs.size) 2 none; assignInOrder [fun v => bindName X.env y v, fun v => bindName X.env x v] items.reverse; pure Flow.next) _ _ _
  refine wpAny_bind (wpAny_rule (wpAny_bind (unpackItems_tuple (items := #[u1, u2]) (I.ok.hd hc) (IsTup.new s1.heap _) fun h' hx' => ?_)))
  have I3 := I2.kept (h' := h') (t' := s1.toks) fun b o e => hx' b o (Nat.ne_of_lt (Heap.lt_size e)) e
  show wpAny _ _ (assignInOrder [fun v => bindName X.env y v, fun v => bindName X.env x v] [u2, u1] >>= fun _ => pure Flow.next) _ _ _
  refine wpAny_bind (assignInOrder_cons (wpAny_bindName (store_ok I3 hN hj (.inl hy) rw' (fun s2 I4 => ?_) (.inr hy))))
  refine assignInOrder_cons (wpAny_bindName (store_ok I4 hN hi (.inl hx) rv (fun s3 I5 => assignInOrder_nil (wpAny_pure ?_)) (.inr hx)))
  rw [List.set_comm _ _ (Ne.symm hij)] at I5
  exact ⟨_, H1, I5, q1⟩
end
section
variable {X : Cx} {pos : Pos}
noncomputable def tWhile (c : TT) (tb : TS) : TS := fun D σ H => ∃ W : Nat → St → Hp → Prop, (∃ m, W m σ H) ∧ ∀ m σ H, W m σ H →
  c σ H fun b H1 => if b = true then ∃ N : St → Hp → Prop, (∀ σ' H', N σ' H' → ∃ m', m' < m ∧ W m' σ' H') ∧ tb { D with nx := N, ct := N, bk := D.nx } σ H1 else D.nx σ H1
private theorem ps_while {c : Expr} {body : List Stmt} {tc : TT} {tb : TS} (hp : PassesOwn (model X.prog X.w) X.A X.env X.xe) (hc : PT X c tc) (hb : PSs X body tb) : PS X (.While c body [] pos) (tWhile tc tb) := by
  intro pins s σ H D I h
  obtain ⟨W, ⟨m0, w0⟩, turn⟩ := h
  refine wpAny_While (codeAny_whileLoop (fun n s' => ∃ σ' H', Inv X pins σ' H' s' ∧ W n σ' H') ?_ m0 ⟨σ, H, I, w0⟩)
  rintro n s1 ⟨σ1, H1, I1, w1⟩
  refine wpAny_passesOwn hp (thn (hc pins s1 σ1 H1 _ I1 (turn n σ1 H1 w1)) fun b s2 zz34 => e12 zz34 fun H2 I2 q2 => ?_)
  cases b with
  | true =>
    obtain ⟨N, hN, q2⟩ := q2
    rw [if_pos rfl]
    refine wpAny_passesOwn hp (thn (hb pins s2 σ1 H2 _ I2 q2) fun f s3 q3 => ?_)
    cases f with
    | next =>
      obtain ⟨σ3, H3, I3, n3⟩ := q3
      obtain ⟨m', hm, w3⟩ := hN σ3 H3 n3
      exact ⟨m', hm, σ3, H3, I3, w3⟩
    | cont =>
      obtain ⟨σ3, H3, I3, n3⟩ := q3
      obtain ⟨m', hm, w3⟩ := hN σ3 H3 n3
      exact ⟨m', hm, σ3, H3, I3, w3⟩
    | brk => exact q3
    | ret v => exact q3
  | false =>
    rw [if_neg Bool.false_ne_true]
    exact wpAny_execs_nil ⟨σ1, H2, I2, q2⟩
end
structure It where
  go : Nat → Hp → Prop
  yld : Nat → Hp → V → Hp → Prop
  stop : Nat → Hp → Prop
noncomputable def FpOk (X : Cx) (pins : List (Addr × Obj)) (H : Hp) (b : Addr) : Prop :=
  H b = none ∧ b ≠ X.env.locals ∧ b ∉ X.fs ∧ (b ∈ X.ex ∨ X.s₀.heap.objs.size ≤ b) ∧ (∀ x c, X.env.cells.lookup x = some c → c ≠ b) ∧ ∀ p ∈ X.pn ++ pins, p.1 ≠ b
private theorem Inv.fpOk {X : Cx} {pins : List (Addr × Obj)} {σ : St} {H H' : Hp} {s : Shared} {b : Addr} (I : Inv X pins σ H s) (hb : s.heap.objs.size ≤ b) (hn : H' b = none) : FpOk X pins H' b := by
  refine ⟨hn, Nat.ne_of_gt (Nat.lt_of_lt_of_le I.lt hb), I.nofs hb, .inr (Nat.le_trans I.sz hb), fun x c e z => ?_, fun p hp z => ?_⟩
  · obtain ⟨v, q⟩ := I.cell x c e
    exact absurd (Nat.lt_of_lt_of_le q.lt (by rw [z]; exact hb)) (Nat.lt_irrefl _)
  · exact absurd (Nat.lt_of_lt_of_le (Heap.lt_size (I.pin p hp).1) (by rw [z]; exact hb)) (Nat.lt_irrefl _)
structure Turn (P : Program) (w : World) (K : PySem.W.Frag) (tg : Expr) (J : It) (fp : List Addr) (it : Addr) (tn : Nat → Heap → Prop) : Prop where
  mem : it ∈ fp
  obj : ∀ i h, tn i h → ∀ b ∈ fp, ∃ o, h.get? b = some o ∧ ∀ v, o.data ≠ .cell v
  keep : ∀ i h h', tn i h → (∀ b ∈ fp, ∀ o, h.get? b = some o → h'.get? b = some o) → tn i h'
  item : ∀ (X : Cx), X.prog = P → X.w = w → X.K = K → X.calm = true → ∀ (i : Nat) (pins : List (Addr × Obj)) (s : Shared) (σ : St) (H : Hp) (E : Value → Shared → Prop), Inv X pins σ H s → (∀ b ∈ fp, FpOk X pins H b) → tn i s.heap → J.go i H →
    wpAny (model P w) X.A (pyNext (.ref it)) (fun r s1 => ∃ u, r = some u ∧
      wpAny (model P w) X.A (letOwnedTupleGo tg (.ref it) u) (fun _ s2 => ∃ x H', Inv X pins σ H' s2 ∧ RelV x u ∧ J.yld i H x H' ∧ tn (i + 1) s2.heap ∧ ∀ b ∈ fp, H' b = none) E s1) E s
  done : ∀ (X : Cx), X.prog = P → X.w = w → X.K = K → X.calm = true → ∀ (i : Nat) (pins : List (Addr × Obj)) (s : Shared) (σ : St) (H : Hp) (E : Value → Shared → Prop), Inv X pins σ H s → (∀ b ∈ fp, FpOk X pins H b) → tn i s.heap → J.stop i H →
    wpAny (model P w) X.A (pyNext (.ref it)) (fun r s1 => r = none ∧ Inv X pins σ H s1) E s
  self : ∀ (A : Around) (i : Nat) (s : Shared) (Q : Value → Shared → Prop) (E : Value → Shared → Prop), tn i s.heap → Q (.ref it) s → wpAny (model P w) A (pyIter (.ref it)) Q E s
noncomputable abbrev TI := St → Hp → (It → Hp → Prop) → Prop
noncomputable def PIE (X : Cx) (pins : List (Addr × Obj)) (σ : St) (tg : Expr) (R : It → Hp → Prop) (itv : Value) (s2 : Shared) : Prop :=
  ∃ (it : Addr) (fp : List Addr) (tn : Nat → Heap → Prop) (J : It) (H' : Hp), itv = .ref it ∧ Inv X pins σ H' s2 ∧ Turn X.prog X.w X.K tg J fp it tn ∧ tn 0 s2.heap ∧ (∀ b ∈ fp, FpOk X pins H' b) ∧ R J H'
noncomputable def PI (X : Cx) (tg iter : Expr) (wi : TI) : Prop :=
  ∀ (pins : List (Addr × Obj)) (s : Shared) (σ : St) (H : Hp) (R : It → Hp → Prop), Inv X pins σ H s → wi σ H R →
    wpAny (model X.prog X.w) X.A (eval iter X.env) (fun v s1 => wpAny (model X.prog X.w) X.A (pyIter v) (PIE X pins σ tg R) X.xe s1) X.xe s
private theorem go_of {M : Model} {A : Around} {E : Value → Shared → Prop} {s : Shared} {tg : Expr} {it : Addr} {u : Value} {o : Obj} {n : String} {vs : Array Value} {Q : Unit → Shared → Prop} (ho : s.heap.get? it = some o) (hc : o.cls = .type n) (hd : o.data = .fields vs)
    (hn : ["enumerate", "zip", "dict_itemiterator", "dict_reverseitemiterator", "odict_iterator", "itertools.zip_longest", "itertools.pairwise"].contains n = false) (hQ : Q () s) : wpAny M A (letOwnedTupleGo tg (.ref it) u) Q E s := by
  unfold letOwnedTupleGo
  cases tg <;> first
    | exact wpAny_pure hQ
    | (cases u <;> first
        | exact wpAny_pure hQ
        | (refine wpAny_bind (wpAny_load ho ?_)
           rw [hc, hd]
           show wpAny M A (if (["enumerate", "zip", "dict_itemiterator", "dict_reverseitemiterator", "odict_iterator", "itertools.zip_longest", "itertools.pairwise"].contains n && vs[0]? == some (rawInt _)) = true then _ else _) Q E s
           rw [if_neg (by intro h; rw [hn, Bool.false_and] at h; cases h)]
           exact wpAny_pure hQ))
noncomputable def Itl (K : PySem.W.Frag) (a : Addr) : It :=
  ⟨fun i H => ∃ xs x, SqL K H a xs ∧ xs[i]? = some x, fun i H x H' => H' = H ∧ ∀ xs, SqL K H a xs → xs[i]? = some x, fun i H => ∃ xs, SqL K H a xs ∧ xs.length ≤ i⟩
noncomputable def Itt (K : PySem.W.Frag) (a : Addr) : It :=
  ⟨fun i H => ∃ xs x, SqT K H a xs ∧ xs[i]? = some x, fun i H x H' => H' = H ∧ ∀ xs, SqT K H a xs → xs[i]? = some x, fun i H => ∃ xs, SqT K H a xs ∧ xs.length ≤ i⟩
noncomputable def Itr (lo : Int) (n : Nat) : It := ⟨fun i _ => i < n, fun i H x H' => H' = H ∧ x = .int (lo + i), fun i _ => n ≤ i⟩
private theorem turn_list {P : Program} {w : World} {K : PySem.W.Frag} {tg : Expr} (a it : Addr) : Turn P w K tg (Itl K a) [it] it (fun i h => h.IsListIter it a i) where
  mem := by simp
  obj := fun i h st b hb => by
    have e : b = it := by simpa using hb
    subst e
    obtain ⟨o, e, c, d⟩ := st
    exact ⟨o, e, fun v z => by rw [d] at z; cases z⟩
  keep := fun i h h' st k => st.at fun o e => k it (by simp) o e
  item := by
    intro X hP hw hK hc i pins s σ H E I hf st hg
    subst hP hw hK
    obtain ⟨xs, x, hq, hx⟩ := hg
    obtain ⟨its, rv, p, hz⟩ := I.list hq
    obtain ⟨u, hu, ru⟩ := rv.get hx
    obtain ⟨f0, f1, f2, f3, f4, f5⟩ := hf it (by simp)
    refine wpAny_pyNext_list_item st p.isList (x := u) (by simpa using hu) fun h' st' sb => ?_
    have I1 : Inv X pins σ H { s with heap := h' } := I.turned (t' := s.toks) (fun b o hb e => (sb.2 b hb).trans e) f0 f1 f3 f4 f5
    obtain ⟨o, e, c, d⟩ := id st'
    exact ⟨u, rfl, go_of (s := { s with heap := h' }) e c d (by decide) ⟨x, H, I1, ru, ⟨rfl, fun ys hy => by rw [I.list_inj hy hq]; exact hx⟩, st', fun b hb => (hf b hb).1⟩⟩
  done := by
    intro X hP hw hK hc i pins s σ H E I hf st hg
    subst hP hw hK
    obtain ⟨xs, hq, hx⟩ := hg
    obtain ⟨its, rv, p, hz⟩ := I.list hq
    obtain ⟨f0, f1, f2, f3, f4, f5⟩ := hf it (by simp)
    have hl := rv.length
    exact wpAny_pyNext_list_end (I.ok.hd hc) st p.isList (by simp; omega) fun h' eb => ⟨rfl, I.turned (t' := s.toks) (fun b o hb e => eb b o hb e) f0 f1 f3 f4 f5⟩
  self := fun _ _ _ _ _ st h => wpAny_pyIter_listiter st h
private theorem turn_tuple {P : Program} {w : World} {K : PySem.W.Frag} {tg : Expr} (a it : Addr) : Turn P w K tg (Itt K a) [it] it (fun i h => h.IsTupleIter it a i) where
  mem := by simp
  obj := fun i h st b hb => by
    have e : b = it := by simpa using hb
    subst e
    obtain ⟨o, e, c, d⟩ := st
    exact ⟨o, e, fun v z => by rw [d] at z; cases z⟩
  keep := fun i h h' st k => st.at fun o e => k it (by simp) o e
  item := by
    intro X hP hw hK hc i pins s σ H E I hf st hg
    subst hP hw hK
    obtain ⟨xs, x, hq, hx⟩ := hg
    obtain ⟨its, rv, p, hz⟩ := I.tuple hq
    obtain ⟨u, hu, ru⟩ := rv.get hx
    obtain ⟨f0, f1, f2, f3, f4, f5⟩ := hf it (by simp)
    refine wpAny_pyNext_tuple_item st (show s.heap.IsTuple a its.toArray from p) (x := u) (by simpa using hu) fun h' st' sb => ?_
    have I1 : Inv X pins σ H { s with heap := h' } := I.turned (t' := s.toks) (fun b o hb e => (sb.2 b hb).trans e) f0 f1 f3 f4 f5
    obtain ⟨o, e, c, d⟩ := id st'
    exact ⟨u, rfl, go_of (s := { s with heap := h' }) e c d (by decide) ⟨x, H, I1, ru, ⟨rfl, fun ys hy => by rw [I.tuple_inj hy hq]; exact hx⟩, st', fun b hb => (hf b hb).1⟩⟩
  done := by
    intro X hP hw hK hc i pins s σ H E I hf st hg
    subst hP hw hK
    obtain ⟨xs, hq, hx⟩ := hg
    obtain ⟨its, rv, p, hz⟩ := I.tuple hq
    obtain ⟨f0, f1, f2, f3, f4, f5⟩ := hf it (by simp)
    have hl := rv.length
    exact wpAny_pyNext_tuple_end (I.ok.hd hc) st (show s.heap.IsTuple a its.toArray from p) (by simp; omega) fun h' eb => ⟨rfl, I.turned (t' := s.toks) (fun b o hb e => eb b o hb e) f0 f1 f3 f4 f5⟩
  self := fun _ _ _ _ _ st h => wpAny_pyIter_tupleiter st h
private theorem turn_range {P : Program} {w : World} {K : PySem.W.Frag} {tg : Expr} (it : Addr) (lo : Int) (n : Nat) : Turn P w K tg (Itr lo n) [it] it (fun i h => IsRangeIter h it (lo + (i : Nat) * 1) ((n : Int) - (i : Nat)) 1) where
  mem := by simp
  obj := fun i h st b hb => by
    have e : b = it := by simpa using hb
    subst e
    exact ⟨_, st, fun v z => by
      have z' : Data.fields _ = Data.cell v := z
      cases z'⟩
  keep := fun i h h' st k => k it (by simp) _ st
  item := by
    intro X hP hw hK hc i pins s σ H E I hf st hg
    subst hP hw hK
    obtain ⟨f0, f1, f2, f3, f4, f5⟩ := hf it (by simp)
    have W := Walks.range (prog := X.prog) (w := X.w) (I.ok.hd hc) it lo 1 n
    refine W.item i s _ _ hg st fun v h' tk hv st' kk => ?_
    obtain ⟨t, rfl⟩ := hv
    have I1 : Inv X pins σ H { s with heap := h', toks := tk } := I.turned (fun b o hb e => kk b o (by simpa using hb) e) f0 f1 f3 f4 f5
    refine ⟨_, rfl, go_of (s := { s with heap := h', toks := tk }) (n := "range_iterator") st' rfl rfl (by decide) ⟨.int (lo + i), H, I1, ⟨t, ?_⟩, ⟨rfl, rfl⟩, st', fun b hb => (hf b hb).1⟩⟩
    rw [Int.mul_one]
  done := by
    intro X hP hw hK hc i pins s σ H E I hf st hg
    subst hP hw hK
    obtain ⟨f0, f1, f2, f3, f4, f5⟩ := hf it (by simp)
    exact wpAny_pyNext_range_end (I.ok.hd hc) st (by have : n ≤ i := hg; omega) fun h' eb => ⟨rfl, I.turned (t' := s.toks) (fun b o hb e => eb b o hb e) f0 f1 f3 f4 f5⟩
  self := fun _ _ _ _ _ st h => wpAny_pyIter_rangeiter st h
end L2
namespace L2
open PySem PySem.Spec PyProof.Rows
section
variable {X : Cx} {tg : Expr}
noncomputable def iList (K : PySem.W.Frag) (tl : TE) : TI := fun σ H R => tl σ H fun x H1 => ∃ a, x = .ref a ∧ (∃ xs, SqL K H1 a xs) ∧ R (Itl K a) H1
noncomputable def iTup (K : PySem.W.Frag) (tl : TE) : TI := fun σ H R => tl σ H fun x H1 => ∃ a, x = .ref a ∧ (∃ xs, SqT K H1 a xs) ∧ R (Itt K a) H1
private theorem pi_list {l : Expr} {tl : TE} (hl : PE X l tl) : PI X tg l (iList X.K tl) := by
  intro pins s σ H R I h
  refine thn (hl pins s σ H _ I h) fun v s1 zz35 => e23 zz35 fun x H1 I1 r1 q1 => ?_
  obtain ⟨a, e, ⟨xs, hq⟩, q⟩ := q1
  subst e
  cases r1
  obtain ⟨its, rv, p, hz⟩ := I1.list hq
  refine wpAny_pyIter_list p.isList ?_
  refine ⟨s1.heap.objs.size, [s1.heap.objs.size], _, _, H1, rfl, I1.kept (t' := s1.toks) fun b o e => Heap.get?_push_of_some _ e, turn_list a _, ⟨_, Heap.get?_push_size _ rfl, rfl, rfl⟩, fun b hb => ?_, q⟩
  have e : b = s1.heap.objs.size := by simpa using hb
  subst e
  exact I1.fpOk (Nat.le_refl _) (I1.hok.fresh (Nat.le_refl _))
private theorem pi_tup {l : Expr} {tl : TE} (hl : PE X l tl) : PI X tg l (iTup X.K tl) := by
  intro pins s σ H R I h
  refine thn (hl pins s σ H _ I h) fun v s1 zz36 => e23 zz36 fun x H1 I1 r1 q1 => ?_
  obtain ⟨a, e, ⟨xs, hq⟩, q⟩ := q1
  subst e
  cases r1
  obtain ⟨its, rv, p, hz⟩ := I1.tuple hq
  refine wpAny_pyIter_tuple (show s1.heap.IsTuple a its.toArray from p) ?_
  refine ⟨s1.heap.objs.size, [s1.heap.objs.size], _, _, H1, rfl, I1.kept (t' := s1.toks) fun b o e => Heap.get?_push_of_some _ e, turn_tuple a _, ⟨_, Heap.get?_push_size _ rfl, rfl, rfl⟩, fun b hb => ?_, q⟩
  have e : b = s1.heap.objs.size := by simpa using hb
  subst e
  exact I1.fpOk (Nat.le_refl _) (I1.hok.fresh (Nat.le_refl _))
private theorem range_it {pins : List (Addr × Obj)} {σ : St} {H : Hp} {s : Shared} {R : It → Hp → Prop} {E : Value → Shared → Prop} {lo hi : Int} {t u v : Tok} {tk : Nat} (I : Inv X pins σ H s) (h1 : -(2 ^ 62) ≤ lo) (h2 : lo < 2 ^ 62) (h3 : -(2 ^ 62) ≤ hi) (h4 : hi < 2 ^ 62)
    (q : R (Itr lo (hi - lo).toNat) H) : wpAny (model X.prog X.w) X.A (pyIter (.ref s.heap.objs.size)) (PIE X pins σ tg R) E { s with heap := s.heap.push { cls := .type "range", data := .fields #[.int lo t, .int hi u, .int 1 v] }, toks := tk } := by
  refine wpAny_pyIter_range (IsRange.new ..) (small_one h1 h2 h3 h4) ?_
  have I1 : Inv X pins σ H { s with heap := s.heap.push { cls := .type "range", data := .fields #[.int lo t, .int hi u, .int 1 v] }, toks := tk } := I.kept fun b o e => Heap.get?_push_of_some _ e
  refine ⟨(s.heap.push { cls := .type "range", data := .fields #[.int lo t, .int hi u, .int 1 v] }).objs.size, [(s.heap.push { cls := .type "range", data := .fields #[.int lo t, .int hi u, .int 1 v] }).objs.size], _, _, H, rfl,
    I1.kept (t' := tk) fun b o e => Heap.get?_push_of_some _ e, turn_range _ lo (hi - lo).toNat, ?_, fun b hb => ?_, q⟩
  · have e1 : lo + ((0 : Nat) : Int) * 1 = lo := by simp
    have e2 : (((hi - lo).toNat : Nat) : Int) - ((0 : Nat) : Int) = Builtin.Range.rangeSize lo hi 1 := by rw [rangeSize_one]; split <;> omega
    show IsRangeIter _ _ (lo + ((0 : Nat) : Int) * 1) ((((hi - lo).toNat : Nat) : Int) - ((0 : Nat) : Int)) 1
    rw [e1, e2]
    exact Heap.get?_push_size _ rfl
  · have e : b = (s.heap.push { cls := .type "range", data := .fields #[.int lo t, .int hi u, .int 1 v] }).objs.size := by simpa using hb
    subst e
    exact I1.fpOk (Nat.le_refl _) (I1.hok.fresh (Nat.le_refl _))
noncomputable def iRng1 (ta : TA) : TI := fun σ H R => ta σ H fun vs H1 => ∃ j : Int, vs = [.int j] ∧ -(2 ^ 62) ≤ j ∧ j < 2 ^ 62 ∧ R (Itr 0 j.toNat) H1
private theorem pi_range1 {a : Expr} {ta : TA} {p pos : Pos} (hg : Gl X "range") (hm : X.mg "range" = none) (ha : PA X [a] ta) (hs : starEach [a] X.env = [(false, eval a X.env)] := by rfl) : PI X tg (.Call (.Name "range" p) [a] [] pos) (iRng1 ta) := by
  intro pins s σ H R I h
  refine Call_ (ld_blt I hg hm boot_range (PyProof.Rows.callWith_type1 (thn (ha pos pins s σ H _ I h) fun us s1 zz37 => e23 zz37 fun vs H1 I1 r1 q1 => ?_) hs rfl))
  obtain ⟨j, e, q1, q2, q⟩ := q1
  subst e
  cases r1 with
  | cons r rr =>
    cases rr
    obtain ⟨t, rfl⟩ := r
    exact call_range_1 (range_it I1 (by omega) (by omega) q1 q2 (by simpa using q))
noncomputable def tFor (wi : TI) (g : TG) (tb : TS) : TS := fun D σ H => wi σ H fun J H1 => ∃ W : Nat → Nat → St → Hp → Prop, (∃ m, W 0 m σ H1) ∧ ∀ i m σ H, W i m σ H →
  (J.stop i H ∧ D.nx σ H) ∨ (J.go i H ∧ ∃ N : St → Hp → Prop, (∀ σ' H', N σ' H' → ∃ m', m' < m ∧ W (i + 1) m' σ' H') ∧ ∀ x H', J.yld i H x H' → g x σ H' fun σ2 H2 => tb { D with nx := N, ct := N, bk := D.nx } σ2 H2)
noncomputable def pinsAt (fp : List Addr) (h : Heap) : List (Addr × Obj) := fp.filterMap fun b => (h.get? b).map fun o => (b, o)
private theorem mem_pinsAt {fp : List Addr} {h : Heap} {b : Addr} {o : Obj} (hb : b ∈ fp) (e : h.get? b = some o) : (b, o) ∈ pinsAt fp h := List.mem_filterMap.mpr ⟨b, hb, by rw [e]; rfl⟩
private theorem of_pinsAt {fp : List Addr} {h : Heap} {p : Addr × Obj} (hp : p ∈ pinsAt fp h) : p.1 ∈ fp ∧ h.get? p.1 = some p.2 := by
  obtain ⟨b, hb, e⟩ := List.mem_filterMap.mp hp
  cases q : h.get? b with
  | none => rw [q] at e; cases e
  | some o =>
    rw [q] at e
    have e' : (b, o) = p := Option.some.inj e
    subst e'
    exact ⟨hb, q⟩
private theorem Inv.pinned {pins : List (Addr × Obj)} {σ : St} {H : Hp} {s : Shared} {fp : List Addr} (I : Inv X pins σ H s) (hf : ∀ b ∈ fp, FpOk X pins H b) (ho : ∀ b ∈ fp, ∃ o, s.heap.get? b = some o ∧ ∀ v, o.data ≠ .cell v) : Inv X (pins ++ pinsAt fp s.heap) σ H s :=
  I.pins_of fun p hp => (List.mem_append.mp hp).elim (fun z => I.pin p (List.mem_append_right _ z)) fun z => by
    obtain ⟨hb, e⟩ := of_pinsAt z
    obtain ⟨f0, f1, f2, _⟩ := hf p.1 hb
    obtain ⟨o, e', d⟩ := ho p.1 hb
    rw [e] at e'; cases e'
    exact ⟨e, f0, f1, f2, d⟩
private theorem Inv.unpinned {pins pl : List (Addr × Obj)} {σ : St} {H : Hp} {s : Shared} (I : Inv X (pins ++ pl) σ H s) : Inv X pins σ H s := I.pins_of fun p hp => I.pin p (List.mem_append_right _ (List.mem_append_left _ hp))
private theorem ps_for {iter : Expr} {body : List Stmt} {wi : TI} {g : TG} {tb : TS} {pos : Pos} (hp : PassesOwn (model X.prog X.w) X.A X.env X.xe) (hc : X.calm = true) (hi : PI X tg iter wi) (hg : PG X tg g) (hb : PSs X body tb)
    (hs : ∀ x, foldedSetIterable iter X.env x = pure x := by intro _; rfl) : PS X (.For tg iter body [] pos) (tFor wi g tb) := by
  intro pins s σ H D I h
  refine wpAny_For (thn (hi pins s σ H _ I h) fun v s1 h1 => thn h1 fun itv s2 h2 => ?_) hs
  obtain ⟨it, fp, tn, J, H2, e, I2, T, st2, f2, W, ⟨m0, w0⟩, turn⟩ := h2
  subst e
  -- what stays true of the iterator's objects through the loop
  have stat : ∀ {H' : Hp}, (∀ b ∈ fp, H' b = none) → ∀ b ∈ fp, FpOk X pins H' b := fun hn b hb => ⟨hn b hb, (f2 b hb).2⟩
  refine codeAny_forLoop_any (fun n s' => ∃ i σ' H', Inv X pins σ' H' s' ∧ tn i s'.heap ∧ (∀ b ∈ fp, H' b = none) ∧ W i n σ' H') ?_ m0 ⟨0, σ, H2, I2, st2, fun b hb => (f2 b hb).1, w0⟩
  rintro n s3 ⟨i, σ3, H3, I3, st3, fr3, w3⟩
  rcases turn i n σ3 H3 w3 with ⟨stop, qn⟩ | ⟨go, N, hN, step⟩
  · refine wpAny_passesOwn hp (thn (T.done X rfl rfl rfl hc i pins s3 σ3 H3 X.xe I3 (stat fr3) st3 stop) fun r s4 ⟨hr, I4⟩ => ?_)
    subst hr
    exact wpAny_execs_nil ⟨σ3, H3, I4, qn⟩
  · refine wpAny_passesOwn hp (thn (T.item X rfl rfl rfl hc i pins s3 σ3 H3 X.xe I3 (stat fr3) st3 go) fun r s4 ⟨u, hr, h4⟩ => ?_)
    subst hr
    refine wpAny_passesOwn hp (thn h4 fun _ s5 ⟨x, H5, I5, r5, y5, st5, fr5⟩ => ?_)
    have I5' := I5.pinned (stat fr5) (T.obj _ _ st5)
    refine wpAny_passesOwn hp (thn (hg _ s5 σ3 H5 x u _ I5' r5 (step x H5 y5)) fun _ s6 zz42 => e22 zz42 fun σ6 H6 I6 q6 => ?_)
    refine wpAny_passesOwn hp (thn (hb _ s6 σ6 H6 _ I6 q6) fun f s7 q7 => ?_)
    have again : ∀ {σ7 : St} {H7 : Hp}, Inv X (pins ++ pinsAt fp s5.heap) σ7 H7 s7 → N σ7 H7 → ∃ m, m < n ∧ ∃ i σ' H', Inv X pins σ' H' s7 ∧ tn i s7.heap ∧ (∀ b ∈ fp, H' b = none) ∧ W i m σ' H' := fun {σ7 H7} I7 n7 => by
      obtain ⟨m', hm, w7⟩ := hN σ7 H7 n7
      refine ⟨m', hm, i + 1, σ7, H7, I7.unpinned, T.keep _ _ _ st5 fun b hb o e => (I7.pin (b, o) (List.mem_append_right _ (List.mem_append_right _ (mem_pinsAt hb e)))).1, fun b hb => ?_, w7⟩
      obtain ⟨o, e, d⟩ := T.obj _ _ st5 b hb
      exact (I7.pin (b, o) (List.mem_append_right _ (List.mem_append_right _ (mem_pinsAt hb e)))).2.1
    cases f with
    | next => obtain ⟨σ7, H7, I7, n7⟩ := q7; exact again I7 n7
    | cont => obtain ⟨σ7, H7, I7, n7⟩ := q7; exact again I7 n7
    | brk => obtain ⟨σ7, H7, I7, q7⟩ := q7; exact ⟨σ7, H7, I7.unpinned, q7⟩
    | ret v => obtain ⟨x7, σ7, H7, I7, r7, q7⟩ := q7; exact ⟨x7, σ7, H7, I7.unpinned, r7, q7⟩
end
end L2
namespace L2
open PySem PySem.Spec PyProof.Rows
noncomputable abbrev R2 := V → V → Hp → VK → Prop
noncomputable def OpR (X : Cx) (f : Value → Value → Sem Value) (r : R2) : Prop :=
  ∀ (pins : List (Addr × Obj)) (s : Shared) (σ : St) (H : Hp) (x y : V) (v u : Value) (Q : VK), Inv X pins σ H s → RelV x v → RelV y u → r x y H Q →
    wpAny (model X.prog X.w) X.A (f v u) (EP X pins σ Q) X.xe s
noncomputable def UnR (X : Cx) (f : Value → Sem Value) (r : V → Hp → VK → Prop) : Prop :=
  ∀ (pins : List (Addr × Obj)) (s : Shared) (σ : St) (H : Hp) (x : V) (v : Value) (Q : VK), Inv X pins σ H s → RelV x v → r x H Q →
    wpAny (model X.prog X.w) X.A (f v) (EP X pins σ Q) X.xe s
noncomputable def CallR (X : Cx) (f : Value) (r : List V → Hp → VK → Prop) : Prop :=
  ∀ (pins : List (Addr × Obj)) (s : Shared) (σ : St) (H : Hp) (xs : List V) (us : List Value) (Q : VK), Inv X pins σ H s → Vals xs us → r xs H Q →
    wpAny (model X.prog X.w) X.A (call f us) (EP X pins σ Q) X.xe s
noncomputable def tOp (r : R2) (ta tb : TE) : TE := fun σ H Q => ta σ H fun x H1 => tb σ H1 fun y H2 => r x y H2 Q
noncomputable def tUn (r : V → Hp → VK → Prop) (ta : TE) : TE := fun σ H Q => ta σ H fun x H1 => r x H1 Q
noncomputable def rI (C : Int → Int → Prop) (g : Int → Int → V) : R2 := fun x y H Q => ∃ i j, x = .int i ∧ y = .int j ∧ C i j ∧ Q (g i j) H
noncomputable def rI0 (g : Int → Int → V) : R2 := fun x y H Q => ∃ i j, x = .int i ∧ y = .int j ∧ Q (g i j) H
noncomputable def rU (g : Int → V) : V → Hp → VK → Prop := fun x H Q => ∃ i, x = .int i ∧ Q (g i) H
section
variable {X : Cx} {a b c : Expr} {ta tb tc : TE} {pos : Pos}
private theorem binT (ha : PE X a ta) (hb : PE X b tb) {pins : List (Addr × Obj)} {s : Shared} {σ : St} {H : Hp} {R : V → V → Hp → Prop} (I : Inv X pins σ H s)
    (h : ta σ H fun x H1 => tb σ H1 fun y H2 => R x y H2) {Q : Value → Shared → Prop} {f : Value → Value → Sem Value}
    (hf : ∀ v u s2 x y H2, Inv X pins σ H2 s2 → RelV x v → RelV y u → R x y H2 → wpAny (model X.prog X.w) X.A (f v u) Q X.xe s2) :
    wpAny (model X.prog X.w) X.A (eval a X.env) (fun v s₁ => wpAny (model X.prog X.w) X.A (eval b X.env) (fun u s₂ => wpAny (model X.prog X.w) X.A (f v u) Q X.xe s₂) X.xe s₁) X.xe s := by
  refine thn (ha pins s σ H _ I h) fun v s1 zz44 => e23 zz44 fun x H1 I1 r1 q1 => ?_
  refine thn (hb pins s1 σ H1 _ I1 q1) fun u s2 zz45 => e23 zz45 fun y H2 I2 r2 q2 => ?_
  exact hf v u s2 x y H2 I2 r1 r2 q2
private theorem pe_op {op : Operator} {r : R2} (ho : OpR X (binaryOp op) r) (ha : PE X a ta) (hb : PE X b tb) : PE X (.BinOp a op b pos) (tOp r ta tb) := by
  intro pins s σ H Q I h
  exact wpAny_BinOp (binT ha hb I h fun v u s2 x y H2 I2 rx ry q => ho pins s2 σ H2 x y v u Q I2 rx ry q)
private theorem pe_un {op : UnaryOp} {r : V → Hp → VK → Prop} (ho : UnR X (unaryOp op) r) (ha : PE X a ta) : PE X (.UnaryOp op a pos) (tUn r ta) := by
  intro pins s σ H Q I h
  exact UnaryOp_ (thn (ha pins s σ H _ I h) fun v s1 zz46 => e23 zz46 fun x H1 I1 r1 q1 => ho pins s1 σ H1 x v Q I1 r1 q1)
private theorem opI {f : Value → Value → Sem Value} {C : Int → Int → Prop} {g : Int → Int → Int}
    (rule : ∀ (i j : Int) (t u : Tok) (s : Shared) (Q : Value → Shared → Prop) (E : Value → Shared → Prop), C i j → Q (.int (g i j) s.toks) { s with toks := s.toks + 1 } → wpAny (model X.prog X.w) X.A (f (.int i t) (.int j u)) Q E s) :
    OpR X f (rI C fun i j => .int (g i j)) := by
  intro pins s σ H x y v u Q I rx ry h
  obtain ⟨i, j, rfl, rfl, hc, q⟩ := h
  obtain ⟨t, rfl⟩ := rx
  obtain ⟨t', rfl⟩ := ry
  exact rule i j t t' s _ _ hc ⟨.int (g i j), H, I.tok _, ⟨_, rfl⟩, q⟩
private theorem opI0 {f : Value → Value → Sem Value} {g : Int → Int → Int}
    (rule : ∀ (i j : Int) (t u : Tok) (s : Shared) (Q : Value → Shared → Prop) (E : Value → Shared → Prop), Q (.int (g i j) s.toks) { s with toks := s.toks + 1 } → wpAny (model X.prog X.w) X.A (f (.int i t) (.int j u)) Q E s) :
    OpR X f (rI0 fun i j => .int (g i j)) := by
  intro pins s σ H x y v u Q I rx ry h
  obtain ⟨i, j, rfl, rfl, q⟩ := h
  obtain ⟨t, rfl⟩ := rx
  obtain ⟨t', rfl⟩ := ry
  exact rule i j t t' s _ _ ⟨.int (g i j), H, I.tok _, ⟨_, rfl⟩, q⟩
private theorem opB0 {f : Value → Value → Sem Value} {g : Int → Int → Bool}
    (rule : ∀ (i j : Int) (t u : Tok) (s : Shared) (Q : Value → Shared → Prop) (E : Value → Shared → Prop), Q (.bool (g i j)) s → wpAny (model X.prog X.w) X.A (f (.int i t) (.int j u)) Q E s) :
    OpR X f (rI0 fun i j => .bl (g i j)) := by
  intro pins s σ H x y v u Q I rx ry h
  obtain ⟨i, j, rfl, rfl, q⟩ := h
  obtain ⟨t, rfl⟩ := rx
  obtain ⟨t', rfl⟩ := ry
  exact rule i j t t' s _ _ ⟨.bl (g i j), H, I, rfl, q⟩
noncomputable def CDiv (i j : Int) : Prop := 0 < j ∧ j < 1073741824
noncomputable def CPow (i j : Int) : Prop := 0 ≤ j ∧ j ≤ 1000000 ∧ i.natAbs < 2 ^ 64
noncomputable def CMul (i j : Int) : Prop := (-(2 ^ 64) < i ∧ i < 2 ^ 64) ∨ (-(2 ^ 64) < j ∧ j < 2 ^ 64)
private theorem CMul.ok {i j : Int} (h : CMul i j) : IntMulOk i j := by
  rcases h with ⟨h1, h2⟩ | ⟨h1, h2⟩
  · exact .of_left (intBits_le_64 h1 h2)
  · exact .of_right (intBits_le_64 h1 h2)
private theorem op_add : OpR X (binaryOp .Add) (rI0 fun i j => .int (i + j)) := opI0 fun _ _ _ _ _ _ _ q => add_int q
private theorem op_sub : OpR X (binaryOp .Sub) (rI0 fun i j => .int (i - j)) := opI0 fun _ _ _ _ _ _ _ q => sub_int q
private theorem op_mul : OpR X (binaryOp .Mult) (rI CMul fun i j => .int (i * j)) := opI fun _ _ _ _ _ _ _ hc q => mul_int q hc.ok
private theorem op_fdiv : OpR X (binaryOp .FloorDiv) (rI CDiv fun i j => .int (i / j)) := opI fun i j _ _ _ _ _ hc q => by
  have h1 : (0 : Int) < j := hc.1
  have h2 : j < 1073741824 := hc.2
  exact floordiv_int (by omega) (by rw [Int.fdiv_eq_ediv_of_nonneg i (by omega)]; exact q) (.inl (PyProof.noPylong_small (by omega)))
private theorem op_mod : OpR X (binaryOp .Mod) (rI (fun _ j => 0 < j) fun i j => .int (i % j)) := opI fun i j _ _ _ _ _ hc q => by
  have h1 : (0 : Int) < j := hc
  exact mod_int' (by omega) (by rw [Int.fmod_eq_emod_of_nonneg i (by omega)]; exact q)
private theorem op_modN : OpR X (binaryOp .Mod) (rI (fun _ j => j ≠ 0) fun i j => .int (i.fmod j)) := opI fun _ _ _ _ _ _ _ hc q => mod_int' hc q
private theorem op_pow : OpR X (binaryOp .Pow) (rI CPow fun i j => .int (i ^ j.toNat)) := opI fun _ _ _ _ _ _ _ hc q => pow_int_small hc.1 hc.2.1 hc.2.2 q
private theorem unI {f : Value → Sem Value} {g : Int → Int}
    (rule : ∀ (i : Int) (t : Tok) (s : Shared) (Q : Value → Shared → Prop) (E : Value → Shared → Prop), Q (.int (g i) s.toks) { s with toks := s.toks + 1 } → wpAny (model X.prog X.w) X.A (f (.int i t)) Q E s) :
    UnR X f (rU fun i => .int (g i)) := by
  intro pins s σ H x v Q I rx h
  obtain ⟨i, rfl, q⟩ := h
  obtain ⟨t, rfl⟩ := rx
  exact rule i t s _ _ ⟨.int (g i), H, I.tok _, ⟨_, rfl⟩, q⟩
private theorem un_neg : UnR X (unaryOp .USub) (rU fun i => .int (-i)) := unI fun _ _ _ _ _ q => neg_int q
end
noncomputable def scal : V → V → Bool
  | .non, .non => true | .non, .int _ => true | .int _, .non => true | .non, .bl _ => true | .bl _, .non => true | .non, .str _ => true | .str _, .non => true
  | .int _, .int _ => true | .bl _, .bl _ => true | .str _, .str _ => true | .byt _, .byt _ => true
  | .int _, .str _ => true | .str _, .int _ => true | .bl _, .str _ => true | .str _, .bl _ => true
  | _, _ => false
noncomputable def rEq : R2 := fun x y H Q => scal x y = true ∧ Q (.bl (decide (x = y))) H
private theorem dec_int {i j : Int} : decide (V.int i = V.int j) = (i == j) := by
  rw [Bool.eq_iff_iff]
  simp
private theorem dec_bl {i j : Bool} : decide (V.bl i = V.bl j) = (i == j) := by
  rw [Bool.eq_iff_iff]
  simp
private theorem dec_str {i j : Str} : decide (V.str i = V.str j) = (i == j) := by
  rw [Bool.eq_iff_iff]
  simp
private theorem dec_byt {i j : Array UInt8} : decide (V.byt i = V.byt j) = (i.toList == j.toList) := by
  rw [Bool.eq_iff_iff]
  cases i
  cases j
  simp
section
variable {X : Cx} {a b c : Expr} {ta tb tc : TE} {pos : Pos}
private theorem fin_bl {pins : List (Addr × Obj)} {σ : St} {H : Hp} {s : Shared} {Q : VK} {k k' : Bool} (I : Inv X pins σ H s) (q : Q (.bl k) H) (e : k = k') : EP X pins σ Q (.bool k') s := by
  subst e
  exact ⟨.bl k, H, I, rfl, q⟩
private theorem op_eq : OpR X (compareOp .Eq) rEq := by
  intro pins s σ H x y v u Q I rx ry h
  obtain ⟨hs, q⟩ := h
  cases x with
  | non =>
    cases rx
    cases y with
    | non => cases ry; exact PySem.EqNone.eq_none_none (fin_bl I q (by simp))
    | bl j => cases ry; exact PySem.EqNone.eq_none_bool (fin_bl I q (by simp))
    | int j => obtain ⟨t', rfl⟩ := ry; exact PySem.EqNone.eq_none_int (fin_bl I q (by simp))
    | str j => obtain ⟨t', rfl⟩ := ry; exact PySem.EqNone.eq_none_str (fin_bl I q (by simp))
    | _ => exact absurd (show false = true from hs) Bool.false_ne_true
  | bl i =>
    cases rx
    cases y with
    | non => cases ry; exact PySem.EqNone.eq_bool_none (fin_bl I q (by simp))
    | bl j => cases ry; exact eq_bool (fin_bl I q dec_bl)
    | str j => obtain ⟨t', rfl⟩ := ry; exact PySem.EqMixed.eq_bool_str (fin_bl I q (by simp))
    | _ => exact absurd (show false = true from hs) Bool.false_ne_true
  | int i =>
    obtain ⟨t, rfl⟩ := rx
    cases y with
    | non => cases ry; exact PySem.EqNone.eq_int_none (fin_bl I q (by simp))
    | int j => obtain ⟨t', rfl⟩ := ry; exact eq_int (fin_bl I q dec_int)
    | str j => obtain ⟨t', rfl⟩ := ry; exact PySem.EqMixed.eq_int_str (fin_bl I q (by simp))
    | _ => exact absurd (show false = true from hs) Bool.false_ne_true
  | str i =>
    obtain ⟨t, rfl⟩ := rx
    cases y with
    | non => cases ry; exact PySem.EqNone.eq_str_none (fin_bl I q (by simp))
    | bl j => cases ry; exact PySem.EqMixed.eq_str_bool (fin_bl I q (by simp))
    | int j => obtain ⟨t', rfl⟩ := ry; exact PySem.EqMixed.eq_str_int (fin_bl I q (by simp))
    | str j => obtain ⟨t', rfl⟩ := ry; exact eq_str (fin_bl I q dec_str)
    | _ => exact absurd (show false = true from hs) Bool.false_ne_true
  | byt i =>
    obtain ⟨t, rfl⟩ := rx
    cases y with
    | byt j => obtain ⟨t', rfl⟩ := ry; exact PySem.W.eq_bytes (fin_bl I q dec_byt)
    | _ => exact absurd (show false = true from hs) Bool.false_ne_true
  | _ => cases y <;> exact absurd (show false = true from hs) Bool.false_ne_true
private theorem op_lt : OpR X (compareOp .Lt) (rI0 fun i j => .bl (decide (i < j))) := opB0 fun _ _ _ _ _ _ _ q => lt_int q
private theorem op_gt : OpR X (compareOp .Gt) (rI0 fun i j => .bl (decide (j < i))) := opB0 fun _ _ _ _ _ _ _ q => gt_int q
private theorem op_ge : OpR X (compareOp .GtE) (rI0 fun i j => .bl (decide (j ≤ i))) := opB0 fun _ _ _ _ _ _ _ q => ge_int q
private theorem nomark (b : Expr) {op : CmpOp} (h : op ≠ .In := by decide) (h2 : op ≠ .NotIn := by decide) : behindInMarks op b = false := by
  have e1 : (op == CmpOp.In) = false := by cases op <;> first | rfl | exact absurd rfl h
  have e2 : (op == CmpOp.NotIn) = false := by cases op <;> first | rfl | exact absurd rfl h2
  cases b <;> simp [behindInMarks, e1, e2]
private theorem pe_cmpR {op : CmpOp} {r : R2} (ho : OpR X (compareOp op) r) (ha : PE X a ta) (hb : PE X b tb) (hm : behindInMarks op b = false) : PE X (.Compare a [op] [b] pos) (tOp r ta tb) := by
  intro pins s σ H Q I h
  exact wpAny_Compare1 (binT ha hb I h fun v u s2 x y H2 I2 rx ry q => ho pins s2 σ H2 x y v u Q I2 rx ry q) hm
noncomputable def tTest (t : TE) : TT := fun σ H Q => t σ H fun x H' => ∃ k, x = .bl k ∧ Q k H'
private theorem pt_cmpR {op : CmpOp} {r : R2} (ho : OpR X (compareOp op) r) (ha : PE X a ta) (hb : PE X b tb) (hm : behindInMarks op b = false) : PT X (.Compare a [op] [b] pos) (tTest (tOp r ta tb)) := by
  intro pins s σ H Q I h
  refine wpAny_isTrue_Compare1 (thn (ha pins s σ H _ I h) fun v s1 zz47 => e23 zz47 fun x H1 I1 r1 q1 => thn (hb pins s1 σ H1 _ I1 q1) fun u s2 zz48 => e23 zz48 fun y H2 I2 r2 q2 =>
    thn (ho pins s2 σ H2 x y v u _ I2 r1 r2 q2) fun c s3 ⟨z, H3, I3, r3, k, e, q3⟩ => ?_) hm
  subst e
  cases r3
  exact wpAny_truthy_bool ⟨H3, I3, q3⟩
private theorem line63 : (sizeLine : Nat) < 2 ^ 63 := by rw [sizeLine_eq]; decide
private theorem vals1 {x : V} {us : List Value} (r : Vals [x] us) : ∃ u, us = [u] ∧ RelV x u := by
  cases r with
  | cons r1 r2 => cases r2; exact ⟨_, rfl, r1⟩
private theorem vals2 {x y : V} {us : List Value} (r : Vals [x, y] us) : ∃ u w', us = [u, w'] ∧ RelV x u ∧ RelV y w' := by
  cases r with
  | cons r1 r2 =>
    cases r2 with
    | cons r3 r4 => cases r4; exact ⟨_, _, rfl, r1, r3⟩
private theorem call_abs : CallR X (.builtin "abs") (fun xs H Q => ∃ i, xs = [.int i] ∧ Q (.int (if i < 0 then -i else i)) H) := by
  intro pins s σ H xs us Q I r h
  obtain ⟨i, rfl, q⟩ := h
  obtain ⟨u, rfl, t, rfl⟩ := vals1 r
  exact call_abs_int fun u tk => ⟨.int (if i < 0 then -i else i), H, I.tok _, ⟨_, rfl⟩, q⟩
private theorem call_int1 : CallR X (.type "int") (fun xs H Q => (∃ i, xs = [.int i] ∧ Q (.int i) H) ∨ ∃ k, xs = [.bl k] ∧ Q (.int (if k then 1 else 0)) H) := by
  intro pins s σ H xs us Q I r h
  rcases h with ⟨i, rfl, q⟩ | ⟨k, rfl, q⟩
  · obtain ⟨u, rfl, t, rfl⟩ := vals1 r
    exact call_int_int ⟨.int i, H, I, ⟨_, rfl⟩, q⟩
  · obtain ⟨u, rfl, r1⟩ := vals1 r
    cases r1
    exact call_int_bool ⟨.int (if k then 1 else 0), H, I.tok _, ⟨_, rfl⟩, q⟩
end
end L2
namespace L2
open PySem PySem.Spec PyProof.Rows
structure ObjM (h : Heap) (x dx C : Addr) (mA : Str → Option Value) : Prop where
  obj : h.get? x = some (PySem.W.instObj C dx)
  ns : h.Ns1 dx mA
  ne : dx ≠ x
private theorem lookIn_ns {h : Heap} {dx : Addr} {mA : Str → Option Value} (n : h.Ns1 dx mA) : ∃ od, h.get? dx = some od ∧ ∀ name, PySem.W.lookIn name od = some (mA name) := by
  obtain ⟨o, es, ep, ho, hd, hk, _, hm⟩ := n
  refine ⟨o, ho, fun name => ?_⟩
  have e := hm name
  unfold nsFind findBy at e
  rw [← Array.find?_toList] at e
  unfold PySem.W.lookIn
  rw [hd]
  dsimp only
  split
  · rename_i y q
    rw [q] at e
    exact congrArg some e
  · rename_i q
    rw [q] at e
    have a : es.toList.any (·.refKey) = false := by
      rw [List.any_eq_false]
      intro y hy
      obtain ⟨z, t, hkey⟩ := hk y (Array.mem_toList_iff.mp hy)
      simp [DictEntry.refKey, hkey]
    have a' : ¬ es.toList.any (·.refKey) = true := by rw [a]; exact Bool.false_ne_true
    rw [if_neg a']
    exact congrArg some e
private theorem ObjM.look {h : Heap} {x dx C : Addr} {mA : Str → Option Value} (I : ObjM h x dx C mA) : ∃ od, PySem.W.InstAt h x (PySem.W.instObj C dx) C (some od) ∧ ∀ name, PySem.W.lookIn name od = some (mA name) :=
  let ⟨od, ho, hl⟩ := lookIn_ns I.ns
  ⟨od, ⟨I.obj, rfl, rfl, ho⟩, hl⟩
section
variable {prog : Program} {w : World} {A : Around} {E : Value → Shared → Prop} {s : Shared} {K : PySem.W.Frag} {x dx C f : Addr} {mA : Str → Option Value} {name : Str} {v : Value}
end
section
variable {P : Program} {w : World} {H H' : Hp} {h h' : Heap} {a C dx : Addr} {fs fs' : List (Str × V)}
private theorem ins_get (hok : HOk P w H h) (e : H a = some (.ins C dx fs)) : ∃ mA, ObjM h a dx C mA ∧ (∀ f, RelO (fs.lookup f) (mA f)) ∧ PySem.Within mA (fs.map (·.1)) ∧ fs.length ≤ 1000 ∧ H dx = some (.own a) := by
  obtain ⟨d, z, ne, ob, mA, n, r, q⟩ := (show ObjOk P w H h a (.ins C dx fs) from hok a _ e)
  exact ⟨mA, ⟨ob, n, ne⟩, r, q, z, d⟩
end
structure Cls (K : PySem.W.Frag) (C : Addr) : Prop where
  pg : PySem.W.plainGet K C Str.empty = true
  hd : PySem.W.hasDictIn K C = true
  po : PySem.W.plainOver K C = true
  sa : PySem.W.findIn K (.ref C) "__setattr__" = some (some (.builtin "object.__setattr__"))
private theorem Cls.get {K : PySem.W.Frag} {C : Addr} (c : Cls K C) (f : Str) : PySem.W.plainGet K C f = true := c.pg
section
variable {X : Cx} {pins : List (Addr × Obj)} {σ : St} {H : Hp} {s : Shared} {a C dx : Addr} {fs : List (Str × V)} {f : Str} {v : V} {A : Around} {E : Value → Shared → Prop}
end
section
variable {X : Cx} {o e value : Expr} {f : Str} {pos pos' tpos : Pos} {ta tv : TE}
end
section
variable {X : Cx} {pins : List (Addr × Obj)} {σ : St} {H : Hp} {s : Shared} {A : Around} {E : Value → Shared → Prop} {Q : Value → Shared → Prop} {c : Value} {b : Bool}
inductive TyOf (K : PySem.W.Frag) (H : Hp) : V → Value → Prop where
  | non : TyOf K H .non (.type "NoneType")
  | bl (x : Bool) : TyOf K H (.bl x) (.type "bool")
  | int (i : Int) : TyOf K H (.int i) (.type "int")
  | str (x : Str) : TyOf K H (.str x) (.type "str")
  | flt (x : UInt64) : TyOf K H (.flt x) (.type "float")
  | lst {a : Addr} {xs : List V} (e : H a = some (.lst xs)) : TyOf K H (.ref a) (.type "list")
  | frz {a : Addr} {o : Obj} {xs : List V} (e : H a = some (.frz o (.lst xs))) : TyOf K H (.ref a) (.type "list")
  | tup {a : Addr} {xs : List V} (e : H a = some (.tup xs)) : TyOf K H (.ref a) (.type "tuple")
  | dK {a : Addr} {kvs : List (Key × V)} (e : H a = some (.dK kvs)) : TyOf K H (.ref a) (.type "dict")
  | dT {a : Addr} {kvs : List (List Key × V)} (e : H a = some (.dT kvs)) : TyOf K H (.ref a) (.type "dict")
  | ins {a C dx : Addr} {fs : List (Str × V)} (e : H a = some (.ins C dx fs)) (cl : Cls K C) (ha : PySem.W.findIn K (.ref C) "__class__" = some (some (.builtin "object.__class__")))
      (hn : PySem.W.specialIn K (.builtin "object.__class__") "__get__" = some (some (.builtin "getset_descriptor.__get__"))) (htk : PySem.W.takesIn K (.builtin "object.__class__") = some true)
      (hm : PySem.W.mroIn K C (.type "object") = some true) : TyOf K H (.ref a) (.ref C)
private theorem isinst_ok {x : V} {u t : Value} (I : Inv X pins σ H s) (rx : RelV x u) (ty : TyOf X.K H x t) (e : PySem.W.kitOne X.K t c = some b) (h : ∀ tk, Q (.bool b) { s with toks := tk }) :
    wpAny (model X.prog X.w) A (call (.builtin "isinstance") [u, c]) Q E s := by
  cases ty with
  | non => cases (show u = Value.none from rx); exact PySem.W.kia_one PySem.W.kitx_none I.kIn True.intro e (fun z => nomatch z) h
  | bl y => cases (show u = Value.bool y from rx); exact PySem.W.kia_one PySem.W.kitx_bool I.kIn True.intro e (fun z => nomatch z) h
  | int i => obtain ⟨t, q⟩ := (show ∃ t, u = Value.int i t from rx); cases q; exact PySem.W.kia_one PySem.W.kitx_int I.kIn True.intro e (fun z => nomatch z) h
  | str y => obtain ⟨t, q⟩ := (show ∃ t, u = Value.str y t from rx); cases q; exact PySem.W.kia_one PySem.W.kitx_str I.kIn True.intro e (fun z => nomatch z) h
  | flt y => obtain ⟨t, q⟩ := (show ∃ t, u = Value.float y t from rx); cases q; exact PySem.W.kia_one PySem.W.kitx_float I.kIn True.intro e (fun z => nomatch z) h
  | @lst a xs ea =>
    cases (show u = Value.ref a from rx)
    obtain ⟨_, _, n, _, h1⟩ := (show ObjOk X.prog X.w H s.heap a (.lst xs) from I.hok a _ ea)
    exact PySem.W.kia_one PySem.W.kitx_list I.kIn ⟨_, h1, rfl⟩ e (fun z => nomatch z) h
  | @frz a ob xs ea =>
    cases (show u = Value.ref a from rx)
    obtain ⟨_, _, _, n, _, h1⟩ := (show ObjOk X.prog X.w H s.heap a (.frz ob (.lst xs)) from I.hok a _ ea)
    exact PySem.W.kia_one PySem.W.kitx_list I.kIn ⟨_, h1, rfl⟩ e (fun z => nomatch z) h
  | @tup a xs ea =>
    cases (show u = Value.ref a from rx)
    obtain ⟨_, _, _, p⟩ := (show ObjOk X.prog X.w H s.heap a (.tup xs) from I.hok a _ ea)
    obtain ⟨o, h1, h2, _⟩ := p
    exact PySem.W.kia_one PySem.W.kitx_tuple I.kIn ⟨o, h1, h2⟩ e (fun z => nomatch z) h
  | @dK a kvs ea =>
    cases (show u = Value.ref a from rx)
    obtain ⟨_, _, vs, _, p⟩ := (show ObjOk X.prog X.w H s.heap a (.dK kvs) from I.hok a _ ea)
    obtain ⟨o, es, ep, h1, h2, _⟩ := p
    exact PySem.W.kia_one PySem.W.kitx_dict I.kIn ⟨o, h1, h2.1⟩ e (fun z => nomatch z) h
  | @dT a kvs ea =>
    cases (show u = Value.ref a from rx)
    obtain ⟨_, _, xs, _, o, es, ep, h1, h2, _⟩ := (show ObjOk X.prog X.w H s.heap a (.dT kvs) from I.hok a _ ea)
    exact PySem.W.kia_one PySem.W.kitx_dict I.kIn ⟨o, h1, h2.1⟩ e (fun z => nomatch z) h
  | @ins a C dx fs ea cl ha hn htk hm =>
    cases (show u = Value.ref a from rx)
    obtain ⟨mA, O, _⟩ := ins_get I.hok ea
    obtain ⟨od, J, _⟩ := O.look
    exact PySem.W.kia_one (PySem.W.kitx_own (cl.get _) cl.hd ha hn htk hm) I.kIn J e (fun z => nomatch z) h
end
end L2
namespace L2
open PySem PySem.Spec PyProof.Rows
structure Room (k : Nat) (A : Around) : Prop where
  hd : A.handled = none
  dp : A.depth + 3 * k + 5 < recursionLimit
  un : A.units + 16 * k + 200 < cLine
private theorem Room.mono {j k : Nat} {A : Around} (r : Room k A) (h : j ≤ k) : Room j A := ⟨r.hd, by have := r.dp; omega, by have := r.un; omega⟩
private theorem Room.deeper {k : Nat} {A : Around} (r : Room (k + 1) A) (env : Env) : Room k (A.deeper env) :=
  ⟨r.hd, by have := r.dp; show A.depth + 1 + 3 * k + 5 < _; omega, by have := r.un; show A.units + 3 + 16 * k + 200 < _; omega⟩
private theorem Room.depth {k : Nat} {A : Around} (r : Room k A) : A.depth < recursionLimit := by have := r.dp; omega
noncomputable def tNil : TA := fun _ H Q => Q [] H
noncomputable def tCons (ta : TE) (tr : TA) : TA := fun σ H Q => ta σ H fun x H1 => tr σ H1 fun xs H2 => Q (x :: xs) H2
section
variable {X : Cx} {e : Expr} {es : List Expr} {te : TE} {t : TA} {pos : Pos}
private theorem pa_nil : PA X [] tNil := fun _ _ _ _ H Q I h => Calls.spliced_nil ⟨[], H, I, .nil, h⟩
private theorem pa_cons (ha : PE X e te) (hr : PA X es t) (hs : starEach (e :: es) X.env = (false, eval e X.env) :: starEach es X.env := by rfl) : PA X (e :: es) (tCons te t) := by
  intro pos pins s σ H Q I h
  rw [hs]
  show wpAny _ _ (spliced ((false, eval e X.env) :: backTo pos (starEach es X.env))) _ _ s
  refine Calls.spliced_cons (thn (ha pins s σ H _ I h) fun u s1 zz68 => e23 zz68 fun x H1 I1 r1 q1 => ?_)
  exact thn (hr pos pins s1 σ H1 _ I1 q1) fun us s2 zz69 => e23 zz69 fun xs H2 I2 r2 q2 => ⟨x :: xs, H2, I2, .cons r1 r2, q2⟩
noncomputable def tTup (t : TA) : TE := fun σ H Q => t σ H fun xs H1 => xs.length ≤ sizeLine ∧ ∀ p, H1 p = none → Q (.ref p) (upd H1 p (.tup xs))
noncomputable def tLst (t : TA) : TE := fun σ H Q => t σ H fun xs H1 => xs.length ≤ sizeLine ∧ ∀ p, H1 p = none → Q (.ref p) (upd H1 p (.lst xs))
private theorem pe_tup {x1} (h : PA X es t) : PE X (.Tuple es x1 pos) (tTup t) := by
  intro pins s σ H Q I hq
  refine wpAny_Tuple_spliced (thn (h pos pins s σ H _ I hq) fun us s1 zz70 => e24 zz70 fun xs H1 I1 r z q => ⟨by rw [← r.length]; exact z, ?_⟩)
  have hf : H1 s1.heap.objs.size = none := I1.hok.fresh (Nat.le_refl _)
  refine ⟨.ref s1.heap.objs.size, upd H1 s1.heap.objs.size (.tup xs), I1.laid (t' := s1.toks) (fun b u e => Heap.get?_push_of_some _ e) (Nat.le_refl _) ?_, rfl, q _ hf⟩
  exact ⟨z, us, r, ⟨_, Heap.get?_push_size _ rfl, rfl, _, rfl⟩⟩
private theorem pe_lst (h : PA X es t) : PE X (.List es pos) (tLst t) := by
  intro pins s σ H Q I hq
  refine wpAny_List_spliced (thn (h pos pins s σ H _ I hq) fun us s1 zz71 => e24 zz71 fun xs H1 I1 r z q => ⟨by rw [← r.length]; exact z, ?_⟩)
  have hf : H1 s1.heap.objs.size = none := I1.hok.fresh (Nat.le_refl _)
  refine ⟨.ref s1.heap.objs.size, upd H1 s1.heap.objs.size (.lst xs), I1.laid (t' := s1.toks) (fun b u e => Heap.get?_push_of_some _ e) (Nat.le_refl _) ?_, rfl, q _ hf⟩
  exact ⟨z, us, 0, r, Heap.get?_push_size _ rfl⟩
end
noncomputable abbrev Sp := List V → Hp → VK → XK → Prop
noncomputable abbrev CXT := List Env → Hp → Shared → XK → Value → Shared → Prop
structure Env0 (P : Program) (w : World) (K : PySem.W.Frag) (mg : Str → Option Value) (base : Heap) (A : Around) (outer : List Env) (s : Shared) (H : Hp) : Prop where
  frames : A.frames = some outer
  mod : Mod K mg base
  bs : ∀ b o, base.get? b = some o → s.heap.get? b = some o ∧ H b = none
  bsz : base.objs.size ≤ s.heap.objs.size
  funs : s.heap.FunFrames base outer
  frf : ∀ b ∈ frs outer, H b = none
  hok : HOk P w H s.heap
  bare : AllBare s.gens
noncomputable def CE (outer : List Env) (P : Program) (w : World) (H : Hp) (s : Shared) (Q : VK) (u : Value) (s' : Shared) : Prop :=
  ∃ v H', s'.os = s.os ∧ AllBare s'.gens ∧ Un (frs outer) [] H H' s.heap s'.heap ∧ HOk P w H' s'.heap ∧ RelV v u ∧ Q v H'
noncomputable def CR (CX : CXT) (outer : List Env) (P : Program) (w : World) (H : Hp) (s : Shared) (Q : VK) (E : XK) (r : Result) (s' : Shared) : Prop :=
  match r with
  | .ok (.ret u) => CE outer P w H s Q u s'
  | .ok _ => False
  | .error e => CX outer H s E e s'
structure FnOk (P : Program) (w : World) (K : PySem.W.Frag) (mg : Str → Option Value) (base : Heap) (CX : CXT) (k : Nat) (f : Addr) (fd : FuncData) (ps : List Str) (sp : Sp) : Prop where
  len : ∀ vs H Q E, sp vs H Q E → vs.length = ps.length
  run : ∀ (A : Around) (outer : List Env) (s : Shared) (H : Hp) (args : Args) (us : List Value) (vs : List V) (Q : VK) (E : XK), Room k A → Env0 P w K mg base A outer s H → BindsTo s fd args (ps.zip us) → Vals vs us → sp vs H Q E →
    codeAny (model P w) A (.call (.ref f) args) (CR CX outer P w H s Q E) s
private theorem FnOk.imp {P : Program} {w : World} {K : PySem.W.Frag} {mg : Str → Option Value} {base : Heap} {CX : CXT} {k : Nat} {f : Addr} {fd : FuncData} {ps : List Str} {sp sp' : Sp} (F : FnOk P w K mg base CX k f fd ps sp)
    (h : ∀ vs H Q E, sp' vs H Q E → sp vs H Q E) : FnOk P w K mg base CX k f fd ps sp' :=
  ⟨fun vs H Q E q => F.len vs H Q E (h _ _ _ _ q), fun A outer s H args us vs Q E hr he hb hv hs => F.run A outer s H args us vs Q E hr he hb hv (h _ _ _ _ hs)⟩
section
variable {X : Cx} {pins : List (Addr × Obj)} {σ : St} {H : Hp} {s s' : Shared}
private theorem Inv.env0 (I : Inv X pins σ H s) : Env0 X.prog X.w X.K X.mg X.base X.A X.stack s H :=
  ⟨I.ok.frames, I.ok.mod, I.bs, Nat.le_trans I.ok.bsz I.sz, I.stack, I.stkFree, I.hok, I.bare⟩
private theorem Inv.after {Q : VK} {u : Value} (I : Inv X pins σ H s) (h : CE X.stack X.prog X.w H s Q u s') : EP X pins σ Q u s' := by
  obtain ⟨v, H', os, bare, un, hok, r, q⟩ := h
  obtain ⟨hh, g, d, t, os'⟩ := s'
  obtain rfl : os' = s.os := os
  exact ⟨v, H', I.call (h' := hh) (g' := g) (d' := d) (t' := t) (ch := []) un hok bare (fun b z => absurd z (by simp)), r, q⟩
end
noncomputable def tCall (sp : Sp) (dvs : List V) (E : XK) (t : TA) : TE := fun σ H Q => t σ H fun vs H1 => sp (vs ++ dvs) H1 Q E
noncomputable def Binds (K : PySem.W.Frag) (fd : FuncData) (ps : List Str) (ds : List Value) : Prop :=
  ∀ (s : Shared) (us : List Value), K.In s.heap → (us ++ ds).length = ps.length → BindsTo s fd ⟨us, []⟩ (ps.zip (us ++ ds))
private theorem Binds.all {K : PySem.W.Frag} {fd : FuncData} {ps : List Str} (h : ∀ us : List Value, us.length = ps.length → bindArgs fd ⟨us, []⟩ = pure (ps.zip us)) : Binds K fd ps [] := fun s us _ hl => by
  rw [List.append_nil] at hl ⊢
  exact .of_eq (h us hl)
noncomputable def Passes (CX : CXT) (X : Cx) (E : XK) : Prop := ∀ (pins : List (Addr × Obj)) (σ : St) (H : Hp) (s : Shared) (e : Value) (s' : Shared), Inv X pins σ H s → CX X.stack H s E e s' → X.xe e s'
section
variable {X : Cx} {CX : CXT} {k : Nat} {f C : Addr} {fd : FuncData} {ps : List Str} {sp : Sp} {dvs : List V} {ds : List Value} {E : XK} {x m : Str} {p pos apos : Pos} {e o : Expr} {es : List Expr} {ta : TE} {t : TA}
private theorem run_fn {pins : List (Addr × Obj)} {σ : St} {H : Hp} {s : Shared} {Q : VK} {us : List Value} {vs : List V} (F : FnOk X.prog X.w X.K X.mg X.base CX k f fd ps sp) (hr : Room k X.A) (hb : Binds X.K fd ps ds) (hd : Vals dvs ds) (hx : Passes CX X E)
    (I : Inv X pins σ H s) (r : Vals vs us) (h : sp (vs ++ dvs) H Q E) : wpAny (model X.prog X.w) X.A (call (.ref f) us) (EP X pins σ Q) X.xe s := by
  have r2 : Vals (vs ++ dvs) (us ++ ds) := r.append hd
  have hl : (us ++ ds).length = ps.length := by rw [← r2.length]; exact F.len _ _ _ _ h
  refine wpAny_call (codeAny_mono (F.run X.A X.stack s H ⟨us, []⟩ (us ++ ds) (vs ++ dvs) Q E hr I.env0 (hb s us I.kIn hl) r2 h) fun r s' hq => ?_)
  cases r with
  | error e => exact hx pins σ H s e s' I hq
  | ok fl =>
    cases fl with
    | ret u => exact I.after hq
    | next => exact False.elim hq
    | brk => exact False.elim hq
    | cont => exact False.elim hq
private theorem pe_call (F : FnOk X.prog X.w X.K X.mg X.base CX k f fd ps sp) (hr : Room k X.A) (hg : Gl X x) (hm : X.mg x = some (.ref f)) (hk : PySem.W.keepIn X.K (.ref f) = true) (hb : Binds X.K fd ps ds) (hd : Vals dvs ds) (hx : Passes CX X E)
    (ha : PA X (e :: es) t) (hdb : (x == ("__debug__" : Str)) = false := by decide) (he : starEach (e :: es) X.env = (false, eval e X.env) :: starEach es X.env := by rfl) (hpl : (backTo pos (starEach es X.env)).any (·.1) = false := by rfl) :
    PE X (.Call (.Name x p) (e :: es) [] pos) (tCall sp dvs E t) := by
  intro pins s σ H Q I h
  refine wpAny_Call_Name_kw (ld_glob I hg hm ?_ hdb)
  refine PySem.W.callWith_K (h₀ := X.base) I.ok.mod.kin hk (thn (ha pos pins s σ H _ I h) fun us s1 zz72 => e23 zz72 fun vs H1 I1 r q => ⟨I1.kIn, ?_⟩) he hpl
  exact run_fn F hr hb hd hx I1 r q
end
section
variable {X : Cx} {CX : CXT} {k : Nat} {f C : Addr} {fd : FuncData} {ps ks : List Str} {sp : Sp} {E : XK} {x m : Str} {p pos apos kpos : Pos} {e o : Expr} {es : List Expr} {kws : List Keyword} {te ta : TE} {t tk : TA} {nm : Option Str}
variable {g : List Value → List Value → List Value} {gV : List V → List V → List V}
end
structure FnScope (N P : List Str) (sc : Scope) : Prop where
  kind : sc.kind = .function
  co : sc.isCoroutine = false
  gen : sc.isGenerator = false
  nd : N.Nodup
  pre : N.take P.length = P
  par : ∀ x ∈ P, sc.names.lookup x = some .local ∨ sc.names.lookup x = some .cell
  nofree : ∀ y ∈ sc.names, y.2 ≠ .free
private theorem bindL_out {kindOf : Str → Option NameKind} {x : Str} : ∀ {binds : List (Str × Value)} {m : Str → Option Value}, (∀ v, (x, v) ∉ binds) → bindL kindOf binds m x = m x
  | [], _, _ => rfl
  | (n, v) :: r, m, h => by
    unfold bindL
    rw [bindL_out fun w hw => h w (List.mem_cons_of_mem _ hw)]
    split
    · have : x ≠ n := by rintro rfl; exact h v List.mem_cons_self
      simp [this]
    · rfl
private theorem bindC_out {kindOf : Str → Option NameKind} {x : Str} : ∀ {binds : List (Str × Value)} {m : Str → Option Value}, (∀ v, (x, v) ∉ binds) → bindC kindOf binds m x = m x
  | [], _, _ => rfl
  | (n, v) :: r, m, h => by
    unfold bindC
    rw [bindC_out fun w hw => h w (List.mem_cons_of_mem _ hw)]
    split
    · rfl
    · have : x ≠ n := by rintro rfl; exact h v List.mem_cons_self
      simp [this]
private theorem bindL_get {kindOf : Str → Option NameKind} {x : Str} {v : Value} : ∀ {P : List Str} {vs : List Value} {i : Nat} {m : Str → Option Value}, P.Nodup → P[i]? = some x → vs[i]? = some v → kindOf x = some .local →
    bindL kindOf (P.zip vs) m x = some v
  | [], _, _, _, _, h, _, _ => by simp at h
  | _ :: _, [], _, _, _, _, h, _ => by simp at h
  | p :: P, w :: vs, 0, m, nd, h1, h2, hk => by
    simp at h1 h2; subst h1; subst h2
    show bindL kindOf ((p, w) :: P.zip vs) m p = _
    unfold bindL
    rw [bindL_out fun v hv => (List.nodup_cons.mp nd).1 (List.of_mem_zip hv).1, if_pos hk]
    simp
  | p :: P, w :: vs, i + 1, m, nd, h1, h2, hk => by
    show bindL kindOf ((p, w) :: P.zip vs) m x = _
    unfold bindL
    exact bindL_get (i := i) (List.nodup_cons.mp nd).2 (by simpa using h1) (by simpa using h2) hk
private theorem bindC_get {kindOf : Str → Option NameKind} {x : Str} {v : Value} : ∀ {P : List Str} {vs : List Value} {i : Nat} {m : Str → Option Value}, P.Nodup → P[i]? = some x → vs[i]? = some v → kindOf x ≠ some .local →
    bindC kindOf (P.zip vs) m x = some v
  | [], _, _, _, _, h, _, _ => by simp at h
  | _ :: _, [], _, _, _, _, h, _ => by simp at h
  | p :: P, w :: vs, 0, m, nd, h1, h2, hk => by
    simp at h1 h2; subst h1; subst h2
    show bindC kindOf ((p, w) :: P.zip vs) m p = _
    unfold bindC
    rw [bindC_out fun v hv => (List.nodup_cons.mp nd).1 (List.of_mem_zip hv).1, if_neg hk]
    simp
  | p :: P, w :: vs, i + 1, m, nd, h1, h2, hk => by
    show bindC kindOf ((p, w) :: P.zip vs) m x = _
    unfold bindC
    exact bindC_get (i := i) (List.nodup_cons.mp nd).2 (by simpa using h1) (by simpa using h2) hk
noncomputable def start (N : List Str) (vs : List V) : St := vs.map some ++ List.replicate (N.length - vs.length) none
noncomputable def cxOf (CX : CXT) (P : Program) (w : World) (K : PySem.W.Frag) (mg : Str → Option Value) (base : Heap) (N : List Str) (qual : Str) (scope : Scope) (f : Addr) (cd : Value) (A : Around) (outer : List Env) (s : Shared) (H : Hp) (E : XK) : Cx where
  prog := P
  w := w
  K := K
  mg := mg
  base := base
  A := A.deeper (envOfC qual scope s.heap.objs.size f cd)
  N := N
  s₀ := s
  H₀ := H
  env := envOfC qual scope s.heap.objs.size f cd
  outer := outer
  stack := envOfC qual scope s.heap.objs.size f cd :: outer
  ex := []
  calm := true
  fn := fun _ => true
  pn := []
  xe := fun e s' => wpAny (model P w) (A.deeper (envOfC qual scope s.heap.objs.size f cd)) (leaving (envOfC qual scope s.heap.objs.size f cd) e) (fun _ s'' => CX outer H s E e s'') (fun e' s'' => CX outer H s E e' s'') s'
private theorem cell_has {sc : Scope} {n : Nat} {x : Str} (h : sc.names.lookup x = some .cell) : ∃ c, (cellsFrom n sc.names []).lookup x = some c := by
  have q := PySem.W.cellsFrom_some sc.names n [] (.inl h)
  exact Option.isSome_iff_exists.mp q
private theorem inv_start {CX : CXT} {P : Program} {w : World} {K : PySem.W.Frag} {mg : Str → Option Value} {base : Heap} {N ps : List Str} {qual : Str} {scope : Scope} {f : Addr} {cd : Value} {A : Around} {outer : List Env} {s s1 : Shared} {H : Hp} {E : XK} {us : List Value} {vs : List V}
    (S : FnScope N ps scope) (hd : A.handled = none) (e0 : Env0 P w K mg base A outer s H) (hl : vs.length = ps.length) (r : Vals vs us)
    (x : InCallC s s.heap.objs.size (bindL (envOfC qual scope s.heap.objs.size f cd).kindOf (ps.zip us) fun _ => none) (cellsFrom (s.heap.objs.size + 1) scope.names []) (bindC (envOfC qual scope s.heap.objs.size f cd).kindOf (ps.zip us) fun _ => none) s1) :
    Inv (cxOf CX P w K mg base N qual scope f cd A outer s H E) [] (start N vs) H s1 := by
  have hpl : ps.length ≤ N.length := by have := congrArg List.length S.pre; rw [List.length_take] at this; omega
  obtain ⟨h1, tk, rfl, hk⟩ := x.done
  have noA : ∀ b : Addr, b ∉ (cxOf CX P w K mg base N qual scope f cd A outer s H E).ex := fun b z => absurd (show b ∈ ([] : List Addr) from z) (by simp)
  refine ⟨⟨e0.mod, S.kind, rfl, rfl, Nat.le_refl _, fun y z c h1 h2 => ?_, fun y hy => ?_, fun y c _ h => ?_, fun _ => hd, Around.frames_deeper e0.frames, .inr ⟨rfl, rfl⟩, fun b z => absurd z (noA b), e0.bs, e0.bsz, fun b _ _ => noA b, fun b z => absurd z (noA b), e0.funs, e0.frf⟩,
    rfl, e0.bare, Un.kept hk, ⟨_, x.toInCall.ns, fun i y v h1 h2 h3 => ?_⟩, fun y c h => ⟨_, x.cell y c h⟩, e0.hok.fresh (Nat.le_refl _), fun y c h => ?_, fun p hp => absurd (show p ∈ ([] : List (Addr × Obj)) from hp) (by simp), e0.hok.kept hk, ?_⟩
  · exact name_of_addr x.apart (PySem.mem_of_lookup h1) (PySem.mem_of_lookup h2)
  · have hy : scope.names.lookup y = some .cell ∨ scope.names.lookup y = some .free := hy
    rcases hy with hy | hy
    · exact cell_has hy
    · exact absurd rfl (S.nofree _ (PySem.mem_of_lookup hy))
  · exact Nat.le_of_lt (x.above y c (PySem.mem_of_lookup h))
  · have hi : i < vs.length := by
      unfold start at h2
      by_cases hi : i < vs.length
      · exact hi
      · rw [List.getElem?_append_right (by simpa using hi)] at h2
        rw [List.getElem?_replicate] at h2
        split at h2 <;> cases h2
    have ha : vs[i]? = some v := by
      unfold start at h2
      rw [List.getElem?_append_left (by simpa using hi), List.getElem?_map] at h2
      cases e : vs[i]? with
      | none => rw [e] at h2; cases h2
      | some a => rw [e] at h2; cases h2; rfl
    obtain ⟨u, hu, rv⟩ := r.get ha
    have hp : ps[i]? = some y := by
      rw [← S.pre, List.getElem?_take_of_lt (by omega)]; exact h1
    have ndP : ps.Nodup := by rw [← S.pre]; exact S.nd.sublist (List.take_sublist _ _)
    refine ⟨u, rv, ?_⟩
    rcases S.par y (List.mem_of_getElem? hp) with k | k
    · exact .inl ⟨k, bindL_get ndP hp hu k⟩
    · obtain ⟨c, e⟩ := cell_has (n := s.heap.objs.size + 1) k
      refine .inr ⟨.inl k, c, e, ?_⟩
      have q := x.cell y c e
      rw [bindC_get ndP hp hu (by show scope.names.lookup y ≠ _; rw [k]; decide)] at q
      exact q
  · exact e0.hok.fresh (Nat.le_of_lt (x.above y c (PySem.mem_of_lookup h)))
  · unfold start
    show _ = N.length
    rw [List.length_append, List.length_map, List.length_replicate]
    omega
private theorem fn_of {CX : CXT} {P : Program} {w : World} {K : PySem.W.Frag} {mg : Str → Option Value} {base : Heap} {k : Nat} {f : Addr} {name qual : Str} {params : Arguments} {body : List Stmt} {scope : Scope} {dV kV doc pm cdv ct oc : Value} {an od : Option Addr}
    {osl : Array (Option Value)} {N ps : List Str} {sp : Sp} (lk : K.lookup f = some ⟨oc, od, .func (PySem.W.fnOf name qual params body scope dV kV doc pm an cdv ct), osl⟩) (hcd : PySem.W.codeIn K cdv qual = true) (S : FnScope N ps scope)
    (len : ∀ vs H Q E, sp vs H Q E → vs.length = ps.length)
    (hbody : ∀ (A : Around) (outer : List Env) (s : Shared) (H : Hp) (vs : List V) (Q : VK) (E : XK), Room k (A.deeper (envOfC qual scope s.heap.objs.size f cdv)) → sp vs H Q E →
      ∃ t, PSs (cxOf CX P w K mg base N qual scope f cdv A outer s H E) body t ∧ t { nx := fun _ H' => Q .non H', rt := Q } (start N vs) H) :
    FnOk P w K mg base CX (k + 1) f (PySem.W.fnOf name qual params body scope dV kV doc pm an cdv ct) ps sp := by
  refine ⟨len, fun A outer s H args us vs Q E hr e0 hb r hsp => ?_⟩
  have hl := len _ _ _ _ hsp
  have KX : K.In s.heap := e0.mod.kin.keeps fun b o e => (e0.bs b o e).1
  have lim : s.heap.NoLimit := e0.mod.nolimit.keeps fun b o e => (e0.bs b o e).1
  have hkind : ∀ y ∈ ps.zip us, scope.names.lookup y.1 = some .local ∨ (scope.names.lookup y.1 = some .cell ∧ ((cellsFrom (s.heap.objs.size + 1) scope.names []).lookup y.1).isSome = true) := fun ⟨n, v⟩ hy => by
    rcases S.par n (List.of_mem_zip hy).1 with q | q
    · exact .inl q
    · exact .inr ⟨q, PySem.W.cellsFrom_some _ _ _ (.inl q)⟩
  refine codeAny_call_function hr.depth (KX _ _ lk) rfl S.co S.gen rfl (PySem.W.codeRec_of KX hcd) (hb _ _ _ _ ?_)
  refine wpAny_newFunctionEnv_cells S.kind hkind fun env he s1 x => ?_
  subst he
  refine ⟨lim.keeps x.toInCall.keep, codeAny_func ?_⟩
  obtain ⟨t, ht, hq⟩ := hbody A outer s H vs Q E (hr.deeper _) hsp
  have I : Inv (cxOf CX P w K mg base N qual scope f cdv A outer s H E) [] (start N vs) H s1 := inv_start S hr.hd e0 hl r x
  refine wpAny_mono (ht [] s1 (start N vs) H _ I hq) (fun fl s' hs => ?_) fun e s' hs => hs
  have fin : ∀ {σ' : St} {H' : Hp} {v : V} {u : Value}, Inv (cxOf CX P w K mg base N qual scope f cdv A outer s H E) [] σ' H' s' → RelV v u → Q v H' → CE outer P w H s Q u s' :=
    fun {σ' H' v u} J rv q => ⟨v, H', J.os, J.bare, J.base, J.hok, rv, q⟩
  cases fl with
  | ret u =>
    obtain ⟨v, σ', H', J, rv, q⟩ := hs
    exact fin J rv q
  | next =>
    obtain ⟨σ', H', J, q⟩ := hs
    exact fin (v := V.non) (u := Value.none) J rfl q
  | brk =>
    obtain ⟨_, _, _, q⟩ := hs
    exact False.elim q
  | cont =>
    obtain ⟨_, _, _, q⟩ := hs
    exact False.elim q
end L2
namespace L2
open PySem PySem.Spec PyProof.Rows
section
variable {X : Cx} {x : Str} {p pos : Pos} {e : Expr} {es : List Expr} {t : TA} {id T : String} {r : List V → Hp → VK → Prop}
noncomputable def tCB (r : List V → Hp → VK → Prop) (t : TA) : TE := fun σ H Q => t σ H fun vs H1 => r vs H1 Q
private theorem pe_callB (hc : CallR X (.builtin id) r) (hg : Gl X x) (hm : X.mg x = none) (hv : bootBuiltins x = some (.builtin id)) (ha : PA X (e :: es) t) (hn : x ≠ "__name__" := by decide) (hdb : (x == ("__debug__" : Str)) = false := by decide)
    (he : starEach (e :: es) X.env = (false, eval e X.env) :: starEach es X.env := by rfl) (hpl : (backTo pos (starEach es X.env)).any (·.1) = false := by rfl) : PE X (.Call (.Name x p) (e :: es) [] pos) (tCB r t) := by
  intro pins s σ H Q I h
  refine wpAny_Call_Name_kw (ld_blt I hg hm hv ?_ hn hdb)
  exact PyProof.Rows.callWith_builtin1 (thn (ha pos pins s σ H _ I h) fun us s1 zz81 => e23 zz81 fun vs H1 I1 r1 q1 => hc pins s1 σ H1 vs us Q I1 r1 q1) he hpl
private theorem pe_callTy (hc : CallR X (.type T) r) (hg : Gl X x) (hm : X.mg x = none) (hv : bootBuiltins x = some (.type T)) (ha : PA X (e :: es) t) (hn : x ≠ "__name__" := by decide) (hdb : (x == ("__debug__" : Str)) = false := by decide)
    (he : starEach (e :: es) X.env = (false, eval e X.env) :: starEach es X.env := by rfl) (hpl : (backTo pos (starEach es X.env)).any (·.1) = false := by rfl) : PE X (.Call (.Name x p) (e :: es) [] pos) (tCB r t) := by
  intro pins s σ H Q I h
  refine wpAny_Call_Name_kw (ld_blt I hg hm hv ?_ hn hdb)
  exact PyProof.Rows.callWith_type1 (thn (ha pos pins s σ H _ I h) fun us s1 zz82 => e23 zz82 fun vs H1 I1 r1 q1 => hc pins s1 σ H1 vs us Q I1 r1 q1) he hpl
end
end L2
namespace HT
open PySem PyProof.Rows
section
open PySem.SeqAt
open PySem.AutoSeq1 (wpAny_loadPart')
open PySem.MeetsSeq PySem.MeetsSeq2 PySem.MeetsSeq3
end
section
variable {prog : Program} {w : World} {A : Around} {E : Value → Shared → Prop} {s : Shared}
private theorem cat_tup {t b : Addr} {vs ws : List Value} {Q : Value → Shared → Prop} (ht : IsTup s.heap t vs.toArray) (hb : IsTup s.heap b ws.toArray) (hv : vs ≠ [])
    (h1 : ws = [] → Q (.ref t) s) (h2 : ws ≠ [] → Q (.ref s.heap.objs.size) { s with heap := s.heap.push { cls := .type "tuple", data := .seq (vs ++ ws).toArray } })
    (hsz : vs.length + ws.length ≤ sizeLine) : wpAny (model prog w) A (binaryOp .Add (.ref t) (.ref b)) Q E s := by
  obtain ⟨⟨cls, dd, data, sl⟩, ho, hc, n, hd⟩ := id ht
  obtain ⟨⟨cls2, dd2, data2, sl2⟩, ho2, hc2, n2, hd2⟩ := id hb
  simp only at hc hd hc2 hd2
  subst hc hd hc2 hd2
  have e : vs.toArray ++ ws.toArray = (vs ++ ws).toArray := by simp
  by_cases hw : ws = []
  · exact concat_meets ⟨_, ho, rfl⟩ ⟨_, ho2, rfl⟩ noFill_tuple_add seq_tuple_add PySem.F.slot_tuple_add PySem.F.entry_tuple_add (PySem.F.args_tuple_add_2 _ _)
      (tuple_addW1 t b vs.toArray ws.toArray n n2 dd dd2 sl sl2 (by simpa using hv) (by simp [hw])) ⟨ho, ho2, h1 hw⟩
  · refine concat_meets ⟨_, ho, rfl⟩ ⟨_, ho2, rfl⟩ noFill_tuple_add seq_tuple_add PySem.F.slot_tuple_add PySem.F.entry_tuple_add (PySem.F.args_tuple_add_2 _ _)
      (tuple_addW2 t b vs.toArray ws.toArray n n2 dd dd2 sl sl2 (by simpa using hv) (by simpa using hw) (by rw [List.size_toArray, List.size_toArray]; exact hsz)) ⟨ho, ho2, ?_⟩
    rw [e]
    exact h2 hw
noncomputable def sIx (n d : Nat) : Option Int → Nat
  | none => d
  | some v => if v < 0 then (v + (n : Int)).toNat else min v.toNat n
private theorem sIx_le (n d : Nat) (hd : d ≤ n) (o : Option Int) : sIx n d o ≤ n := by
  cases o with
  | none => exact hd
  | some v =>
    show (if v < 0 then (v + (n : Int)).toNat else min v.toNat n) ≤ n
    by_cases hv : v < 0
    · rw [if_pos hv]; omega
    · rw [if_neg hv]; exact Nat.min_le_right _ _
private theorem clip_eq (v : Int) (n d : Nat) : (if v < 0 then max (v + (n : Int)) 0 else min v (n : Int)) = ((sIx n d (some v) : Nat) : Int) := by
  show (if v < 0 then max (v + (n : Int)) 0 else min v (n : Int)) = (((if v < 0 then (v + (n : Int)).toNat else min v.toNat n) : Nat) : Int)
  by_cases hv : v < 0
  · simp only [if_pos hv]; omega
  · simp only [if_neg hv]; omega
private theorem adjust_gen (lo hi : Option Int) (n : Nat) : Builtin.Slice.sliceAdjust lo hi 1 (n : Int) = (((sIx n 0 lo : Nat) : Int), ((sIx n n hi : Nat) : Int)) := by
  have h1 : ¬ ((1 : Int) < 0) := by omega
  unfold Builtin.Slice.sliceAdjust
  simp only [h1, if_false]
  refine Prod.ext ?_ ?_
  · cases lo with
    | none => rfl
    | some v => exact clip_eq v n 0
  · cases hi with
    | none => rfl
    | some v => exact clip_eq v n n
private theorem places_gen (i j : Nat) : Builtin.Slice.slicePlaces (i : Int) (j : Int) 1 = j - i := by
  unfold Builtin.Slice.slicePlaces
  have h1 : (1 : Int) > 0 := by omega
  simp only [h1, if_true, Int.ediv_one]
  split <;> omega
private theorem slicePart_ {v : Value} {o : Option Int} {Q : Option Int → Shared → Prop} (p : IsPart v o) (h : Q o s) : wpAny (model prog w) A (Builtin.Slice.slicePartIndex v) Q E s := by
  cases p with
  | none => exact slicePart_none h
  | int i t => exact slicePart_int h
private theorem sliceApplied_gen {sl : Addr} {vl vu : Value} {lo hi : Option Int} {n : Nat} {Q : Int × Int × Nat → Shared → Prop} (hs : s.heap.IsSliceOf sl vl vu .none) (pl : IsPart vl lo) (pu : IsPart vu hi)
    (h : Q (((sIx n 0 lo : Nat) : Int), 1, sIx n n hi - sIx n 0 lo) s) : wpAny (model prog w) A (Builtin.Slice.sliceApplied (.ref sl) (pure (n : Int))) Q E s := by
  obtain ⟨os, hos, hcs, hds⟩ := id hs
  unfold Builtin.Slice.sliceApplied Builtin.Slice.sliceFields
  refine wpAny_bind (wpAny_bind (wpAny_field hos hds (x := vl) rfl (wpAny_bind (wpAny_field hos hds (x := vu) rfl (wpAny_bind (wpAny_field hos hds (x := .none) rfl (wpAny_pure ?_)))))))
  refine wpAny_bind (slicePart_none ?_)
  show wpAny _ _ (if ((1 : Int) == 0) = true then _ else _) _ _ s
  rw [if_neg (by decide)]
  refine wpAny_bind (slicePart_ pl (wpAny_bind (slicePart_ pu (wpAny_bind (wpAny_pure ?_)))))
  show wpAny _ _ (match Builtin.Slice.sliceAdjust lo hi 1 (n : Int) with | (lo, hi) => pure (lo, (1 : Int), Builtin.Slice.slicePlaces lo hi 1)) _ _ s
  rw [adjust_gen lo hi n]
  show wpAny _ _ (pure (((sIx n 0 lo : Nat) : Int), (1 : Int), Builtin.Slice.slicePlaces ((sIx n 0 lo : Nat) : Int) ((sIx n n hi : Nat) : Int) 1)) _ _ s
  rw [places_gen]
  exact wpAny_pure h
private theorem pick_gen (xs : Array Value) (i k : Nat) : ((List.range k).filterMap fun (m : Nat) => xs[((i : Int) + (m : Int) * 1).toNat]?).toArray = ((xs.toList.drop i).take k).toArray := by
  have e : (fun (m : Nat) => xs[((i : Int) + (m : Int) * 1).toNat]?) = fun m => xs[i + m]? := by
    funext m
    have : ((i : Int) + (m : Int) * 1).toNat = i + m := by omega
    rw [this]
  rw [e]
  have := pick_run xs i k
  rw [List.filterMap_map] at this
  have e2 : ((fun x => xs[x]?) ∘ fun x => i + x) = fun m => xs[i + m]? := rfl
  rw [e2] at this
  rw [this]
private theorem getItem_tuple_cut {t sl : Addr} {items : Array Value} {vl vu : Value} {lo hi : Option Int} {Q : Value → Shared → Prop} (ht : IsTup s.heap t items) (hs : s.heap.IsSliceOf sl vl vu .none) (pl : IsPart vl lo) (pu : IsPart vu hi)
    (hw : ¬ (sIx items.size 0 lo = 0 ∧ sIx items.size items.size hi = items.size))
    (h : Q (.ref s.heap.objs.size) { s with heap := s.heap.push { cls := .type "tuple", data := .seq ((items.toList.drop (sIx items.size 0 lo)).take (sIx items.size items.size hi - sIx items.size 0 lo)).toArray } })
    (hsz : items.size ≤ sizeLine) : wpAny (model prog w) A (getItem (.ref t) (.ref sl)) Q E s := by
  have htake : sizeOk (.seq ((items.toList.drop (sIx items.size 0 lo)).take (sIx items.size items.size hi - sIx items.size 0 lo)).toArray) := by
    show ((items.toList.drop (sIx items.size 0 lo)).take (sIx items.size items.size hi - sIx items.size 0 lo)).toArray.size ≤ sizeLine
    rw [List.size_toArray, List.length_take, List.length_drop, Array.length_toList]
    omega
  have hj : sIx items.size items.size hi ≤ items.size := sIx_le _ _ (Nat.le_refl _) hi
  obtain ⟨os, hos, hcs, hds⟩ := id hs
  have hTs : s.TypeIs (.ref sl) "slice" := ⟨os, hos, hcs⟩
  unfold getItem
  try with_reducible refine wpAny_holding ?_
  first | refine wpAny_bind (wpAny_pure ?_) | skip
  refine wpAny_bind (wpAny_sequenceKey ht.typeIs (by decide) ?_)
  refine wpAny_bind (wpAny_callSpecial?_slot (name := Str.ofString "__getitem__") ht.typeIs PyProof.Rows.slot_tuple_getitem
    (wpAny_call_entry PyProof.Rows.slot_tuple_getitem ht.typeIs entry_tuple_getitem ?_ (args_tuple_getitem _ _)))
  show wpAny _ _ (Builtin.Tuple.tupleItemsOf (.ref t) >>= _) _ _ s
  refine wpAny_bind (tupleItemsOf_ ht ?_)
  refine wpAny_bind (wpAny_typeOf hTs ?_)
  rw [if_pos (by decide)]
  refine wpAny_bind (sliceApplied_gen hs pl pu ?_)
  have hno : ¬ ((((sIx items.size 0 lo : Nat) : Int) == 0 && (1 : Int) == 1 && (sIx items.size items.size hi - sIx items.size 0 lo) == items.size) = true) := by
    intro q
    rw [Bool.and_eq_true, Bool.and_eq_true] at q
    have q1 : ((sIx items.size 0 lo : Nat) : Int) = 0 := eq_of_beq q.1.1
    have q2 : sIx items.size items.size hi - sIx items.size 0 lo = items.size := eq_of_beq q.2
    exact hw ⟨by omega, by omega⟩
  show wpAny _ _ (if (((sIx items.size 0 lo : Nat) : Int) == 0 && (1 : Int) == 1 && (sIx items.size items.size hi - sIx items.size 0 lo) == items.size) = true then _ else _) _ _ s
  rw [if_neg hno, pick_gen]
  first
    | exact wpAny_bind (m := Builtin.Tuple.tupleExact _) (wpAny_newObj_type (wpAny_pure ⟨_, rfl, wpAny_pure h⟩) htake)
    | exact wpAny_bind (m := Builtin.Tuple.tupleExact _) (wpAny_newObj_type (wpAny_bind (wpAny_pure (wpAny_pure ⟨_, rfl, wpAny_pure h⟩))) htake)
    | exact wpAny_bind (wpAny_bind (m := Builtin.Tuple.tupleExact _) (wpAny_newObj_type (wpAny_pure (wpAny_pure ⟨_, rfl, wpAny_pure h⟩)) htake))
    | exact wpAny_bind (wpAny_bind (m := Builtin.Tuple.tupleExact _) (wpAny_newObj_type (wpAny_pure ⟨_, rfl, wpAny_pure h⟩) htake))
end
end HT
namespace L2
open PySem PySem.Spec PyProof.Rows
noncomputable abbrev TO := St → Hp → (Option Int → Hp → Prop) → Prop
noncomputable def PO (X : Cx) (e : Option Expr) (t : TO) : Prop :=
  ∀ (pins : List (Addr × Obj)) (s : Shared) (σ : St) (H : Hp) (Q : Option Int → Hp → Prop), Inv X pins σ H s → t σ H Q →
    wpAny (model X.prog X.w) X.A (evalPart e X.env) (fun u s' => ∃ o H', Inv X pins σ H' s' ∧ IsPart u o ∧ Q o H') X.xe s
noncomputable def tNoPart : TO := fun _ H Q => Q none H
noncomputable def tPart (t : TE) : TO := fun σ H Q => t σ H fun x H1 => ∃ i, x = .int i ∧ Q (some i) H1
section
variable {X : Cx} {e : Expr} {te : TE} {lo hi : Option Expr} {tl th : TO} {pos p2 : Pos}
private theorem po_none : PO X none tNoPart := by
  intro pins s σ H Q I h
  rw [evalPart_none]
  exact wpAny_pure ⟨none, H, I, .none, h⟩
private theorem po_some (h : PE X e te) : PO X (some e) (tPart te) := by
  intro pins s σ H Q I hw
  rw [evalPart_some]
  refine thn (h pins s σ H _ I hw) fun u s1 zz83 => e23 zz83 fun x H1 I1 r1 q1 => ?_
  obtain ⟨i, rfl, q⟩ := q1
  obtain ⟨t, rfl⟩ := r1
  exact ⟨some i, H1, I1, .int i t, q⟩
noncomputable def SlR (X : Cx) (r : V → Option Int → Option Int → Hp → VK → Prop) : Prop :=
  ∀ (pins : List (Addr × Obj)) (s : Shared) (σ : St) (H : Hp) (x : V) (v vl vu : Value) (lo hi : Option Int) (sl : Addr) (Q : VK), Inv X pins σ H s → RelV x v → s.heap.IsSliceOf sl vl vu .none → IsPart vl lo → IsPart vu hi → r x lo hi H Q →
    ∃ T id, typeLookup (.type T) "__getitem__" = pure (some (.builtin id)) ∧ s.TypeIs v T ∧ wpAny (model X.prog X.w) X.A (getItem v (.ref sl)) (EP X pins σ Q) X.xe s
noncomputable def tSl (r : V → Option Int → Option Int → Hp → VK → Prop) (te : TE) (tl th : TO) : TE := fun σ H Q => te σ H fun x H1 => tl σ H1 fun l H2 => th σ H2 fun u H3 => r x l u H3 Q
private theorem pe_slice {r : V → Option Int → Option Int → Hp → VK → Prop} (hr : SlR X r) (he : PE X e te) (hl : PO X lo tl) (hu : PO X hi th) : PE X (.Subscript e (.Slice lo hi none p2) pos) (tSl r te tl th) := by
  intro pins s σ H Q I h
  refine Subscript_ (thn (he pins s σ H _ I h) fun v s1 zz84 => e23 zz84 fun x H1 I1 r1 q1 => ?_)
  refine wpAny_Slice (thn (hl pins s1 σ H1 _ I1 q1) fun vl s2 zz85 => e23 zz85 fun l H2 I2 pl q2 => thn (hu pins s2 σ H2 _ I2 q2) fun vu s3 zz86 => e23 zz86 fun u H3 I3 pu q3 => ?_)
  rw [evalPart_none]
  refine wpAny_pure ?_
  have I4 : Inv X pins σ H3 { s3 with heap := s3.heap.push { cls := .type "slice", data := .fields #[vl, vu, .none] } } := I3.kept (t' := s3.toks) fun b ob q => Heap.get?_push_of_some _ q
  obtain ⟨T, id, hT, ht, hg⟩ := hr pins { s3 with heap := s3.heap.push { cls := .type "slice", data := .fields #[vl, vu, .none] } } σ H3 x v vl vu l u s3.heap.objs.size Q I4 r1 (Heap.IsSliceOf.new ..) pl pu q3
  show wpAny (model X.prog X.w) X.A (subscriptTail e (.Slice lo hi none p2) v (.ref s3.heap.objs.size)) (EP X pins σ Q) X.xe { s3 with heap := s3.heap.push { cls := .type "slice", data := .fields #[vl, vu, .none] } }
  exact tail_any (ops := [.ref s3.heap.objs.size, v]) ht hT hg (by with_unfolding_all rfl)
noncomputable def cutV (xs : List V) (lo hi : Option Int) : List V := (xs.drop (HT.sIx xs.length 0 lo)).take (HT.sIx xs.length xs.length hi - HT.sIx xs.length 0 lo)
private theorem cutV_length (xs : List V) (lo hi : Option Int) : (cutV xs lo hi).length ≤ xs.length := by
  unfold cutV
  rw [List.length_take, List.length_drop]
  omega
noncomputable def rSlT (K : PySem.W.Frag) : V → Option Int → Option Int → Hp → VK → Prop := fun x lo hi H Q => ∃ a xs, x = .ref a ∧ SqT K H a xs ∧
  ¬ (HT.sIx xs.length 0 lo = 0 ∧ HT.sIx xs.length xs.length hi = xs.length) ∧ ∀ p, H p = none → Q (.ref p) (upd H p (.tup (cutV xs lo hi)))
private theorem sl_tup : SlR X (rSlT X.K) := by
  intro pins s σ H x v vl vu lo hi sl Q I rx hs pl pu h
  obtain ⟨a, xs, rfl, hx, hw, q⟩ := h
  cases rx
  obtain ⟨its, r, ht, hz⟩ := I.tuple hx
  have hlen : its.toArray.size = xs.length := by rw [List.size_toArray]; exact r.length.symm
  refine ⟨"tuple", _, PyProof.Rows.slot_tuple_getitem.lookup, ht.typeIs, ?_⟩
  refine HT.getItem_tuple_cut ht hs pl pu (by rw [hlen]; exact hw) ?_ (by rw [hlen]; exact hz)
  rw [hlen]
  refine ⟨.ref s.heap.objs.size, _, I.laid (t' := s.toks) (o := .tup (cutV xs lo hi)) (fun b ob q => Heap.get?_push_of_some _ q) (Nat.le_refl _) ?_, rfl, q _ (I.hok.fresh (Nat.le_refl _))⟩
  exact ⟨Nat.le_trans (cutV_length xs lo hi) hz, _, (r.drop (HT.sIx xs.length 0 lo)).take (HT.sIx xs.length xs.length hi - HT.sIx xs.length 0 lo), IsTup.new _ _⟩
noncomputable def rCatT (K : PySem.W.Frag) : R2 := fun x y H Q => ∃ a b xs ys, x = .ref a ∧ y = .ref b ∧ SqT K H a xs ∧ SqT K H b ys ∧ xs ≠ [] ∧ xs.length + ys.length ≤ sizeLine ∧
  (ys = [] → Q (.ref a) H) ∧ (ys ≠ [] → ∀ p, H p = none → Q (.ref p) (upd H p (.tup (xs ++ ys))))
private theorem Vals.nil_iff {xs : List V} {us : List Value} (r : Vals xs us) : us = [] ↔ xs = [] := by
  cases r with
  | nil => simp
  | cons _ _ => simp
private theorem op_catT : OpR X (binaryOp .Add) (rCatT X.K) := by
  intro pins s σ H x y v u Q I rx ry h
  obtain ⟨a, b, xs, ys, rfl, rfl, ha, hb, hx, hz, q1, q2⟩ := h
  cases rx
  cases ry
  obtain ⟨its, r1, p1, _⟩ := I.tuple ha
  obtain ⟨its2, r2, p2, _⟩ := I.tuple hb
  refine HT.cat_tup p1 p2 (fun z => hx (r1.nil_iff.mp z)) (fun z => ⟨.ref a, H, I, rfl, q1 (r2.nil_iff.mp z)⟩) (fun z => ?_) (by rw [← r1.length, ← r2.length]; exact hz)
  refine ⟨.ref s.heap.objs.size, _, I.laid (t' := s.toks) (o := .tup (xs ++ ys)) (fun b ob q => Heap.get?_push_of_some _ q) (Nat.le_refl _) ?_, rfl, q2 (fun w => z (r2.nil_iff.mpr w)) _ (I.hok.fresh (Nat.le_refl _))⟩
  exact ⟨by rw [List.length_append]; exact hz, _, r1.append r2, IsTup.new _ _⟩
end
end L2
namespace L2
open PySem PySem.Spec PyProof.Rows
noncomputable def ixN (n : Nat) (i : Int) : Option Nat := if 0 ≤ i then (if i < n then some i.toNat else none) else if -(n : Int) ≤ i then some (i + n).toNat else none
noncomputable def atI {α : Type} (xs : List α) (i : Int) : Option α := (ixN xs.length i).bind fun j => xs[j]?
private theorem ixN_seq {n : Nat} {i : Int} {j : Nat} (h : ixN n i = some j) : seqIndex? i n = some j ∧ j < n ∧ -(n : Int) ≤ i ∧ i < n := by
  unfold ixN at h
  by_cases h0 : 0 ≤ i
  · rw [if_pos h0] at h
    by_cases h1 : i < n
    · rw [if_pos h1] at h
      have e : i.toNat = j := Option.some.inj h
      exact ⟨by rw [seqIndex_of h0 h1, e], by omega, by omega, h1⟩
    · rw [if_neg h1] at h; cases h
  · rw [if_neg h0] at h
    by_cases h1 : -(n : Int) ≤ i
    · rw [if_pos h1] at h
      have e : (i + n).toNat = j := Option.some.inj h
      exact ⟨by rw [seqIndex_neg (by omega) h1, e], by omega, h1, by omega⟩
    · rw [if_neg h1] at h; cases h
private theorem atI_get {α : Type} {xs : List α} {i : Int} {v : α} (h : atI xs i = some v) : ∃ j, seqIndex? i xs.length = some j ∧ xs[j]? = some v ∧ j < xs.length ∧ -(xs.length : Int) ≤ i ∧ i < xs.length := by
  unfold atI at h
  cases e : ixN xs.length i with
  | none => rw [e] at h; cases h
  | some j =>
    rw [e] at h
    obtain ⟨h1, h2, h3, h4⟩ := ixN_seq e
    exact ⟨j, h1, h, h2, h3, h4⟩
private theorem atI_nat {α : Type} {xs : List α} {j : Nat} {v : α} (h : xs[j]? = some v) : atI xs (j : Int) = some v := by
  have hj : j < xs.length := (List.getElem?_eq_some_iff.mp h).1
  have e : ixN xs.length (j : Int) = some j := by
    unfold ixN
    rw [if_pos (by omega), if_pos (by omega)]; simp
  unfold atI; rw [e]; exact h
noncomputable def PlainIx (b : Expr) : Prop := ∀ o i, subscripted b false o i = operate [o, i] (getItem o i)
noncomputable def IxR (X : Cx) (r : R2) : Prop :=
  ∀ (value slice : Expr) (pins : List (Addr × Obj)) (s : Shared) (σ : St) (H : Hp) (x y : V) (v u : Value) (Q : VK), Inv X pins σ H s → RelV x v → RelV y u → r x y H Q →
    subscripted slice false v u = operate [v, u] (getItem v u) → wpAny (model X.prog X.w) X.A (subscriptTail value slice v u) (EP X pins σ Q) X.xe s
noncomputable def MtR (X : Cx) (id : String) (r : V → List V → Hp → VK → Prop) : Prop :=
  ∀ (pins : List (Addr × Obj)) (s : Shared) (σ : St) (H : Hp) (x : V) (xs : List V) (v : Value) (us : List Value) (Q : VK), Inv X pins σ H s → RelV x v → Vals xs us → r x xs H Q →
    wpAny (model X.prog X.w) X.A (call (.builtin id) (v :: us)) (EP X pins σ Q) X.xe s
section
variable {X : Cx} {a b : Expr} {ta tb : TE} {pos : Pos}
private theorem IxR.or {r r' : R2} (h : IxR X r) (h' : IxR X r') : IxR X (fun x y H Q => r x y H Q ∨ r' x y H Q) := by
  intro value slice pins s σ H x y v u Q I rx ry q hs
  rcases q with q | q
  · exact h value slice pins s σ H x y v u Q I rx ry q hs
  · exact h' value slice pins s σ H x y v u Q I rx ry q hs
private theorem pe_ix {r : R2} (hr : IxR X r) (ha : PE X a ta) (hb : PE X b tb) (hs : PlainIx b) : PE X (.Subscript a b pos) (tOp r ta tb) := by
  intro pins s σ H Q I h
  exact Subscript_ (binT ha hb I h fun v u s2 x y H2 I2 rx ry q => hr a b pins s2 σ H2 x y v u Q I2 rx ry q (hs _ _))
noncomputable def rIxL (K : PySem.W.Frag) : R2 := fun x y H Q => ∃ p xs i v, x = .ref p ∧ y = .int i ∧ SqL K H p xs ∧ atI xs i = some v ∧ Q v H
noncomputable def rIxT (K : PySem.W.Frag) : R2 := fun x y H Q => ∃ p xs i v, x = .ref p ∧ y = .int i ∧ SqT K H p xs ∧ atI xs i = some v ∧ Q v H
noncomputable def rIxS : R2 := fun x y H Q => ∃ z i c, x = .str z ∧ y = .int i ∧ z.length ≤ sizeLine ∧ atI z.cps.toList i = some c ∧ Q (.str ⟨#[c]⟩) H
private theorem ix_list : IxR X (rIxL X.K) := by
  intro value slice pins s σ H x y v u Q I rx ry h hs
  obtain ⟨p, xs, i, z, rfl, rfl, hq, he, q⟩ := h
  cases rx
  obtain ⟨t, rfl⟩ := ry
  obtain ⟨its, r, pl, hz⟩ := I.list hq
  obtain ⟨j, h1, h2, h3, h4, h5⟩ := atI_get he
  obtain ⟨w, ew, rw'⟩ := r.get h2
  have hl := r.length
  have hn := line63
  have fin : EP X pins σ Q w s := ⟨z, H, I, rw', q⟩
  by_cases h0 : 0 ≤ i
  · have hj : i.toNat = j := by
      rw [seqIndex_of h0 h5] at h1
      exact Option.some.inj h1
    exact item_listR pl.isList h0 (by omega) (by rw [hj]; simpa using ew) fin hs
  · have hj : (i + (its.toArray.size : Int)).toNat = j := by
      rw [seqIndex_neg (by omega) h4] at h1
      rw [List.size_toArray, ← hl]
      exact Option.some.inj h1
    exact subscriptTail_builtinR (x := w) pl.isList.typeIs slot_list_getitem.lookup
      (wpAny_getItem_list_neg (Q := fun r s' => r = w ∧ EP X pins σ Q r s') pl.isList (by omega) (by rw [List.size_toArray] <;> omega) (by omega) (by rw [hj]; simpa using ew) ⟨rfl, fin⟩) hs
private theorem ix_tup : IxR X (rIxT X.K) := by
  intro value slice pins s σ H x y v u Q I rx ry h hs
  obtain ⟨p, xs, i, z, rfl, rfl, hq, he, q⟩ := h
  cases rx
  obtain ⟨t, rfl⟩ := ry
  obtain ⟨its, r, pl, hz⟩ := I.tuple hq
  obtain ⟨j, h1, h2, h3, h4, h5⟩ := atI_get he
  obtain ⟨w, ew, rw'⟩ := r.get h2
  have hl := r.length
  have hn := line63
  have fin : EP X pins σ Q w s := ⟨z, H, I, rw', q⟩
  exact subscriptTail_builtinR (x := w) pl.typeIs slot_tuple_getitem.lookup
    (getItem_tuple (j := j) (Q := fun r s' => r = w ∧ EP X pins σ Q r s') pl (by omega) (by omega) (by rw [List.size_toArray, ← hl]; exact h1) (by simpa using ew) ⟨rfl, fin⟩) hs
private theorem ix_str : IxR X rIxS := by
  intro value slice pins s σ H x y v u Q I rx ry h hs
  obtain ⟨z, i, c, rfl, rfl, hz, he, q⟩ := h
  obtain ⟨t, rfl⟩ := rx
  obtain ⟨t', rfl⟩ := ry
  obtain ⟨j, h1, h2, h3, h4, h5⟩ := atI_get he
  have hl : z.cps.toList.length = z.length := by simp [Str.length]
  rw [hl] at h1 h4 h5
  have hn := line63
  exact tail_any (typeIs_str s z t) slot_str_getitem.lookup (getItem_str (c := c) (by
    have e1 : decide (i < -(2 ^ 63 : Int)) = false := decide_eq_false (by omega)
    have e2 : decide (i ≥ 2 ^ 63) = false := decide_eq_false (by omega)
    rw [e1, e2, Bool.or_false]) (by rw [h1]; simpa using h2) ⟨.str ⟨#[c]⟩, H, I.tok _, ⟨_, rfl⟩, q⟩) hs
noncomputable def rIx (K : PySem.W.Frag) : R2 := fun x y H Q => rIxL K x y H Q ∨ rIxT K x y H Q ∨ rIxS x y H Q
private theorem ix_seq : IxR X (rIx X.K) := ix_list.or (ix_tup.or ix_str)
private theorem mapSeq_set (its : List Value) (n j : Nat) (u : Value) : Obj.mapSeq (·.setIfInBounds j u) { cls := .type "list", data := .seq its.toArray n } = { cls := .type "list", data := .seq (its.set j u).toArray n } := by
  simp [Obj.mapSeq]
private theorem Inv.lst {pins : List (Addr × Obj)} {σ : St} {H : Hp} {s : Shared} {p : Addr} {xs : List V} (I : Inv X pins σ H s) (h : H p = some (.lst xs)) :
    ∃ (its : List Value) (n : Nat), Vals xs its ∧ s.heap.get? p = some { cls := .type "list", data := .seq its.toArray n } ∧ xs.length ≤ sizeLine := by
  obtain ⟨z, its, n, r, e⟩ := I.hok p _ h
  exact ⟨its, n, r, e, z⟩
private theorem Inv.lstUpd {pins : List (Addr × Obj)} {σ : St} {H : Hp} {s : Shared} {p : Addr} {xs ys : List V} {its its' : List Value} {n n' : Nat} {f : Obj → Obj} (I : Inv X pins σ H s) (h : H p = some (.lst xs))
    (ho : s.heap.get? p = some { cls := .type "list", data := .seq its.toArray n }) (hf : f { cls := .type "list", data := .seq its.toArray n } = { cls := .type "list", data := .seq its'.toArray n' }) (r : Vals ys its') (hz : ys.length ≤ sizeLine) (t : Nat) :
    Inv X pins σ (upd H p (.lst ys)) { s with heap := s.heap.update p f, toks := t } := by
  have e : (s.heap.update p f).get? p = some { cls := .type "list", data := .seq its'.toArray n' } := by
    rw [Heap.get?_update_self f ho (by rw [hf] <;> rfl), hf]
  refine I.write (x := p) (e := p) (by rw [h]; trivial) (.inl rfl) (fun b u hb q => (Heap.get?_update_other _ _ (Ne.symm hb)).trans q) ⟨_, e⟩ ?_
  exact ⟨hz, its', n', r, e⟩
noncomputable def rSetL : V → V → V → Hp → (Hp → Prop) → Prop := fun o i v H Q => ∃ p xs k j, o = .ref p ∧ i = .int k ∧ H p = some (.lst xs) ∧ ixN xs.length k = some j ∧ Q (upd H p (.lst (xs.set j v)))
private theorem set_list : PSet X rSetL := by
  intro pins s σ H o i v ov iv u Q I ro ri rv h
  obtain ⟨p, xs, k, j, rfl, rfl, hp, hj, q⟩ := h
  cases ro
  obtain ⟨t, rfl⟩ := ri
  obtain ⟨its, n, r, ho, hz⟩ := I.lst hp
  obtain ⟨h1, h2, h3, h4⟩ := ixN_seq hj
  have hl := r.length
  have hn := line63
  have I' : Inv X pins σ (upd H p (.lst (xs.set j v))) { s with heap := s.heap.update p (Obj.mapSeq (·.setIfInBounds j u)) } :=
    I.lstUpd hp ho (mapSeq_set its n j u) (r.set rv j) (by rw [List.length_set]; exact hz) s.toks
  by_cases h0 : 0 ≤ k
  · have hk : k.toNat = j := by
      rw [seqIndex_of h0 h4] at h1
      exact Option.some.inj h1
    exact PySem.W.ki_setAt ho h0 (by omega) (by rw [List.size_toArray, ← hl]; exact h4) (by rw [hk]; exact ⟨_, I', q⟩)
  · have hk : (k + (its.toArray.size : Int)).toNat = j := by
      rw [seqIndex_neg (by omega) h3] at h1
      rw [List.size_toArray, ← hl]
      exact Option.some.inj h1
    exact PySem.W.ki_setBack ho (by omega) (by rw [List.size_toArray, ← hl]; exact h3) (by omega) (by rw [hk]; exact ⟨_, I', q⟩)
private theorem slice_bounds (lo hi : Option Int) (n : Nat) : (sliceBounds lo hi none n).1 = ((HT.sIx n 0 lo : Nat) : Int) ∧ (sliceBounds lo hi none n).2.1 = ((HT.sIx n n hi : Nat) : Int) ∧ (sliceBounds lo hi none n).2.2 = 1 := by
  refine ⟨?_, ?_, rfl⟩
  · cases lo with
    | none => simp [sliceBounds, HT.sIx]
    | some i =>
      simp only [sliceBounds, HT.sIx, Option.getD_none, show (1 : Int) > 0 by decide, if_true]
      by_cases h : i < 0
      · simp only [h, if_true] <;> omega
      · simp only [h, if_false] <;> omega
  · cases hi with
    | none => simp [sliceBounds, HT.sIx]
    | some i =>
      simp only [sliceBounds, HT.sIx, Option.getD_none, show (1 : Int) > 0 by decide, if_true]
      by_cases h : i < 0
      · simp only [h, if_true] <;> omega
      · simp only [h, if_false] <;> omega
private theorem slicePick_cut (its : List Value) (lo hi : Option Int) : slicePick its.toArray lo hi none = ((its.drop (HT.sIx its.length 0 lo)).take (HT.sIx its.length its.length hi - HT.sIx its.length 0 lo)).toArray := by
  obtain ⟨h1, h2, h3⟩ := slice_bounds lo hi its.toArray.size
  unfold slicePick
  rw [h1, h2, h3]
  simp only [sliceRange_one, pick_run, List.size_toArray] <;> rfl
noncomputable def rSlL (K : PySem.W.Frag) : V → Option Int → Option Int → Hp → VK → Prop := fun x lo hi H Q => ∃ a xs, x = .ref a ∧ SqL K H a xs ∧ ∀ p, H p = none → Q (.ref p) (upd H p (.lst (cutV xs lo hi)))
private theorem sl_list : SlR X (rSlL X.K) := by
  intro pins s σ H x v vl vu lo hi sl Q I rx hs pl pu h
  obtain ⟨a, xs, rfl, hx, q⟩ := h
  cases rx
  obtain ⟨its, r, ht, hz⟩ := I.list hx
  have hlen := r.length
  refine ⟨"list", _, slot_list_getitem.lookup, ht.isList.typeIs, ?_⟩
  refine wpAny_getItem_list_slice ht.isList hs pl pu .none (by simp) ?_ (by rw [List.size_toArray] <;> omega)
  rw [slicePick_cut, ← hlen]
  refine ⟨.ref s.heap.objs.size, _, I.laid (t' := s.toks) (o := .lst (cutV xs lo hi)) (fun b ob q => Heap.get?_push_of_some _ q) (Nat.le_refl _) ?_, rfl, q _ (I.hok.fresh (Nat.le_refl _))⟩
  exact ⟨Nat.le_trans (cutV_length xs lo hi) hz, _, 0, (r.drop (HT.sIx xs.length 0 lo)).take (HT.sIx xs.length xs.length hi - HT.sIx xs.length 0 lo), Heap.get?_push_size _ rfl⟩
private theorem call_len_seq : CallR X (.builtin "len") (fun xs H Q => ∃ p ys, xs = [.ref p] ∧ (SqL X.K H p ys ∨ SqT X.K H p ys) ∧ Q (.int ys.length) H) := by
  intro pins s σ H xs us Q I r h
  obtain ⟨p, ys, rfl, hq, q⟩ := h
  obtain ⟨u, rfl, rx⟩ := vals1 r
  cases rx
  have hn := line63
  rcases hq with hq | hq
  · obtain ⟨its, r', pl, hz⟩ := I.list hq
    have hlen := r'.length
    exact Calls.call_len_list pl.isList (by simp only [List.size_toArray] <;> omega) ⟨.int ys.length, H, I.tok _, ⟨s.toks + 1, by rw [List.size_toArray, hlen]⟩, q⟩
  · obtain ⟨its, r', pl, hz⟩ := I.tuple hq
    have hlen := r'.length
    exact len_tuple pl (by simp only [List.size_toArray] <;> omega) ⟨.int ys.length, H, I.tok _, ⟨s.toks + 1, by rw [List.size_toArray, hlen]⟩, q⟩
private theorem call_list_of : CallR X (.type "list") (fun xs H Q => ∃ p ys, xs = [.ref p] ∧ (SqL X.K H p ys ∨ SqT X.K H p ys) ∧ ∀ l, H l = none → Q (.ref l) (upd H l (.lst ys))) := by
  intro pins s σ H xs us Q I r h
  obtain ⟨p, ys, rfl, hq, q⟩ := h
  obtain ⟨u, rfl, rx⟩ := vals1 r
  cases rx
  have fin : ∀ (its : List Value), Vals ys its → ys.length ≤ sizeLine → ∀ (h' : Heap) (c' : Nat), (∀ b o', s.heap.get? b = some o' → h'.get? b = some o') →
      h'.get? s.heap.objs.size = some { cls := .type "list", dict := none, data := .seq its.toArray c', slots := #[] } → EP X pins σ Q (.ref s.heap.objs.size) { s with heap := h' } := fun its r' hz h' c' kp e =>
    ⟨.ref s.heap.objs.size, _, I.laid (t' := s.toks) kp (Nat.le_refl _) (show ObjOk X.prog X.w _ h' _ (.lst ys) from ⟨hz, its, c', r', e⟩), rfl, q _ (I.hok.fresh (Nat.le_refl _))⟩
  rcases hq with hq | hq
  · obtain ⟨its, r', pl, hz⟩ := I.list hq
    have hlen := r'.length
    obtain ⟨o, ho, hc, n, hd⟩ := pl.isList
    exact call_list_seq p (.inl rfl) ho hc hd (fun h' c' kp e => fin its r' hz h' c' kp e) (by simp only [List.size_toArray] <;> omega)
  · obtain ⟨its, r', pl, hz⟩ := I.tuple hq
    have hlen := r'.length
    obtain ⟨o, ho, hc, n, hd⟩ := pl
    exact call_list_seq p (.inr rfl) ho hc hd (fun h' c' kp e => fin its r' hz h' c' kp e) (by simp only [List.size_toArray] <;> omega)
private theorem call_tuple_of : CallR X (.type "tuple") (fun xs H Q => ∃ p ys, xs = [.ref p] ∧ ((SqL X.K H p ys ∧ ∀ l, H l = none → Q (.ref l) (upd H l (.tup ys))) ∨ (SqT X.K H p ys ∧ Q (.ref p) H))) := by
  intro pins s σ H xs us Q I r h
  obtain ⟨p, ys, rfl, h⟩ := h
  obtain ⟨u, rfl, rx⟩ := vals1 r
  cases rx
  rcases h with ⟨hq, q⟩ | ⟨hq, q⟩
  · obtain ⟨its, r', pl, hz⟩ := I.list hq
    have hlen := r'.length
    refine call_tuple_list pl.isList (fun h' kp => ?_) (by simp only [List.size_toArray] <;> omega)
    have I1 : Inv X pins σ H { s with heap := h' } := I.kept (t' := s.toks) kp
    have I2 : Inv X pins σ (upd H h'.objs.size (.tup ys)) { s with heap := h'.push { cls := .type "tuple", data := .seq its.toArray } } :=
      I1.laid (t' := s.toks) (fun b o e => Heap.get?_push_of_some _ e) (Nat.le_refl _) (show ObjOk X.prog X.w _ _ _ (.tup ys) from ⟨hz, its, r', IsTup.new _ _⟩)
    exact ⟨.ref h'.objs.size, _, I2, rfl, q _ (I1.hok.fresh (Nat.le_refl _))⟩
  · obtain ⟨its, r', pl, hz⟩ := I.tuple hq
    exact call_tuple_same pl ⟨.ref p, H, I, rfl, q⟩
noncomputable def tyV (K : PySem.W.Frag) (T : String) (x : V) (H : Hp) : Prop := match x with
  | .str _ => T = "str"
  | .int _ => T = "int"
  | .ref p => (T = "list" ∧ ∃ xs, SqL K H p xs) ∨ (T = "tuple" ∧ ∃ o, K.lookup p = some o ∧ o.cls = .type "tuple" ∧ o.dict = none) ∨
      (T = "dict" ∧ ((∃ kvs, H p = some (.dK kvs)) ∨ ∃ kvs, H p = some (.dT kvs))) ∨ (T = "set" ∧ ∃ S n, H p = some (.set S n))
  | _ => False
private theorem tyV_is {pins : List (Addr × Obj)} {σ : St} {H : Hp} {s : Shared} {T : String} {x : V} {v : Value} (I : Inv X pins σ H s) (r : RelV x v) (ty : tyV X.K T x H) :
    s.TypeIs v T ∧ ∀ a, v = .ref a → ∃ ob, s.heap.get? a = some ob ∧ ob.dict = none := by
  cases x with
  | str z =>
    obtain ⟨t, rfl⟩ := r
    cases (show T = "str" from ty)
    exact ⟨typeIs_str s z t, fun _ e => nomatch e⟩
  | int i =>
    obtain ⟨t, rfl⟩ := r
    cases (show T = "int" from ty)
    exact ⟨typeIs_int s i t, fun _ e => nomatch e⟩
  | ref p =>
    cases r
    rcases ty with ⟨rfl, xs, hq⟩ | ⟨rfl, o, hk, hc, hd⟩ | ⟨rfl, hk⟩ | ⟨rfl, S, n, hk⟩
    · obtain ⟨its, _, pl, _⟩ := I.list hq
      refine ⟨pl.isList.typeIs, fun a e => ?_⟩
      cases e
      obtain ⟨o, n, e, c, hd, _⟩ := pl
      exact ⟨o, e, hd⟩
    · refine ⟨⟨o, I.kIn p o hk, hc⟩, fun a e => ?_⟩
      cases e
      exact ⟨o, I.kIn _ o hk, hd⟩
    · have z : ∃ o, s.heap.get? p = some o ∧ o.ExactDict := by
        rcases hk with ⟨kvs, hk⟩ | ⟨kvs, hk⟩
        · obtain ⟨_, _, _, _, o, _, _, e, ex, _⟩ := I.hok p _ hk
          exact ⟨o, e, ex⟩
        · obtain ⟨_, _, _, _, o, _, _, e, ex, _⟩ := I.hok p _ hk
          exact ⟨o, e, ex⟩
      obtain ⟨o, e, ex⟩ := z
      refine ⟨⟨o, e, ex.1⟩, fun a e2 => ?_⟩
      cases e2
      exact ⟨o, e, ex.2.1⟩
    · obtain ⟨o, _, _, _, e, ex, _⟩ := I.hok p _ hk
      refine ⟨⟨o, e, ex.1⟩, fun a e2 => ?_⟩
      cases e2
      exact ⟨o, e, ex.2.1⟩
  | _ => exact False.elim ty
noncomputable def tBM (K : PySem.W.Frag) (T : String) (r : V → List V → Hp → VK → Prop) (to : TE) (t : TA) : TE := fun σ H Q => to σ H fun x H1 => tyV K T x H1 ∧ t σ H1 fun xs H2 => r x xs H2 Q
variable {o e : Expr} {es : List Expr} {to : TE} {t : TA} {name : Str} {apos cpos : Pos} {T id : String} {r : V → List V → Hp → VK → Prop}
private theorem pe_bm (pa : PlainAttrs T) (slot : Slot T name id) (hty : typeOf (.builtin id) = pure (.type "method_descriptor")) (hm : MtR X id r) (ho : PE X o to) (ha : PA X (e :: es) t)
    (hbase : attributeBase o name X.env (eval o X.env) = eval o X.env := by rfl)
    (hfew : ((backTo cpos (starEach (e :: es) X.env)).all (fun x => !x.1) && (backToKw cpos (keywordEach [] X.env)).all (fun x => x.1.isSome)
      && decide ((e :: es).length + ([] : List Keyword).length + (if ([] : List Keyword).isEmpty then 0 else 1) < 30)) = true := by rfl)
    (hline : (apos.endLine == cpos.line) = true := by rfl) (hs : starEach (e :: es) X.env = (false, eval e X.env) :: starEach es X.env := by rfl) (hplain : (backTo cpos (starEach es X.env)).any (·.1) = false := by rfl) :
    PE X (.Call (.Attribute o name apos) (e :: es) [] cpos) (tBM X.K T r to t) := by
  intro pins s σ H Q I h
  refine wpAny_Call_method_late hbase hfew hline rfl (thn (ho pins s σ H _ I h) fun v s1 zz88 => e24 zz88 fun x H1 I1 r1 ty q1 => ?_)
  obtain ⟨h1, h2⟩ := tyV_is I1 r1 ty
  refine ⟨T, id, pa, slot, hty, h1, h2, ?_⟩
  have hA := ha cpos pins s1 σ H1 _ I1 q1
  rw [hs] at hA ⊢
  refine Calls.callWith_builtin (by show (false || (backTo cpos (starEach es X.env)).any (·.1)) = false; rw [hplain] <;> rfl) (Calls.evalArgs_plain ?_)
  exact thn hA fun us s2 zz89 => e23 zz89 fun vs H2 I2 r2 q2 => hm pins s2 σ H2 x vs v us Q I2 r1 r2 q2
/- xs.append(e), list.index on a module's tuple .. are MtR facts of 06m -/
end
end L2
namespace L2
open PySem PySem.Spec PyProof.Rows
noncomputable def MtM (X : Cx) (id : String) (r : V → List V → Hp → VK → Prop) : Prop :=
  ∀ (pins : List (Addr × Obj)) (s : Shared) (σ : St) (H : Hp) (x : V) (xs : List V) (v : Value) (us : List Value) (Q : VK), Inv X pins σ H s → RelV x v → Vals xs us → r x xs H Q →
    wpAny (model X.prog X.w) X.A (call (.builtin id) (v :: us)) (EP X pins σ Q) X.xe s
private theorem Vals.one : ∀ {x : V} {us : List Value}, Vals [x] us → ∃ u, us = [u] ∧ RelV x u
  | _, _, .cons r .nil => ⟨_, rfl, r⟩
section
variable {X : Cx} {pins : List (Addr × Obj)} {σ : St} {H : Hp} {s : Shared} {l b : Addr} {xs ys zs : List V}
private theorem Inv.lset {its its' : List Value} {n : Nat} {f : Array Value → Array Value} {t' : Nat} (I : Inv X pins σ H s) (hH : H l = some (.lst xs))
    (e : s.heap.get? l = some { cls := .type "list", data := .seq its.toArray n }) (hf : f its.toArray = its'.toArray) (hv : Vals ys its') (hz : ys.length ≤ sizeLine) :
    Inv X pins σ (upd H l (.lst ys)) { s with heap := s.heap.update l (Obj.mapSeq f), toks := t' } := by
  have q := PySem.IsL.update e f
  rw [hf] at q
  refine I.write (x := l) (e := l) (by rw [hH]; exact trivial) (.inl rfl) (fun b' u hb hu => (Heap.get?_update_other s.heap (Obj.mapSeq f) (Ne.symm hb)).trans hu) ⟨_, q⟩ ?_
  exact ⟨hz, its', _, hv, q⟩
private theorem Inv.lnew {its : List Value} {t' : Nat} (I : Inv X pins σ H s) (hv : Vals ys its) (hz : ys.length ≤ sizeLine) :
    Inv X pins σ (upd H s.heap.objs.size (.lst ys)) { s with heap := s.heap.push { cls := .type "list", data := .seq its.toArray }, toks := t' } :=
  I.laid (fun _ _ q => Heap.get?_push_of_some _ q) (Nat.le_refl _) ⟨hz, its, 0, hv, Heap.get?_push_size _ rfl⟩
private theorem Inv.fresh (I : Inv X pins σ H s) : H s.heap.objs.size = none := I.hok.fresh (Nat.le_refl _)
private theorem Inv.lstM (I : Inv X pins σ H s) (hH : H l = some (.lst xs)) : xs.length ≤ sizeLine ∧ ∃ (its : List Value) (n : Nat), Vals xs its ∧ xs.length = its.length ∧ s.heap.get? l = some { cls := .type "list", data := .seq its.toArray n } := by
  obtain ⟨z, its, n, r, e⟩ := I.hok l _ hH
  exact ⟨z, its, n, r, r.length, e⟩
private theorem notLongL {n : Nat} (h : n ≤ sizeLine) : Builtin.List.listTooLong n = false := by
  unfold Builtin.List.listTooLong
  exact decide_eq_false (by omega)
end
section
variable {X : Cx}
noncomputable def rAppend : V → List V → Hp → VK → Prop := fun x vs H Q => ∃ l xs y, x = .ref l ∧ vs = [y] ∧ H l = some (.lst xs) ∧ xs.length < sizeLine ∧ Q .non (upd H l (.lst (xs ++ [y])))
private theorem mt_append : MtM X "list.append" rAppend := by
  intro pins s σ H x vs v us Q I rx rv h
  obtain ⟨l, xs, y, rfl, rfl, hH, hz, q⟩ := h
  cases rx
  obtain ⟨u, rfl, ru⟩ := rv.one
  obtain ⟨z, its, n, r, hl, e⟩ := I.lstM hH
  refine call_meets F.slot_list_append ⟨_, e, rfl⟩ F.entry_list_append (F.args_list_append_2 _ _) (PySem.list_append l its.toArray n u (by rw [List.size_toArray]; omega)) ⟨e, ?_⟩
  refine ⟨.non, _, I.lset (its' := its ++ [u]) hH e (by simp) (r.append (.cons ru .nil)) ?_, rfl, q⟩
  rw [List.length_append, List.length_singleton]
  omega
end
section
variable {prog : Program} {w : World} {A : Around} {E : Value → Shared → Prop} {s : Shared}
private theorem bounds_run {a c n : Nat} (hac : a ≤ c) (hc : c ≤ n) : sliceBounds (some (a : Int)) (some (c : Int)) none n = ((a : Int), (c : Int), 1) := by
  simp only [sliceBounds, Option.getD_none]
  have h1 : ¬ ((a : Int) < 0) := by omega
  have h2 : ¬ ((c : Int) < 0) := by omega
  simp only [h1, h2, if_false, show (1 : Int) > 0 by decide, if_true]
  congr 1
  · omega
  · congr 1; omega
end
section
variable {X : Cx}
end
end L2
namespace Att
open PySem PySem.W PySem.Calls PyProof.Rows
private theorem ints_of_wellAll {P : Params} {h : Heap} : ∀ (ns : List Int) (vs : List Value), WellAll P h vs (ns.map WData.int) → IntsAre vs ns := by
  intro ns
  induction ns with
  | nil =>
    intro vs w
    rw [List.map_nil] at w
    cases w
    exact .nil
  | cons n ns ih =>
    intro vs w
    rw [List.map_cons] at w
    cases w with
    | cons a b =>
      cases a
      exact .cons _ _ (ih _ b)
private theorem script_of {l : OpenLaw} {n : Nat} (hn : l.most = some n) {P : Params} {h : Heap} {args : List WData} {vals : List Value}
    (hpre : l.row.toRowW.claim.pre args = true) (hwl : WellAll P h vals args) :
    ∃ a vs ns, vals = [Value.ref a] ∧ args = [WData.list (ns.map WData.int)] ∧ h.get? a = some { cls := .type "list", data := .seq vs.toArray } ∧ IntsAre vs ns ∧ ns.length ≤ n := by
  have hsh : WShape.hasAll [] args [.list .int] = true := (pre_splitW hpre).1
  have hc : l.pre.holds [] { args := args } = true := (pre_splitW hpre).2
  obtain ⟨d, r, rfl, h1, h2⟩ := hasAllW_cons hsh
  obtain rfl := hasAllW_nil h2
  obtain ⟨xs, rfl, h3⟩ := hasW_list h1
  obtain ⟨ns, rfl⟩ := items_int h3
  have hlen : ns.length ≤ n := by
    unfold OpenLaw.pre at hc
    have h4 : (WTm.not (.lt (.lit (.int (n : Int))) (.len (.arg 0)))).holds [] { args := [.list (ns.map .int)] } = true := by
      have h4 := (holds_andW hc).1
      rw [hn] at h4
      exact h4
    have h5 := condW_of h4 (w_not (w_lt w_lit (w_len_list (w_arg rfl))))
    rw [List.length_map] at h5
    refine Nat.le_of_not_lt fun q => ?_
    have q' : (n : Int) < ((ns.length : Nat) : Int) := by omega
    first
      | (rw [decide_eq_true q'] at h5; exact absurd h5 (by decide))
      | (simp at h5; omega)
  cases hwl with
  | cons w1 w2 =>
    cases w2
    cases w1 with
    | list ho hall => exact ⟨_, _, ns, rfl, rfl, ho, ints_of_wellAll ns _ hall, hlen⟩
private theorem post_true (l : OpenLaw) (args : List WData) : l.row.toRowW.claim.post args (.bool true) args = true :=
  postW_of (r := l.row.toRowW) (X := (true == true))
    (show WShape.has [] (.bool true) .bool = true by first | rfl | decide | simp [WShape.has, WShape.arms, WShape.armsAll])
    (show (WTm.eq .res (.lit (.bool true))).value [] { args := args, res := some (.bool true), after := args } = some (.bool (true == true)) from w_eq_bool (w_res rfl) w_lit) rfl
private theorem attach_call {l : OpenLaw} {n : Nat} {q : Program} {loose : List Str} {XP : (Str → Option Value) → Heap → Prop} {YP : World → Heap → Prop} {d : DefRec}
    (hn : l.most = some n) (hdf : d.params.defaults = [])
    (call : ∀ (w : World) (s₀ s₁ : Shared) (mg mb : Str → Option Value) (fa : Addr) (o : Obj) (pm cd doc : Value) (a : Addr) (vs : List Value) (ns : List Int),
      Ground q loose [] XP w s₀ mg mb s₁.heap → YP w s₁.heap →
      s₁.heap.get? fa = some o → o.data = .func (docDef d.name d.params d.body d.scope pm cd doc) → s₁.heap.CodeRec cd d.name → mg d.name = some (.ref fa) →
      s₁.heap.get? a = some { cls := .type "list", data := .seq vs.toArray } → IntsAre vs ns → ns.length ≤ n → s₁.gens = #[] →
      codeAny (model l.prog w) callerA (.call (.ref fa) ⟨[.ref a], []⟩) (fun r s' => r = .ok (.ret (.bool true)) ∧ OldK s₁.heap s'.heap ∧ s'.os = s₁.os ∧ AllBare s'.gens) s₁) :
    WalkO q loose XP YP l.row.toRowW d [] (fun f vs => PySem.call f vs) := by
  intro w s₀ s₁ mg mb G Y fa o pm cd doc dV kV ho hd hcd hD hmg hg args vals as hpre hlay hrd hwl hlo
  obtain rfl : dV = .none := Dflts.none hD hdf
  obtain rfl : kV = .none := Dflts.noKw hD
  obtain ⟨a, vs, ns, rfl, rfl, hobj, hints, hlen⟩ := script_of hn hpre hwl
  refine enter_call (codeAny_mono (call w s₀ s₁ mg mb fa o pm cd doc a vs ns G Y ho (fd_plain hd) hcd hmg hobj hints hlen hg) fun r s' hq => ?_)
  obtain ⟨rfl, h2, h3, h4⟩ := hq
  exact ⟨.inl ⟨.bool true, .bool true, [], rfl, fun _ => rfl, .bool true, post_true l _, fun _ => ⟨List.Pairwise.nil, fun _ hm => (nomatch hm)⟩⟩, h2, h3, h4⟩
section
variable {prog : Program} {w : World} {A : Around} {E : Value → Shared → Prop} {s : Shared} {K : Frag}
end
end Att
namespace L2
open PySem PySem.Spec PyProof.Rows
private theorem vals_ints : ∀ {vs : List Value} {ns : List Int}, IntsAre vs ns → Vals (ns.map V.int) vs
  | _, _, .nil => .nil
  | _, _, .cons n t h => .cons ⟨t, rfl⟩ (vals_ints h)
noncomputable def Only (H : Hp) : Prop := ∀ b, H b = none ∨ ∃ o xs, H b = some (.frz o (.lst xs))
private theorem law_call {P : Program} {w : World} {K : PySem.W.Frag} {mg mb : Str → Option Value} {CX : CXT} {k : Nat} {fa a : Addr} {fd : FuncData} {x : Str} {sp : Sp} {s₁ : Shared} {vs : List Value} {ns : List Int}
    (KX : K.In s₁.heap) (hns : s₁.heap.Ns mainGlobals mg) (hb : s₁.heap.Ns builtinsNs mb) (hbb : ∀ x : Str, x ≠ "__name__" → mb x = bootBuiltins x) (hlim : s₁.heap.NoLimit) (hg : s₁.gens = #[])
    (ha : s₁.heap.get? a = some { cls := .type "list", data := .seq vs.toArray }) (hi : IntsAre vs ns) (hl : ns.length ≤ sizeLine) (hr : Room k callerA)
    (F : ∀ base : Heap, K.In base → base.Ns mainGlobals mg → FnOk P w K mg base CX k fa fd [x] sp) (hbind : ∀ (s : Shared) (u : Value), BindsTo s fd ⟨[u], []⟩ [(x, u)])
    (hsp : ∀ H : Hp, Only H → SqL K H a (ns.map V.int) → sp [.ref a] H (fun v _ => v = .bl true) fun _ _ _ => False)
    (hCX : ∀ H e s', CX [] H s₁ (fun _ _ _ => False) e s' → False) :
    codeAny (model P w) callerA (.call (.ref fa) ⟨[.ref a], []⟩) (fun r s' => r = .ok (.ret (.bool true)) ∧ OldK s₁.heap s'.heap ∧ s'.os = s₁.os ∧ AllBare s'.gens) s₁ := by
  have rv := vals_ints hi
  have lenV := hi.length
  -- from an abstract heap in which nothing but the script may be tracked
  have core : ∀ H : Hp, Only H → SqL K H a (ns.map V.int) → HOk P w H s₁.heap → (∀ b, H b ≠ none → b = a) → (H a ≠ none → K.lookup a = none) →
      codeAny (model P w) callerA (.call (.ref fa) ⟨[.ref a], []⟩) (fun r s' => r = .ok (.ret (.bool true)) ∧ OldK s₁.heap s'.heap ∧ s'.os = s₁.os ∧ AllBare s'.gens) s₁ := by
    intro H hO hS hok hA hK
    have base_of : ∀ {b : Addr} {o : Obj}, s₁.heap.get? b = some o → H b = none → (hidT s₁.heap H).get? b = some o := fun e n => hidT_get e n
    have noA : ∀ {b : Addr} {o : Obj} {es : Array DictEntry} {ep : Nat}, s₁.heap.get? b = some o → o.data = .dict es ep → H b = none := fun {b o es ep} e d => by
      cases q : H b with
      | none => rfl
      | some u =>
        have e' : b = a := hA b (by rw [q]; simp)
        subst e'
        rw [ha] at e; cases e
        have d' : Data.seq vs.toArray _ = Data.dict es ep := d
        cases d'
    have nsK : ∀ {b : Addr} {m : Str → Option Value}, s₁.heap.Ns b m → (hidT s₁.heap H).Ns b m := fun {b m} ⟨o, es, ep, e, d, r⟩ => ⟨o, es, ep, base_of e (noA e d), d, r⟩
    have hKb : K.In (hidT s₁.heap H) := fun b o e => base_of (KX b o e) (by
      cases q : H b with
      | none => rfl
      | some u =>
        have e' : b = a := hA b (by rw [q]; simp)
        subst e'
        rw [hK (by rw [q]; simp)] at e; cases e)
    have hM : Mod K mg (hidT s₁.heap H) := ⟨hKb, nsK hns, ⟨mb, nsK hb, hbb⟩, let ⟨mc, h1, h2⟩ := hlim; ⟨mc, nsK h1, h2⟩⟩
    have e0 : Env0 P w K mg (hidT s₁.heap H) callerA [] s₁ H := ⟨rfl, hM, fun b o e => of_hidT e, Nat.le_of_eq (hidT_size _ _), trivial, fun b hb => absurd (show b ∈ ([] : List Addr) from hb) (by simp), hok, .of_eq hg⟩
    refine codeAny_mono ((F _ hKb (nsK hns)).run callerA [] s₁ H ⟨[.ref a], []⟩ [.ref a] [.ref a] _ _ hr e0 (hbind s₁ (.ref a)) (.cons rfl .nil) (hsp H hO hS)) fun r s' h => ?_
    cases r with
    | error e => exact (hCX H e s' h).elim
    | ok fl =>
      cases fl with
      | next => exact False.elim h
      | brk => exact False.elim h
      | cont => exact False.elim h
      | ret u =>
        obtain ⟨v, H', os, bare, un, hok', r', q⟩ := h
        have q' : v = .bl true := q
        subst q'
        obtain rfl : u = Value.bool true := r'
        refine ⟨rfl, OldK.of_keep fun b o e => ?_, os, bare⟩
        cases q : H b with
        | none => exact un.keep b o e q (by intro z; exact absurd (show b ∈ ([] : List Addr) from z) (by simp)) (by simp)
        | some u =>
          rcases hO b with z | ⟨ob, xs, z⟩
          · rw [q] at z; cases z
          · have z2 := un.frzs b ob _ z
            obtain ⟨e1, _⟩ := hok b _ z
            obtain ⟨e2, _⟩ := hok' b _ z2
            rw [e] at e1; cases e1
            exact e2
  cases hk : K.lookup a with
  | some o =>
    -- the script is one of the module's own objects
    have e := KX a o hk
    rw [ha] at e
    cases e
    refine core (fun _ => none) (fun _ => .inl rfl) (.inr ⟨_, vs.toArray, _, hk, rfl, rfl, rfl, by rw [List.size_toArray, lenV]; exact hl, by simpa using rv⟩) (fun b u z => by have z' : (none : Option HO) = some u := z; cases z') (fun b z => absurd rfl z) fun z => absurd rfl z
  | none =>
    refine core (fun b => if b = a then some (.frz { cls := .type "list", data := .seq vs.toArray } (.lst (ns.map V.int))) else none) (fun b => ?_) (.inl (.inr ⟨{ cls := .type "list", data := .seq vs.toArray }, if_pos rfl⟩)) (fun b u z => ?_) (fun b z => ?_) fun _ => hk
    · by_cases hb : b = a
      · exact .inr ⟨_, _, if_pos hb⟩
      · exact .inl (if_neg hb)
    · by_cases hb : b = a
      · have z' := (if_pos hb).symm.trans z
        cases z'
        subst hb
        exact ⟨ha, by rw [List.length_map]; exact hl, vs, _, rv, ha⟩
      · have z' := (if_neg hb).symm.trans z
        cases z'
    · by_cases hb : b = a
      · exact hb
      · exact absurd (if_neg hb) z
end L2
namespace L2
open PySem PySem.Spec PyProof.Rows
private theorem walk_of {l : PySem.W.OpenLaw} {n k : Nat} {q : Program} {loose : List Str} {XP : (Str → Option Value) → Heap → Prop} {YP : World → Heap → Prop} {d : DefRec} {K : Params → PySem.W.Frag} {CX : World → CXT} {sp : World → Sp} {x : Str}
    (hn : l.most = some n) (hn2 : n ≤ sizeLine) (hdf : d.params.defaults = []) (hr : Room k callerA)
    (hY : ∀ (w : World) (h : Heap), YP w h → (K w.params).In h)
    (F : ∀ (w : World) (mg : Str → Option Value) (fa : Addr) (h : Heap), (K w.params).In h → h.Ns mainGlobals mg → mg d.name = some (.ref fa) →
      ∃ fd : FuncData, (∀ (s : Shared) (u : Value), BindsTo s fd ⟨[u], []⟩ [(x, u)]) ∧
        ∀ base : Heap, (K w.params).In base → base.Ns mainGlobals mg → FnOk l.prog w (K w.params) mg base (CX w) k fa fd [x] (sp w))
    (hsp : ∀ (w : World) (H : Hp) (a : Addr) (ns : List Int), ns.length ≤ n → Only H → SqL (K w.params) H a (ns.map V.int) → sp w [.ref a] H (fun v _ => v = .bl true) fun _ _ _ => False)
    (hCX : ∀ (w : World) (H : Hp) (s : Shared) (e : Value) (s' : Shared), CX w [] H s (fun _ _ _ => False) e s' → False) :
    PySem.W.WalkO q loose XP YP l.row.toRowW d [] (fun f vs => PySem.call f vs) := by
  refine Att.attach_call hn hdf fun w s₀ s₁ mg mb fa o pm cd doc a vs ns G Y ho hd hcd hmg hobj hints hlen hg => ?_
  have KX := hY w _ Y
  obtain ⟨fd, hb, hF⟩ := F w mg fa _ KX G.T.g hmg
  exact law_call KX G.T.g G.T.b G.T.builtins G.T.nolimit hg hobj hints (Nat.le_trans hlen hn2) hr hF hb (fun H hO hS => hsp w H a ns hlen hO hS) fun H e s' => hCX w H s₁ e s'
end L2
/- THE LAST THEOREM (shape; LID, My.* are yours):
   My.Adr: a structure of the addresses that your layer names (classes, functions); My.Txt K t: a structure (Prop) of the equations over K;
   My.txt_mk : {K} {implicit addresses ..} (e1 : nsIn K mainGlobals "law" = some (some (.ref f))) (e2 : K.lookup f = some ⟨oc, od, .func (fnOf "law" "law" params body scope dV kV doc pm an cdv ct), sl⟩) (e3 : codeIn K cdv "law" = true) .. : ∃ t, My.Txt K t
set_option maxRecDepth 100000 in
set_option maxHeartbeats 0 in
theorem PySem.Challenge.cw_LID_holds : PySem.Challenge.rw_LID.Holds := by
  w_on; o_law; k_head; (case hw => w_witness2)
  k_fill
  refine L2.walk_of (l := PySem.Challenge.rw_LID) (n := 63) (k := 40) (x := "script") (CX := fun w => ..) (sp := fun _ => My.sp_law) rfl (by decide) rfl ⟨rfl, by decide, by decide⟩ (fun w h Y => PySem.W.kIn_of Y) ?F ?S ?C
  case F =>
    intro w mg fa h KX G hmg
    have T : ∃ t, My.Txt (L2.KOf KX) t := by
      dsimp only [L2.KOf]                          -- K must stand as «<heap const> w.params» for k_is
      refine' My.txt_mk ?e1 ?e2 ?e3 ..
      (case e1 => PySem.W.k_is)                    -- in the order: a name -> its address -> its object -> its parts
      (case e2 => PySem.W.k_is)
      ..
    obtain ⟨t, T⟩ := T
    have e0 := hmg.symm.trans (PySem.W.mg_of KX G T.law)
    cases e0                                       -- fa is the law's own address
    exact ⟨_, fun s u => .of_eq rfl, fun base kb nb => My.law_fn T kb nb⟩     -- if «.of_eq rfl» comes too early: refine' ⟨_, ?b, fun base kb nb => My.law_fn T kb nb⟩; exact fun s u => .of_eq rfl
  case S => exact fun w H a ns hl hO hS => ..
  case C => exact ..
(the tactic k_is has no namespace: write k_is) -/
namespace L2
open PySem PySem.Spec PyProof.Rows
noncomputable def defArgs (s : Stmt) : Arguments := match s with
  | .FunctionDef _ a _ _ _ _ _ _ _ _ => a
  | _ => { posonlyargs := [], args := [], vararg := none, kwonlyargs := [], kw_defaults := [], kwarg := none, defaults := [] }
noncomputable def defBody (s : Stmt) : List Stmt := match s with
  | .FunctionDef _ _ b _ _ _ _ _ _ _ => b
  | _ => []
noncomputable def defScope (s : Stmt) : Scope := match s with
  | .FunctionDef _ _ _ _ _ _ sc _ _ _ => sc
  | _ => { kind := .function, names := [], isGenerator := false, isCoroutine := false }
noncomputable abbrev CX0 : CXT := fun _ _ _ _ _ _ => False
noncomputable abbrev E0 : XK := fun _ _ _ => False
private theorem pass0 {X : Cx} : Passes CX0 X E0 := fun _ _ _ _ _ _ _ h => h.elim
structure Fun (K : PySem.W.Frag) (x qual : Str) (st : Stmt) (f : Addr) (fd : FuncData) : Prop where
  ex : ∃ (oc : Value) (od : Option Addr) (kV doc pm : Value) (an : Option Addr) (cdv ct : Value) (osl : Array (Option Value)),
    fd = PySem.W.fnOf x qual (defArgs st) (defBody st) (defScope st) .none kV doc pm an cdv ct ∧ K.lookup f = some ⟨oc, od, .func fd, osl⟩ ∧ PySem.W.codeIn K cdv qual = true
  kp : PySem.W.keepIn K (.ref f) = true
section
variable {P : Program} {w : World} {K : PySem.W.Frag} {mg : Str → Option Value} {base : Heap}
private theorem Fun.ok {x qual : Str} {st : Stmt} {f : Addr} {fd : FuncData} {N ps : List Str} {k : Nat} {sp : Sp} (F : Fun K x qual st f fd) (S : FnScope N ps (defScope st)) (len : ∀ vs H Q E, sp vs H Q E → vs.length = ps.length)
    (hbody : ∀ (cdv : Value) (A : Around) (outer : List Env) (s : Shared) (H : Hp) (vs : List V) (Q : VK) (E : XK), Room k (A.deeper (envOfC qual (defScope st) s.heap.objs.size f cdv)) → sp vs H Q E →
      ∃ t, PSs (cxOf CX0 P w K mg base N qual (defScope st) f cdv A outer s H E).nox (defBody st) t ∧ t { nx := fun _ H' => Q .non H', rt := Q } (start N vs) H) : FnOk P w K mg base CX0 (k + 1) f fd ps sp := by
  obtain ⟨oc, od, kV, doc, pm, an, cdv, ct, osl, rfl, lk, hcd⟩ := F.ex
  refine fn_of lk hcd S len fun A outer s H vs Q E hr hsp => ?_
  obtain ⟨t, h, q⟩ := hbody cdv A outer s H vs Q E hr hsp
  exact ⟨t, h.nox, q⟩
private theorem Fun.binds {x qual : Str} {st : Stmt} {f : Addr} {fd : FuncData} {ps : List Str} (F : Fun K x qual st f fd)
    (h : ∀ (kV doc pm : Value) (an : Option Addr) (cdv ct : Value) (us : List Value), us.length = ps.length → bindArgs (PySem.W.fnOf x qual (defArgs st) (defBody st) (defScope st) .none kV doc pm an cdv ct) ⟨us, []⟩ = pure (ps.zip us)) : Binds K fd ps [] := by
  obtain ⟨oc, od, kV, doc, pm, an, cdv, ct, osl, rfl, lk, hcd⟩ := F.ex
  exact .all (h kV doc pm an cdv ct)
private theorem fun_mk {x qual : Str} {st : Stmt} {f : Addr} {oc : Value} {od an : Option Addr} {osl : Array (Option Value)} {kV doc pm cdv ct : Value} (l : K.lookup f = some ⟨oc, od, .func (PySem.W.fnOf x qual (defArgs st) (defBody st) (defScope st) .none kV doc pm an cdv ct), osl⟩)
    (c : PySem.W.codeIn K cdv qual = true) (k : PySem.W.keepIn K (.ref f) = true) : Fun K x qual st f (PySem.W.fnOf x qual (defArgs st) (defBody st) (defScope st) .none kV doc pm an cdv ct) := ⟨⟨oc, od, kV, doc, pm, an, cdv, ct, osl, rfl, l, c⟩, k⟩
end
private theorem small1000 {n : Nat} (h : n ≤ 1000) : n < sizeLine := Nat.lt_of_le_of_lt h (by decide)
section
variable {X : Cx}
private theorem pv (i : Nat) {x : Str} {pos : Pos} (hN : X.N[i]? = some x := by rfl) (hv : Vis X.env.scope x := by first | exact Or.inl rfl | exact Or.inr (Or.inl rfl) | exact Or.inr (Or.inr rfl)) (hd : (x == ("__debug__" : Str)) = false := by decide)
    (hcd : (x == ("__classdict__" : Str)) = false := by decide) : PE X (.Name x pos) (tVar i) := pe_var hN hv hd hcd
end
noncomputable def Same (H H' : Hp) : Prop := ∀ b o, H b = some o → H' b = some o
private theorem Same.refl (H : Hp) : Same H H := fun _ _ h => h
private theorem Same.trans {H H1 H2 : Hp} (a : Same H H1) (b : Same H1 H2) : Same H H2 := fun c o h => b c o (a c o h)
private theorem Same.seq {K : PySem.W.Frag} {H H' : Hp} {a : Addr} {xs : List V} (e : Same H H') (h : SqL K H a xs) : SqL K H' a xs := by
  rcases h with (h | ⟨o, h⟩) | h
  · exact .inl (.inl (e _ _ h))
  · exact .inl (.inr ⟨o, e _ _ h⟩)
  · exact .inr h
end L2

set_option Elab.async false
set_option linter.all false
set_option maxRecDepth 100000
namespace L2
open PySem PySem.Spec PyProof.Rows
section
variable {κ : Type} [DecidableEq κ]
end
section
variable {P : Program} {w : World} {H : Hp} {h : Heap} {a : Addr}
private theorem rd_of {u : HO} (ok : HOk P w H h) (e : Rd H a u) : ObjOk P w H h a u := e.ok ok
private theorem dk_rd {kvs : List (Key × V)} (ok : HOk P w H h) (e : Rd H a (.dK kvs)) : kvs.length ≤ sizeLine ∧ (a == sysModules) = false ∧ ∃ vs, KV kvs vs ∧ h.DictOf (mixKind P w) a vs :=
  show ObjOk P w H h a (.dK kvs) from rd_of ok e
end
section
variable {X : Cx} {pins : List (Addr × Obj)} {σ : St} {H : Hp} {s : Shared} {a : Addr} {y v : V} {u r : Value} {o : Option V} {A : Around} {E : Value → Shared → Prop}
private theorem Inv.big (I : Inv X pins σ H s) : sysModules < s.heap.objs.size := by
  have h : mainGlobals < s.heap.objs.size := (I.mod.glob.keeps I.bk).lt
  exact Nat.lt_trans (by decide) h
end
section
variable {X : Cx} {pins : List (Addr × Obj)} {σ : St} {H : Hp} {s : Shared} {a : Addr} {kvs : List (Key × V)} {k : Key} {u : Value} {A : Around} {E : Value → Shared → Prop}
end
section
variable {X : Cx} {o i e value : Expr} {pos pos' tpos : Pos} {td ty tv : TE}
end
private theorem dk_empty {P : Program} {w : World} {H : Hp} (h : Heap) (hb : sysModules < h.objs.size) : ObjOk P w H (h.push { cls := .type "dict", data := .dict #[] }) h.objs.size (.dK []) :=
  ⟨Nat.zero_le _, beq_eq_false_iff_ne.mpr (Ne.symm (Nat.ne_of_lt hb)), [], .nil, Heap.DictOf.new h⟩
noncomputable def tDNewK : TE := fun _ H Q => ∀ p, H p = none → Q (.ref p) (upd H p (.dK []))
section
variable {X : Cx} {pos : Pos}
private theorem pe_dnewK : PE X (.Dict [] [] pos) tDNewK := fun pins s σ H Q I h =>
  wpAny_Dict_empty ⟨.ref s.heap.objs.size, _, I.laid (a := s.heap.objs.size) (o := .dK []) (t' := s.toks) (fun _ _ q => Heap.get?_push_of_some _ q) (Nat.le_refl _) (dk_empty s.heap I.big), rfl, h _ (I.hok.fresh (Nat.le_refl _))⟩
end
section
variable {X : Cx} {pins : List (Addr × Obj)} {σ : St} {H : Hp} {s : Shared} {a : Addr} {y d : V} {u r : Value} {o : Option V} {A : Around} {E : Value → Shared → Prop}
end
section
variable {X : Cx} {o e f : Expr} {apos cpos : Pos} {td ty tx : TE}
end
section
variable {X : Cx} {pins : List (Addr × Obj)} {σ : St} {H : Hp} {s : Shared} {a : Addr} {kvs : List (Key × V)} {A : Around} {E : Value → Shared → Prop}
end
section
variable {X : Cx} {pins : List (Addr × Obj)} {σ : St} {H : Hp} {s : Shared} {a : Addr} {y : V} {u : Value} {A : Around} {E : Value → Shared → Prop}
end
end L2

set_option Elab.async false
set_option linter.all false
set_option maxRecDepth 100000
namespace L3
open PySem PySem.Spec PyProof.Rows L2
noncomputable def Sm (n : Nat) (i : Int) : Prop := i.natAbs < 2 ^ n
private theorem Sm.mono {a b : Nat} {i : Int} (h : Sm a i) (k : a ≤ b) : Sm b i := Nat.lt_of_lt_of_le h (Nat.pow_le_pow_right (by decide) k)
private theorem Sm.add {a : Nat} {i j : Int} (h : Sm a i) (k : Sm a j) : Sm (a + 1) (i + j) := by
  unfold Sm at *
  have := Int.natAbs_add_le i j
  rw [Nat.pow_succ]
  omega
private theorem Sm.neg {a : Nat} {i : Int} (h : Sm a i) : Sm a (-i) := by
  unfold Sm at *
  rw [Int.natAbs_neg]; exact h
private theorem Sm.mul {a b : Nat} {i j : Int} (h : Sm a i) (k : Sm b j) : Sm (a + b) (i * j) := by
  unfold Sm at *
  rw [Int.natAbs_mul, Nat.pow_add]
  exact Nat.mul_lt_mul'' h k
private theorem Sm.le {a : Nat} {i j : Int} (h : Sm a i) (k : j.natAbs ≤ i.natAbs) : Sm a j := Nat.lt_of_le_of_lt k h
private theorem Sm.bits {n : Nat} {i : Int} (h : Sm n i) : Builtin.Int.intBits i ≤ n := by
  unfold Builtin.Int.intBits
  split
  · exact Nat.zero_le _
  · rename_i z
    have nz : i.natAbs ≠ 0 := by
      intro e
      apply z
      rw [Int.natAbs_eq_zero] at e
      subst e
      rfl
    have := (Nat.log2_lt nz (k := n)).mpr h
    omega
private theorem Sm.log {n : Nat} {i : Int} (h : Sm n i) (k : 0 < n) : i.natAbs.log2 < n := by
  by_cases z : i.natAbs = 0
  · rw [z]; simpa using k
  · exact (Nat.log2_lt z).mpr h
noncomputable def CMulS (i j : Int) : Prop := ∃ a b, a + b ≤ 100000000 ∧ Sm a i ∧ Sm b j
private theorem CMulS.ok {i j : Int} (h : CMulS i j) : IntMulOk i j := by
  obtain ⟨a, b, ab, hi, hj⟩ := h
  have h1 := hi.bits
  have h2 := hj.bits
  unfold IntMulOk
  intro z
  rw [Bool.and_eq_true] at z
  have z2 := z.2
  unfold Builtin.Int.intTooBig at z2
  have z3 := of_decide_eq_true z2
  have e : (bitsLine : Int) = 134217728 := by decide
  rw [e] at z3
  omega
noncomputable def CDivS (_i j : Int) : Prop := j ≠ 0 ∧ Sm 9000 j
section
variable {X : Cx}
private theorem op_mulS : OpR X (binaryOp .Mult) (rI CMulS fun i j => .int (i * j)) := opI fun _ _ _ _ _ _ _ hc q => mul_int q hc.ok
private theorem op_fdivS : OpR X (binaryOp .FloorDiv) (rI CDivS fun i j => .int (i.fdiv j)) := opI fun _ _ _ _ _ _ _ hc q => floordiv_int hc.1 q (.inl (PyProof.noPylong_of_log2 (hc.2.log (by decide))))
end
section
variable {X : Cx}
end
inductive D where
  | non | bl (b : Bool) | int (i : Int) | str (x : Str) | tup (xs : List D) | lst (xs : List D) | emp
mutual
noncomputable def Rep (H : Hp) : D → V → Prop
  | .non, v => v = .non
  | .bl b, v => v = .bl b
  | .int i, v => v = .int i
  | .str x, v => v = .str x
  | .tup ds, v => ∃ a vs, v = .ref a ∧ H a = some (.tup vs) ∧ Reps H ds vs
  | .lst ds, v => ∃ a vs, v = .ref a ∧ H a = some (.lst vs) ∧ Reps H ds vs
  | .emp, _ => False
noncomputable def Reps (H : Hp) : List D → List V → Prop
  | [], vs => vs = []
  | d :: ds, vs => ∃ v r, vs = v :: r ∧ Rep H d v ∧ Reps H ds r
end
mutual
private theorem Rep.inj {H : Hp} : ∀ {d e : D} {v : V}, Rep H d v → Rep H e v → d = e
  | .non, e, v, h, k => by
    rw [Rep] at h; subst h
    cases e <;> rw [Rep] at k <;> first | (obtain ⟨_, _, k, _⟩ := k; cases k; done) | rfl | (cases k; done)
  | .bl _, e, v, h, k => by
    rw [Rep] at h; subst h
    cases e <;> rw [Rep] at k <;> first | (obtain ⟨_, _, k, _⟩ := k; cases k; done) | (cases k; rfl) | (cases k; done)
  | .int _, e, v, h, k => by
    rw [Rep] at h; subst h
    cases e <;> rw [Rep] at k <;> first | (obtain ⟨_, _, k, _⟩ := k; cases k; done) | (cases k; rfl) | (cases k; done)
  | .str _, e, v, h, k => by
    rw [Rep] at h; subst h
    cases e <;> rw [Rep] at k <;> first | (obtain ⟨_, _, k, _⟩ := k; cases k; done) | (cases k; rfl) | (cases k; done)
  | .emp, e, v, h, k => by rw [Rep] at h; exact h.elim
  | .tup ds, e, v, h, k => by
    rw [Rep] at h
    obtain ⟨a, vs, rfl, h2, h3⟩ := h
    cases e <;> rw [Rep] at k
    case tup es =>
      obtain ⟨b, ws, e1, k2, k3⟩ := k
      cases e1
      rw [h2] at k2; cases k2
      rw [Reps.inj h3 k3]
    case lst es =>
      obtain ⟨b, ws, e1, k2, k3⟩ := k
      cases e1
      rw [h2] at k2; cases k2
    all_goals cases k
  | .lst ds, e, v, h, k => by
    rw [Rep] at h
    obtain ⟨a, vs, rfl, h2, h3⟩ := h
    cases e <;> rw [Rep] at k
    case lst es =>
      obtain ⟨b, ws, e1, k2, k3⟩ := k
      cases e1
      rw [h2] at k2; cases k2
      rw [Reps.inj h3 k3]
    case tup es =>
      obtain ⟨b, ws, e1, k2, k3⟩ := k
      cases e1
      rw [h2] at k2; cases k2
    all_goals cases k
private theorem Reps.inj {H : Hp} : ∀ {d e : List D} {v : List V}, Reps H d v → Reps H e v → d = e
  | [], e, v, h, k => by
    rw [Reps] at h; subst h
    cases e with
    | nil => rfl
    | cons e es => rw [Reps] at k; obtain ⟨_, _, k, _⟩ := k; cases k
  | d :: ds, e, v, h, k => by
    rw [Reps] at h
    obtain ⟨v, r, rfl, h2, h3⟩ := h
    cases e with
    | nil => rw [Reps] at k; cases k
    | cons e es =>
      rw [Reps] at k
      obtain ⟨v', r', e1, k2, k3⟩ := k
      cases e1
      rw [Rep.inj h2 k2, Reps.inj h3 k3]
end
private theorem Reps.length {H : Hp} : ∀ {d : List D} {v : List V}, Reps H d v → d.length = v.length
  | [], v, h => by rw [Reps] at h; subst h; rfl
  | d :: ds, v, h => by
    rw [Reps] at h
    obtain ⟨v, r, rfl, h2, h3⟩ := h
    rw [List.length_cons, List.length_cons, Reps.length h3]
private theorem Reps.get {H : Hp} : ∀ {d : List D} {v : List V} {i : Nat} {x : D}, Reps H d v → d[i]? = some x → ∃ y, v[i]? = some y ∧ Rep H x y
  | [], v, i, x, h, e => by simp at e
  | d :: ds, v, 0, x, h, e => by
    rw [Reps] at h
    obtain ⟨v, r, rfl, h2, h3⟩ := h
    simp at e; subst e
    exact ⟨v, rfl, h2⟩
  | d :: ds, v, i + 1, x, h, e => by
    rw [Reps] at h
    obtain ⟨v, r, rfl, h2, h3⟩ := h
    obtain ⟨y, h4, h5⟩ := Reps.get (i := i) (x := x) h3 (by simpa using e)
    exact ⟨y, by simpa using h4, h5⟩
private theorem Reps.nil {H : Hp} : Reps H [] [] := by rw [Reps]
private theorem Reps.cons {H : Hp} {d : D} {v : V} {ds : List D} {vs : List V} (h : Rep H d v) (k : Reps H ds vs) : Reps H (d :: ds) (v :: vs) := by
  rw [Reps]; exact ⟨v, vs, rfl, h, k⟩
noncomputable def b2n (b : Bool) : Int := if b then 1 else 0
mutual
noncomputable def peq : D → D → Bool
  | .non, e => match e with | .non => true | _ => false
  | .bl a, e => match e with | .bl b => a == b | .int i => b2n a == i | _ => false
  | .int i, e => match e with | .bl b => i == b2n b | .int j => i == j | _ => false
  | .str x, e => match e with | .str y => x == y | _ => false
  | .tup ds, e => match e with | .tup es => peqs ds es | _ => false
  | .lst ds, e => match e with | .lst es => peqs ds es | _ => false
  | .emp, e => match e with | .emp => true | _ => false
noncomputable def peqs : List D → List D → Bool
  | [], e => match e with | [] => true | _ => false
  | d :: ds, e => match e with | e :: es => peq d e && peqs ds es | [] => false
end
mutual
noncomputable def dep : D → Nat
  | .tup ds => deps ds + 1
  | .lst ds => deps ds + 1
  | _ => 0
noncomputable def deps : List D → Nat
  | [] => 0
  | d :: ds => max (dep d) (deps ds)
end
private theorem dep_le {d : D} : ∀ {ds : List D} {i : Nat}, ds[i]? = some d → dep d ≤ deps ds
  | [], i, h => by simp at h
  | e :: ds, 0, h => by simp at h; subst h; rw [deps]; exact Nat.le_max_left _ _
  | e :: ds, i + 1, h => by
    rw [deps]
    exact Nat.le_trans (dep_le (ds := ds) (i := i) (by simpa using h)) (Nat.le_max_right _ _)
mutual
private theorem peq_refl : ∀ d : D, peq d d = true
  | .non => by rw [peq]
  | .emp => by rw [peq]
  | .bl b => by simp only [peq]; simp
  | .int b => by simp only [peq]; simp
  | .str b => by simp only [peq]; simp
  | .tup ds => by simp only [peq]; exact peqs_refl ds
  | .lst ds => by simp only [peq]; exact peqs_refl ds
private theorem peqs_refl : ∀ d : List D, peqs d d = true
  | [] => by rw [peqs]
  | d :: ds => by rw [peqs]; simp [peq_refl d, peqs_refl ds]
end
private theorem peqs_all : ∀ (ds es : List D), ds.length = es.length → peqs ds es = (List.range ds.length).all fun i => peq (ds.getD i .non) (es.getD i .non)
  | [], [], _ => by rw [peqs]; rfl
  | d :: ds, e :: es, h => by
    rw [peqs, peqs_all ds es (by simpa using h), List.length_cons, List.range_succ_eq_map]
    simp [List.all_map, Function.comp_def]
  | [], _ :: _, h => by simp at h
  | _ :: _, [], h => by simp at h
private theorem peqs_len : ∀ (ds es : List D), ds.length ≠ es.length → peqs ds es = false
  | [], [], h => absurd rfl h
  | d :: ds, e :: es, h => by rw [peqs, peqs_len ds es (by simpa using h)]; simp
  | [], _ :: _, h => by simp only [peqs]
  | _ :: _, [], h => by simp only [peqs]
open SeqAt
section
variable {X : Cx} {pins : List (Addr × Obj)} {σ : L2.St} {H : Hp} {s : Shared}
private theorem in1_units {A : Around} : A.in1.units = A.units + 1 := rfl
private theorem Inv.rep_list {a : Addr} {vs : List V} (I : Inv X pins σ H s) (h : H a = some (.lst vs)) : ∃ its : List Value, Vals vs its ∧ s.heap.IsList a its.toArray := by
  obtain ⟨its, r, p, _⟩ := I.list (SqL.of h)
  exact ⟨its, r, p.isList⟩
private theorem Inv.rep_tuple {a : Addr} {vs : List V} (I : Inv X pins σ H s) (h : H a = some (.tup vs)) : ∃ its : List Value, Vals vs its ∧ s.heap.IsTuple a its.toArray := by
  obtain ⟨its, r, p, _⟩ := I.tuple (SqT.of h)
  exact ⟨its, r, p⟩
private theorem eq_items {A : Around} {ds es : List D} {vs ws : List V} {us ts : List Value} (hd : Reps H ds vs) (he : Reps H es ws) (r : Vals vs us) (q : Vals ws ts)
    (ih : ∀ (i : Nat) (d e : D), ds[i]? = some d → es[i]? = some e → ∀ x y u v, Rep H d x → Rep H e y → RelV x u → RelV y v → EqAt A s u v (peq d e)) :
    ∀ j (h1 : j < us.toArray.size) (h2 : j < ts.toArray.size), EqAt A s us.toArray[j] ts.toArray[j] (peq (ds.getD j .non) (es.getD j .non)) := by
  intro j h1 h2
  have l1 : ds.length = us.length := hd.length.trans r.length
  have l2 : es.length = ts.length := he.length.trans q.length
  have h1' : j < ds.length := by rw [l1]; simpa using h1
  have h2' : j < es.length := by rw [l2]; simpa using h2
  have e1 : ds[j]? = some ds[j] := List.getElem?_eq_getElem h1'
  have e2 : es[j]? = some es[j] := List.getElem?_eq_getElem h2'
  obtain ⟨x, hx, rx⟩ := hd.get e1
  obtain ⟨y, hy, ry⟩ := he.get e2
  obtain ⟨u, hu, ru⟩ := r.get hx
  obtain ⟨v, hv, rv⟩ := q.get hy
  have g1 : us.toArray[j] = u := by
    have : us[j]? = some us[j] := List.getElem?_eq_getElem (by simpa using h1)
    rw [this] at hu
    simpa using hu
  have g2 : ts.toArray[j] = v := by
    have : ts[j]? = some ts[j] := List.getElem?_eq_getElem (by simpa using h2)
    rw [this] at hv
    simpa using hv
  rw [g1, g2, List.getD_eq_getElem?_getD, List.getD_eq_getElem?_getD, e1, e2]
  exact ih j _ _ e1 e2 x y u v rx ry ru rv
private theorem seq_bool {ds es : List D} {us ts : List Value} (l1 : ds.length = us.length) (l2 : es.length = ts.length) :
    ((List.range (min us.toArray.size ts.toArray.size)).all (fun j => peq (ds.getD j .non) (es.getD j .non)) && us.toArray.size == ts.toArray.size) = peqs ds es := by
  by_cases h : ds.length = es.length
  · have e : us.toArray.size = ds.length := by simp [l1]
    have e2 : ts.toArray.size = ds.length := by simp [h, l2]
    rw [e, e2, peqs_all ds es h, Nat.min_self]
    simp
  · rw [peqs_len ds es h]
    have : (us.toArray.size == ts.toArray.size) = false := by
      rw [beq_eq_false_iff_ne]
      simp only [List.size_toArray, ← l1, ← l2]
      exact h
    rw [this, Bool.and_false]
private theorem deep {n : Nat} (I : Inv X pins σ H s) : ∀ (A : Around) (d e : D) (x y : V) (u v : Value), dep d ≤ n → A.units + n < cLine → Rep H d x → Rep H e y → RelV x u → RelV y v →
    EqAt A s u v (peq d e) ∧ RcAt A s u v (peq d e) ∧ RcNeAt A s u v (!peq d e) := by
  induction n with
  | zero =>
    intro A d e x y u v hn hu hd he ru rv
    cases d with
    | emp => rw [Rep] at hd; exact hd.elim
    | tup ds => rw [dep] at hn; omega
    | lst ds => rw [dep] at hn; omega
    | non =>
      rw [Rep] at hd; subst hd; cases ru
      cases e with
      | non => rw [Rep] at he; subst he; cases rv; simp only [peq]; exact ⟨EqAt.same _, RcAt.none_none, RcNeAt.none_none⟩
      | bl b => rw [Rep] at he; subst he; cases rv; simp only [peq]; exact ⟨EqAt.none_bool _, RcAt.none_bool _, RcNeAt.none_bool _⟩
      | int b => rw [Rep] at he; subst he; obtain ⟨t, rfl⟩ := rv; simp only [peq]; exact ⟨EqAt.none_int _ _, RcAt.none_int _ _, RcNeAt.none_int _ _⟩
      | str b => rw [Rep] at he; subst he; obtain ⟨t, rfl⟩ := rv; simp only [peq]; exact ⟨EqAt.none_str _ _, RcAt.none_str _ _, RcNeAt.none_str _ _⟩
      | emp => rw [Rep] at he; exact he.elim
      | tup es =>
        rw [Rep] at he; obtain ⟨a, vs, rfl, h2, _⟩ := he; cases rv
        obtain ⟨its, _, ht⟩ := Inv.rep_tuple I h2
        simp only [peq]; exact ⟨EqAt.none_tuple ht (by omega), RcAt.none_tuple ht (by omega), RcNeAt.none_tuple ht (by omega)⟩
      | lst es =>
        rw [Rep] at he; obtain ⟨a, vs, rfl, h2, _⟩ := he; cases rv
        obtain ⟨its, _, ht⟩ := Inv.rep_list I h2
        simp only [peq]; exact ⟨EqAt.none_list ht (by omega), RcAt.none_list ht (by omega), RcNeAt.none_list ht (by omega)⟩
    | bl c =>
      rw [Rep] at hd; subst hd; cases ru
      cases e with
      | non => rw [Rep] at he; subst he; cases rv; simp only [peq]; exact ⟨EqAt.bool_none _, RcAt.bool_none _, RcNeAt.bool_none _⟩
      | bl b => rw [Rep] at he; subst he; cases rv; simp only [peq]; exact ⟨EqAt.bool_bool _ _, RcAt.bool_bool _ _, RcNeAt.bool_bool _ _⟩
      | int b => rw [Rep] at he; subst he; obtain ⟨t, rfl⟩ := rv; simp only [peq]; exact ⟨EqAt.bool_int _ _ _, RcAt.bool_int _ _ _, RcNeAt.bool_int _ _ _⟩
      | str b => rw [Rep] at he; subst he; obtain ⟨t, rfl⟩ := rv; simp only [peq]; exact ⟨EqAt.bool_str _ _ _, RcAt.bool_str _ _ _, RcNeAt.bool_str _ _ _⟩
      | emp => rw [Rep] at he; exact he.elim
      | tup es =>
        rw [Rep] at he; obtain ⟨a, vs, rfl, h2, _⟩ := he; cases rv
        obtain ⟨its, _, ht⟩ := Inv.rep_tuple I h2
        simp only [peq]; exact ⟨EqAt.bool_tuple _ ht (by omega), RcAt.bool_tuple _ ht (by omega), RcNeAt.bool_tuple _ ht (by omega)⟩
      | lst es =>
        rw [Rep] at he; obtain ⟨a, vs, rfl, h2, _⟩ := he; cases rv
        obtain ⟨its, _, ht⟩ := Inv.rep_list I h2
        simp only [peq]; exact ⟨EqAt.bool_list _ ht (by omega), RcAt.bool_list _ ht (by omega), RcNeAt.bool_list _ ht (by omega)⟩
    | int c =>
      rw [Rep] at hd; subst hd; obtain ⟨t', rfl⟩ := ru
      cases e with
      | non => rw [Rep] at he; subst he; cases rv; simp only [peq]; exact ⟨EqAt.int_none _ _, RcAt.int_none _ _, RcNeAt.int_none _ _⟩
      | bl b => rw [Rep] at he; subst he; cases rv; simp only [peq]; exact ⟨EqAt.int_bool _ _ _, RcAt.int_bool _ _ _, RcNeAt.int_bool _ _ _⟩
      | int b => rw [Rep] at he; subst he; obtain ⟨t, rfl⟩ := rv; simp only [peq]; exact ⟨EqAt.int_int _ _ _ _, RcAt.int_int _ _ _ _, RcNeAt.int_int _ _ _ _⟩
      | str b => rw [Rep] at he; subst he; obtain ⟨t, rfl⟩ := rv; simp only [peq]; exact ⟨EqAt.int_str _ _ _ _, RcAt.int_str _ _ _ _, RcNeAt.int_str _ _ _ _⟩
      | emp => rw [Rep] at he; exact he.elim
      | tup es =>
        rw [Rep] at he; obtain ⟨a, vs, rfl, h2, _⟩ := he; cases rv
        obtain ⟨its, _, ht⟩ := Inv.rep_tuple I h2
        simp only [peq]; exact ⟨EqAt.int_tuple _ _ ht (by omega), RcAt.int_tuple _ _ ht (by omega), RcNeAt.int_tuple _ _ ht (by omega)⟩
      | lst es =>
        rw [Rep] at he; obtain ⟨a, vs, rfl, h2, _⟩ := he; cases rv
        obtain ⟨its, _, ht⟩ := Inv.rep_list I h2
        simp only [peq]; exact ⟨EqAt.int_list _ _ ht (by omega), RcAt.int_list _ _ ht (by omega), RcNeAt.int_list _ _ ht (by omega)⟩
    | str c =>
      rw [Rep] at hd; subst hd; obtain ⟨t', rfl⟩ := ru
      cases e with
      | non => rw [Rep] at he; subst he; cases rv; simp only [peq]; exact ⟨EqAt.str_none _ _, RcAt.str_none _ _, RcNeAt.str_none _ _⟩
      | bl b => rw [Rep] at he; subst he; cases rv; simp only [peq]; exact ⟨EqAt.str_bool _ _ _, RcAt.str_bool _ _ _, RcNeAt.str_bool _ _ _⟩
      | int b => rw [Rep] at he; subst he; obtain ⟨t, rfl⟩ := rv; simp only [peq]; exact ⟨EqAt.str_int _ _ _ _, RcAt.str_int _ _ _ _, RcNeAt.str_int _ _ _ _⟩
      | str b => rw [Rep] at he; subst he; obtain ⟨t, rfl⟩ := rv; simp only [peq]; exact ⟨EqAt.str_str _ _ _ _, RcAt.str_str _ _ _ _, RcNeAt.str_str _ _ _ _⟩
      | emp => rw [Rep] at he; exact he.elim
      | tup es =>
        rw [Rep] at he; obtain ⟨a, vs, rfl, h2, _⟩ := he; cases rv
        obtain ⟨its, _, ht⟩ := Inv.rep_tuple I h2
        simp only [peq]; exact ⟨EqAt.str_tuple _ _ ht (by omega), RcAt.str_tuple _ _ ht (by omega), RcNeAt.str_tuple _ _ ht (by omega)⟩
      | lst es =>
        rw [Rep] at he; obtain ⟨a, vs, rfl, h2, _⟩ := he; cases rv
        obtain ⟨its, _, ht⟩ := Inv.rep_list I h2
        simp only [peq]; exact ⟨EqAt.str_list _ _ ht (by omega), RcAt.str_list _ _ ht (by omega), RcNeAt.str_list _ _ ht (by omega)⟩
  | succ n ih =>
    intro A d e x y u v hn hu hd he ru rv
    by_cases hz : dep d ≤ n
    · exact ih A d e x y u v hz (by omega) hd he ru rv
    cases d with
    | non => simp only [dep] at hz; omega
    | bl _ => simp only [dep] at hz; omega
    | int _ => simp only [dep] at hz; omega
    | str _ => simp only [dep] at hz; omega
    | emp => simp only [dep] at hz; omega
    | tup ds =>
      rw [dep] at hn
      have hd0 := hd
      rw [Rep] at hd; obtain ⟨a, vs, rfl, h2, hs⟩ := hd; cases ru
      obtain ⟨its, rI, ht⟩ := Inv.rep_tuple I h2
      cases e with
      | non => rw [Rep] at he; subst he; cases rv; simp only [peq]; exact ⟨EqAt.tuple_none ht (by omega), RcAt.tuple_none ht (by omega), RcNeAt.tuple_none ht (by omega)⟩
      | bl b => rw [Rep] at he; subst he; cases rv; simp only [peq]; exact ⟨EqAt.tuple_bool _ ht (by omega), RcAt.tuple_bool _ ht (by omega), RcNeAt.tuple_bool _ ht (by omega)⟩
      | int b => rw [Rep] at he; subst he; obtain ⟨t, rfl⟩ := rv; simp only [peq]; exact ⟨EqAt.tuple_int _ _ ht (by omega), RcAt.tuple_int _ _ ht (by omega), RcNeAt.tuple_int _ _ ht (by omega)⟩
      | str b => rw [Rep] at he; subst he; obtain ⟨t, rfl⟩ := rv; simp only [peq]; exact ⟨EqAt.tuple_str _ _ ht (by omega), RcAt.tuple_str _ _ ht (by omega), RcNeAt.tuple_str _ _ ht (by omega)⟩
      | emp => rw [Rep] at he; exact he.elim
      | lst es =>
        rw [Rep] at he; obtain ⟨b, ws, rfl, k2, _⟩ := he; cases rv
        obtain ⟨jts, _, hl⟩ := Inv.rep_list I k2
        simp only [peq]; exact ⟨EqAt.tuple_list ht hl (by omega), RcAt.tuple_list ht hl (by omega), RcNeAt.tuple_list ht hl (by omega)⟩
      | tup es =>
        have he0 := he
        rw [Rep] at he; obtain ⟨b, ws, rfl, k2, ks⟩ := he; cases rv
        obtain ⟨jts, rJ, hj⟩ := Inv.rep_tuple I k2
        have items := eq_items (A := A.in1) (s := s) hs ks rI rJ fun i d e e1 e2 x y u v h1 h2 h3 h4 => (ih A.in1 d e x y u v (by have := dep_le e1; omega) (by rw [in1_units]; omega) h1 h2 h3 h4).1
        have rc := RcAt.tuples ht hj (by omega) items
        rw [seq_bool (hs.length.trans rI.length) (ks.length.trans rJ.length)] at rc
        have rn := RcNeAt.tuples ht hj (by omega) items
        rw [seq_bool (hs.length.trans rI.length) (ks.length.trans rJ.length)] at rn
        simp only [peq]
        refine ⟨?_, rc, rn⟩
        by_cases ab : a = b
        · subst ab
          have := Rep.inj hd0 he0
          injection this with this
          subst this
          rw [peqs_refl]
          exact EqAt.same _
        · exact EqAt.of_refs ab rc
    | lst ds =>
      rw [dep] at hn
      have hd0 := hd
      rw [Rep] at hd; obtain ⟨a, vs, rfl, h2, hs⟩ := hd; cases ru
      obtain ⟨its, rI, ht⟩ := Inv.rep_list I h2
      cases e with
      | non => rw [Rep] at he; subst he; cases rv; simp only [peq]; exact ⟨EqAt.list_none ht (by omega), RcAt.list_none ht (by omega), RcNeAt.list_none ht (by omega)⟩
      | bl b => rw [Rep] at he; subst he; cases rv; simp only [peq]; exact ⟨EqAt.list_bool _ ht (by omega), RcAt.list_bool _ ht (by omega), RcNeAt.list_bool _ ht (by omega)⟩
      | int b => rw [Rep] at he; subst he; obtain ⟨t, rfl⟩ := rv; simp only [peq]; exact ⟨EqAt.list_int _ _ ht (by omega), RcAt.list_int _ _ ht (by omega), RcNeAt.list_int _ _ ht (by omega)⟩
      | str b => rw [Rep] at he; subst he; obtain ⟨t, rfl⟩ := rv; simp only [peq]; exact ⟨EqAt.list_str _ _ ht (by omega), RcAt.list_str _ _ ht (by omega), RcNeAt.list_str _ _ ht (by omega)⟩
      | emp => rw [Rep] at he; exact he.elim
      | tup es =>
        rw [Rep] at he; obtain ⟨b, ws, rfl, k2, _⟩ := he; cases rv
        obtain ⟨jts, _, hl⟩ := Inv.rep_tuple I k2
        simp only [peq]; exact ⟨EqAt.list_tuple ht hl (by omega), RcAt.list_tuple ht hl (by omega), RcNeAt.list_tuple ht hl (by omega)⟩
      | lst es =>
        have he0 := he
        rw [Rep] at he; obtain ⟨b, ws, rfl, k2, ks⟩ := he; cases rv
        obtain ⟨jts, rJ, hj⟩ := Inv.rep_list I k2
        have l1 := hs.length.trans rI.length
        have l2 := ks.length.trans rJ.length
        have items := eq_items (A := A.in1) (s := s) hs ks rI rJ fun i d e e1 e2 x y u v h1 h2 h3 h4 => (ih A.in1 d e x y u v (by have := dep_le e1; omega) (by rw [in1_units]; omega) h1 h2 h3 h4).1
        have key : RcAt A s (.ref a) (.ref b) (peqs ds es) ∧ RcNeAt A s (.ref a) (.ref b) (!peqs ds es) := by
          by_cases hl : ds.length = es.length
          · have hz : its.toArray.size = jts.toArray.size := by simp only [List.size_toArray]; omega
            have e1 : its.toArray.size = ds.length := by simp [l1]
            have q1 := RcAt.lists ht hj hz (by omega) items
            have q2 := RcNeAt.lists ht hj hz (by omega) items
            rw [e1] at q1 q2
            rw [peqs_all ds es hl]
            exact ⟨q1, q2⟩
          · have hz : (its.toArray.size != jts.toArray.size) = true := by
              rw [bne_iff_ne]
              simp only [List.size_toArray]
              omega
            rw [peqs_len ds es hl]
            exact ⟨RcAt.lists_lengths ht hj hz (by omega), RcNeAt.lists_lengths ht hj hz (by omega)⟩
        simp only [peq]
        refine ⟨?_, key.1, key.2⟩
        by_cases ab : a = b
        · subst ab
          have := Rep.inj hd0 he0
          injection this with this
          subst this
          rw [peqs_refl]
          exact EqAt.same _
        · exact EqAt.of_refs ab key.1
end
section
variable {X : Cx}
noncomputable def rEqD : R2 := fun x y H Q => ∃ d e, Rep H d x ∧ Rep H e y ∧ dep d ≤ 60 ∧ Q (.bl (peq d e)) H
private theorem op_eqD (hu : X.A.units + 60 < cLine) : OpR X (compareOp .Eq) rEqD := by
  intro pins s σ H x y u v Q I rx ry h
  obtain ⟨d, e, hd, he, hn, q⟩ := h
  exact (deep I X.A d e x y u v hn hu hd he rx ry).2.1 _ _ _ _ ⟨.bl (peq d e), H, I, rfl, q⟩
end
private theorem Room.u60 {k : Nat} {A : Around} (r : Room k A) : A.units + 60 < cLine := by have := r.un; omega
end L3
set_option Elab.async false
set_option linter.all false
set_option maxRecDepth 100000
namespace L3
open PySem PySem.Spec PyProof.Rows L2
noncomputable abbrev S := L2.St
private theorem comp_loop {prog : Program} {w : World} {A : Around} {R : Result → Shared → Prop} {s : Shared} {elt target iter : Expr} {ifs : List Expr} {scope : Scope} {pos : Pos} {it acc : Value} {env : Env} (J : Nat → Shared → Prop)
    (turn : ∀ n s, J n s → wpAny (model prog w) A (pyNext it) (fun r s1 => match r with
      | none => R (.ok .next) s1
      | some v => wpAny (model prog w) A (letOwnedTupleGo target it v) (fun _ s2 => wpAny (model prog w) A (assign target env v) (fun _ s3 =>
          wpAny (model prog w) A (forIn ifs true fun c r => if r = true then do let ok ← isTrue c env (eval c env); pure (ForInStep.yield ok) else pure (ForInStep.yield r)) (fun ok s4 =>
            if ok = true then wpAny (model prog w) A (eval elt env) (fun x s5 => wpAny (model prog w) A (call (.builtin "list.append") [acc, x]) (fun _ s6 => ∃ m, m < n ∧ J m s6) (fun _ _ => False) s5) (fun _ _ => False) s4
            else ∃ m, m < n ∧ J m s4) (fun _ _ => False) s3) (fun _ _ => False) s2) (fun _ _ => False) s1) (fun _ _ => False) s)
    (n : Nat) (h : J n s) : codeAny (model prog w) A (.compLoop (.ListComp elt [⟨target, iter, ifs, 0⟩] scope pos) 0 it acc env) R s := by
  refine codeAny_loop rfl J (fun n s hJ => ?_) n h
  show wpAny (model prog w) A ((compTurn (.ListComp elt [⟨target, iter, ifs, 0⟩] scope pos) 0 it acc env).onRaise (fun x => do noteFrame x env; theTreesLotGoes x)) _ _ s
  refine wpAny_noted ?_
  rw [compTurn_list]
  refine wpAny_bind (wpAny_standAt (wpAny_bind (wpAny_mono (turn n s hJ) (fun r s1 h1 => ?_) fun _ _ z => z.elim)))
  cases r with
  | none => exact wpAny_pure h1
  | some v =>
    refine wpAny_bind (wpAny_mono h1 (fun _ s2 h2 => wpAny_bind (wpAny_mono h2 (fun _ s3 h3 => wpAny_bind (wpAny_mono h3 (fun ok s4 h4 => ?_) fun _ _ z => z.elim)) fun _ _ z => z.elim)) fun _ _ z => z.elim)
    cases ok with
    | false => exact wpAny_pure ⟨rfl, h4⟩
    | true => exact wpAny_bind (wpAny_bind (wpAny_mono h4 (fun x s5 h5 => wpAny_bind (wpAny_mono h5 (fun _ s6 h6 => wpAny_pure (wpAny_pure ⟨rfl, h6⟩)) fun _ _ z => z.elim)) fun _ _ z => z.elim))
noncomputable def clOf (env : Env) : List (Str × NameKind) → List (Str × Addr) → List (Str × Addr)
  | [], acc => acc
  | (n, k) :: r, acc => if k == .free then clOf env r ((n, (env.cells.lookup n).getD 0) :: acc) else clOf env r acc
private theorem closure_forIn {env : Env} : ∀ (names : List (Str × NameKind)) (acc : List (Str × Addr)), (names.all fun y => y.2 != .free || (env.cells.lookup y.1).isSome) = true →
    (forIn names acc (fun (x : Str × NameKind) (cs : List (Str × Addr)) => match x with | (name, kind) => if (kind == NameKind.free) = true then do let a ← cellOf env name; pure (ForInStep.yield ((name, a) :: cs)) else pure (ForInStep.yield cs)) : Sem (List (Str × Addr))) = pure (clOf env names acc)
  | [], acc, _ => rfl
  | (n, k) :: r, acc, h => by
    rw [List.all_cons, Bool.and_eq_true] at h
    rw [List.forIn_cons]
    dsimp only
    by_cases hk : (k == NameKind.free) = true
    · rw [if_pos hk]
      have h1 := h.1
      have e : k = .free := by simpa using hk
      subst e
      simp only [bne_self_eq_false, Bool.false_or] at h1
      obtain ⟨a, ha⟩ := Option.isSome_iff_exists.mp h1
      have : cellOf env n = pure a := by unfold cellOf; rw [ha]
      rw [this, pure_bind, pure_bind]
      dsimp only
      rw [closure_forIn r _ h.2, clOf, if_pos hk, ha]
      rfl
    · rw [if_neg hk, pure_bind]
      dsimp only
      rw [closure_forIn r _ h.2, clOf, if_neg hk]
private theorem closure_of {scope : Scope} {env : Env} (h : (scope.names.all fun y => y.2 != .free || (env.cells.lookup y.1).isSome) = true) : closureFor scope env = pure (clOf env scope.names []) := by
  unfold closureFor
  show (forIn scope.names [] _ >>= fun r => pure r) = _
  rw [bind_pure]
  exact closure_forIn scope.names [] h
private theorem clOf_lookup {env : Env} {x : Str} {c : Addr} : ∀ (names : List (Str × NameKind)) (acc : List (Str × Addr)), (names.all fun y => y.2 != .free || (env.cells.lookup y.1).isSome) = true →
    (∀ c, acc.lookup x = some c → env.cells.lookup x = some c) → (clOf env names acc).lookup x = some c → env.cells.lookup x = some c
  | [], acc, _, ha, h => ha c h
  | (n, k) :: r, acc, hall, ha, h => by
    rw [List.all_cons, Bool.and_eq_true] at hall
    rw [clOf] at h
    by_cases hk : (k == NameKind.free) = true
    · rw [if_pos hk] at h
      refine clOf_lookup r _ hall.2 (fun c hc => ?_) h
      rw [List.lookup_cons] at hc
      split at hc
      · rename_i hx
        have hx' : x = n := by simpa using hx
        subst hx'
        have h1 := hall.1
        have e : k = .free := by simpa using hk
        subst e
        simp only [bne_self_eq_false, Bool.false_or] at h1
        obtain ⟨a, ha'⟩ := Option.isSome_iff_exists.mp h1
        rw [ha'] at hc ⊢
        exact hc
      · exact ha c hc
    · rw [if_neg hk] at h
      exact clOf_lookup r acc hall.2 ha h
private theorem clOf_acc {env : Env} {x : Str} : ∀ (names : List (Str × NameKind)) (acc : List (Str × Addr)), (∃ c, acc.lookup x = some c) → ∃ c, (clOf env names acc).lookup x = some c
  | [], acc, h => h
  | (n, k) :: r, acc, h => by
    rw [clOf]
    split
    · refine clOf_acc r _ ?_
      rw [List.lookup_cons]
      split
      · exact ⟨_, rfl⟩
      · exact h
    · exact clOf_acc r acc h
private theorem clOf_has {env : Env} {x : Str} : ∀ (names : List (Str × NameKind)) (acc : List (Str × Addr)), (x, NameKind.free) ∈ names → ∃ c, (clOf env names acc).lookup x = some c
  | [], _, h => nomatch h
  | (n, k) :: r, acc, h => by
    rw [clOf]
    rcases List.mem_cons.mp h with e | h
    · cases e
      rw [if_pos (by rfl)]
      exact clOf_acc r _ ⟨(env.cells.lookup x).getD 0, by rw [List.lookup_cons]; simp⟩
    · split
      · exact clOf_has r _ h
      · exact clOf_has r acc h
private theorem relabel_mem {scope : Scope} {env : Env} {x : Str} {k : NameKind} (hc : ∀ y ∈ scope.names, y.2 ≠ .cell) (hk : k = .cell ∨ k = .free) (h : (relabel scope env).names.lookup x = some k) : (x, NameKind.free) ∈ scope.names := by
  have h1 := PySem.mem_of_lookup h
  unfold relabel at h1
  obtain ⟨⟨n, k'⟩, hm, e⟩ := List.mem_map.mp h1
  dsimp only at e
  split at e
  · rename_i hq
    cases e
    rw [Bool.and_eq_true, Bool.and_eq_true] at hq
    have : k' = .free := by simpa using hq.1.1
    subst this
    exact hm
  · cases e
    rcases hk with rfl | rfl
    · exact absurd rfl (hc _ hm)
    · exact hm
noncomputable def cxComp (X : Cx) (pins : List (Addr × Obj)) (s2 : Shared) (H2 : Hp) (N : List Str) (scope : Scope) (C : Addr) (fp : List Addr) : Cx :=
  { X with N := N, s₀ := s2, H₀ := H2, env := compEnvC scope (clOf X.env scope.names []) C X.env, outer := X.stack, stack := X.stack, ex := fp, fn := fun _ => false, pn := X.pn ++ pins, xe := fun _ _ => False }
noncomputable def ini (src : List (Option Nat)) (σ : S) : S := src.map fun o => o.bind fun j => (σ[j]?).join
structure CompOk (X : Cx) (scope : Scope) (N : List Str) (src : List (Option Nat)) : Prop where
  kind : scope.kind = .function
  names : ∀ x ∈ scope.names, x.2 = .local → scope.names.lookup x.1 = some .local
  ncell : ∀ y ∈ scope.names, y.2 ≠ .cell
  clos : (scope.names.all fun y => y.2 != .free || (X.env.cells.lookup y.1).isSome) = true
  len : src.length = N.length
  free : ∀ (i : Nat) (x : Str) (j : Nat), N[i]? = some x → src[i]? = some (some j) → X.N[j]? = some x ∧ Vis X.env.scope x ∧ X.env.scope.names.lookup x ≠ some .local ∧
    ((relabel scope X.env).names.lookup x = some .cell ∨ (relabel scope X.env).names.lookup x = some .free)
private theorem fpOk_stk {X : Cx} {pins : List (Addr × Obj)} {σ : S} {H H' : Hp} {s : Shared} {b : Addr} (I : Inv X pins σ H s) (h : FpOk X pins H' b) : b ∉ frs X.stack := fun z => by
  rcases List.mem_cons.mp (I.stkSub b z) with e | e
  · exact h.2.1 e
  · exact h.2.2.1 e
private theorem comp_inv {X : Cx} {pins : List (Addr × Obj)} {σ : S} {H : Hp} {s2 : Shared} {scope : Scope} {N : List Str} {src : List (Option Nat)} {fp : List Addr} (I : Inv X pins σ H s2) (ok : CompOk X scope N src) (hf : ∀ b ∈ fp, FpOk X pins H b) (hfo : ∀ b ∈ fp, ∃ o, s2.heap.get? b = some o)
    {D C : Addr} {h' : Heap} {t : Nat} (hD : s2.heap.objs.size ≤ D) (hC : s2.heap.objs.size ≤ C) (hCD : C ≠ D) (keep : ∀ b o, s2.heap.get? b = some o → h'.get? b = some o) (hns : h'.Ns C (fun _ => none)) (hnew : h'.get? D = some { cls := .type "list", data := .seq #[] }) :
    Inv (cxComp X pins s2 H N scope C fp) [] (ini src σ) (upd H D (.lst [])) { s2 with heap := h', toks := t } := by
  have hH : ∀ a, s2.heap.objs.size ≤ a → H a = none := fun a ha => I.hok.fresh ha
  have lt : ∀ {b : Addr} {o : Obj}, s2.heap.get? b = some o → b < s2.heap.objs.size := fun e => Heap.lt_size e
  have cl_of : ∀ x c, (clOf X.env scope.names []).lookup x = some c → X.env.cells.lookup x = some c := fun x c e => clOf_lookup scope.names [] ok.clos (fun c z => by simp at z) e
  have hlk : HOk X.prog X.w (upd H D (.lst [])) h' := I.hok.laid keep hD ⟨Nat.zero_le _, [], 0, .nil, hnew⟩
  have un : Un (frs X.stack) fp H (upd H D (.lst [])) s2.heap h' := Un.laid keep hD (hH D hD)
  obtain ⟨m0, hn0, hl0⟩ := I.loc
  refine ⟨⟨I.ok.mod, ?_, I.ok.glob, I.ok.blt, hC, fun x y c e1 e2 => I.ok.inj x y c (cl_of x c e1) (cl_of y c e2), fun x hx => ?_, fun x c z => ?_, I.ok.hd, I.ok.frames, .inl rfl, fun b hb => ⟨?_, fun x c e => ?_⟩, I.bs, Nat.le_trans I.ok.bsz I.sz, fun b o e hb => ?_, fun b hb => fpOk_stk I (hf b hb), I.stack, I.stkFree⟩,
    rfl, I.bare, un, ⟨_, hns, fun i x v e1 e2 e3 => ?_⟩, fun x c e => ?_, ?_, fun x c e => ?_, fun p hp => ?_, hlk, ?_⟩
  · exact ok.kind
  · obtain ⟨k, hk, hx⟩ : ∃ k, (k = NameKind.cell ∨ k = .free) ∧ (relabel scope X.env).names.lookup x = some k := by
      rcases hx with hx | hx
      · exact ⟨_, .inl rfl, hx⟩
      · exact ⟨_, .inr rfl, hx⟩
    exact clOf_has _ _ (relabel_mem ok.ncell hk hx)
  · exact absurd z (by simp [cxComp])
  · obtain ⟨o, e⟩ := hfo b hb
    intro z
    have z' : b = C := z
    subst z'
    exact Nat.lt_irrefl _ (Nat.lt_of_lt_of_le (lt e) hC)
  · intro z
    exact (hf b hb).2.2.2.2.1 x c (cl_of x c e) z
  · obtain ⟨f0, f1, f2, f3, f4, f5⟩ := hf b hb
    rcases f3 with z | z
    · exact I.ok.noex b o e z
    · exact absurd (Nat.lt_of_lt_of_le (Heap.lt_size (I.ok.bs b o e).1) z) (Nat.lt_irrefl _)
  · have hj : ∃ j, src[i]? = some (some j) ∧ σ[j]? = some (some v) := by
      unfold ini at e2
      rw [List.getElem?_map] at e2
      cases q : src[i]? with
      | none => rw [q] at e2; simp at e2
      | some oj =>
        cases oj with
        | none => rw [q] at e2; simp at e2
        | some j =>
          rw [q] at e2
          simp only [Option.map_some, Option.bind_some, Option.some.injEq] at e2
          refine ⟨j, rfl, ?_⟩
          cases q2 : σ[j]? with
          | none => rw [q2] at e2; simp at e2
          | some ov => rw [q2] at e2; simp only [Option.join_some] at e2; rw [e2]
    obtain ⟨j, hj1, hj2⟩ := hj
    obtain ⟨g1, g2, g3, g4⟩ := ok.free i x j e1 hj1
    obtain ⟨u, ru, lk⟩ := hl0 j x v g1 hj2 g2
    refine ⟨u, ru, ?_⟩
    rcases lk with ⟨hk, _⟩ | ⟨hk, c, hc, hcell⟩
    · exact absurd hk g3
    · obtain ⟨k, hk1, hk2⟩ : ∃ k, (k = NameKind.cell ∨ k = .free) ∧ (relabel scope X.env).names.lookup x = some k := by
        rcases g4 with hx | hx
        · exact ⟨_, .inl rfl, hx⟩
        · exact ⟨_, .inr rfl, hx⟩
      obtain ⟨c', hc'⟩ := clOf_has (env := X.env) scope.names [] (relabel_mem ok.ncell hk1 hk2)
      have ec := cl_of x c' hc'
      rw [hc] at ec
      cases ec
      refine .inr ⟨?_, c, hc', ?_⟩
      · rcases g4 with hx | hx
        · exact .inl hx
        · exact .inr hx
      · obtain ⟨o, ho, hd⟩ := hcell
        exact ⟨o, keep c o ho, hd⟩
  · obtain ⟨v, o, ho, hd⟩ := I.cell x c (cl_of x c e)
    exact ⟨v, o, keep c o ho, hd⟩
  · show upd H D (.lst []) C = none
    rw [upd_ne hCD]
    exact hH C hC
  · obtain ⟨v, o, ho, hd⟩ := I.cell x c (cl_of x c e)
    rw [upd_ne (Nat.ne_of_lt (Nat.lt_of_lt_of_le (lt ho) hD))]
    exact I.freeC x c (cl_of x c e)
  · have hp' : p ∈ X.pn ++ pins := by
      have : p ∈ (X.pn ++ pins) ++ [] := hp
      simpa using this
    obtain ⟨q1, q2, q3, q4, q5⟩ := I.pin p hp'
    refine ⟨keep _ _ q1, ?_, ?_, fun z => ?_, q5⟩
    · rw [upd_ne (Nat.ne_of_lt (Nat.lt_of_lt_of_le (lt q1) hD))]; exact q2
    · show p.1 ≠ C
      exact Nat.ne_of_lt (Nat.lt_of_lt_of_le (lt q1) hC)
    · have z' : p.1 ∈ frs X.stack := z
      rcases List.mem_cons.mp (I.stkSub _ z') with e | e
      · exact q3 e
      · exact q4 e
  · show (ini src σ).length = N.length
    unfold ini
    rw [List.length_map]
    exact ok.len
private theorem fp_sub {X : Cx} {pins : List (Addr × Obj)} {σ : S} {H Hc : Hp} {s2 : Shared} {scope : Scope} {N : List Str} {C : Addr} {fp : List Addr} (I : Inv X pins σ H s2) (hf : ∀ b ∈ fp, FpOk X pins H b) (hfo : ∀ b ∈ fp, ∃ o, s2.heap.get? b = some o) (hC : s2.heap.objs.size ≤ C)
    (clos : (scope.names.all fun y => y.2 != .free || (X.env.cells.lookup y.1).isSome) = true) (hn : ∀ b ∈ fp, Hc b = none) : ∀ b ∈ fp, FpOk (cxComp X pins s2 H N scope C fp) [] Hc b := fun b hb => by
  obtain ⟨o, e⟩ := hfo b hb
  refine ⟨hn b hb, Nat.ne_of_lt (Nat.lt_of_lt_of_le (Heap.lt_size e) hC), fpOk_stk I (hf b hb), .inl hb, fun x c q => ?_, fun p hp => ?_⟩
  · exact (hf b hb).2.2.2.2.1 x c (clOf_lookup scope.names [] clos (fun c z => by simp at z) q)
  · have hp' : p ∈ X.pn ++ pins := by
      have : p ∈ (X.pn ++ pins) ++ [] := hp
      simpa using this
    exact (hf b hb).2.2.2.2.2 p hp'
private theorem comp_out {X : Cx} {pins : List (Addr × Obj)} {σ σc : S} {H Hc : Hp} {s2 s' : Shared} {scope : Scope} {N : List Str} {C : Addr} {fp : List Addr} {pl : List (Addr × Obj)} (I : Inv X pins σ H s2) (hf : ∀ b ∈ fp, FpOk X pins H b)
    (J : Inv (cxComp X pins s2 H N scope C fp) pl σc Hc s') : Inv X pins σ Hc s' :=
  I.call' (ch := fp) J.os J.base J.hok J.bare fun b hb => by
    obtain ⟨f0, f1, f2, f3, f4, f5⟩ := hf b hb
    exact ⟨f3, f1, f4, f5⟩
noncomputable def CompG (J : It) (g : TG) (tc : TT) (te : TE) (D : Addr) (σ : S) (H : Hp) (R : Hp → Prop) : Prop := ∃ W : Nat → Nat → S → Hp → Prop, (∃ m, W 0 m σ H) ∧ ∀ i m σ2 H2, W i m σ2 H2 →
  (J.stop i H2 ∧ R H2) ∨ (J.go i H2 ∧ ∃ N : S → Hp → Prop, (∀ σ' H', N σ' H' → ∃ m', m' < m ∧ W (i + 1) m' σ' H') ∧ ∀ x H3, J.yld i H2 x H3 → g x σ2 H3 fun σ4 H4 => tc σ4 H4 fun b H5 =>
    if b = true then te σ4 H5 fun y H6 => ∃ ys, H6 D = some (.lst ys) ∧ ys.length < sizeLine ∧ N σ4 (upd H6 D (.lst (ys ++ [y]))) else N σ4 H5)
noncomputable def tComp (wi : TI) (g : TG) (tc : TT) (te : TE) (src : List (Option Nat)) : TE := fun σ H Q => wi σ H fun J H1 => ∀ D, H1 D = none → CompG J g tc te D (ini src σ) (upd H1 D (.lst [])) (Q (.ref D))
noncomputable def tYes : TT := fun _ H Q => Q true H
noncomputable def PIfs (X : Cx) (ifs : List Expr) (t : TT) : Prop :=
  ∀ (pins : List (Addr × Obj)) (s : Shared) (σ : S) (H : Hp) (Q : Bool → Hp → Prop), Inv X pins σ H s → t σ H Q →
    wpAny (model X.prog X.w) X.A (forIn ifs true fun c r => if r = true then do let ok ← isTrue c X.env (eval c X.env); pure (ForInStep.yield ok) else pure (ForInStep.yield r)) (TP X pins σ Q) X.xe s
private theorem ifs_nil {X : Cx} : PIfs X [] tYes := fun _ _ _ H _ I h => wpAny_tests_nil ⟨H, I, h⟩
private theorem ifs_one {X : Cx} {c : Expr} {t : TT} (h : PT X c t) : PIfs X [c] t := fun pins s σ H Q I q => wpAny_tests_one (h pins s σ H Q I q)
private theorem comp_core {X : Cx} {pins : List (Addr × Obj)} {σ : S} {H2 : Hp} {s2 : Shared} {scope : Scope} {N : List Str} {src : List (Option Nat)} {fp : List Addr} {it : Addr} {tn : Nat → Heap → Prop} {J : It} {tg elt iter : Expr} {ifs : List Expr} {pos : Pos} {g : TG} {tc : TT} {te : TE} {Q : VK}
    {E : Value → Shared → Prop} {RR : Value → Addr → Result → Shared → Prop}
    (ok : CompOk X scope N src) (hcalm : X.calm = true) (I : Inv X pins σ H2 s2) (T : Turn X.prog X.w X.K tg J fp it tn) (st : tn 0 s2.heap) (hf : ∀ b ∈ fp, FpOk X pins H2 b)
    (hg : ∀ C, PG (cxComp X pins s2 H2 N scope C fp) tg g) (hc : ∀ C, PIfs (cxComp X pins s2 H2 N scope C fp) ifs tc) (he : ∀ C, PE (cxComp X pins s2 H2 N scope C fp) elt te)
    (h : ∀ D, H2 D = none → CompG J g tc te D (ini src σ) (upd H2 D (.lst [])) (Q (.ref D)))
    (hRR : ∀ D C s' H', FpOk X pins H' C → (∃ m, s'.heap.Ns C m) → Inv X pins σ H' s' → Q (.ref D) H' → RR (.ref D) C (.ok .next) s') :
    wpAny (model X.prog X.w) X.A (newList []) (fun acc s3 => wpAny (model X.prog X.w) X.A (newFunctionEnv scope X.env.globals (clOf X.env scope.names []) [] X.env.qual none .none (some X.env)) (fun cenv s4 =>
      codeAny (model X.prog X.w) X.A (.compStart (.ListComp elt [⟨tg, iter, ifs, 0⟩] scope pos) 0 (.ref it) acc { cenv with scope := relabel scope X.env }) (RR acc cenv.locals) s4) E s3) E s2 := by
  refine wpAny_newObj_type (wpAny_newFunctionEnv ok.ncell (by intro y hy; simp at hy) (fun h1 hns1 hsb1 => ?_) ok.kind)
  have hfo : ∀ b ∈ fp, ∃ o, s2.heap.get? b = some o := fun b hb => let ⟨o, e, _⟩ := T.obj 0 _ st b hb; ⟨o, e⟩
  have hpush : (s2.heap.push { cls := .type "list", dict := none, data := .seq ([] : List Value).toArray }).objs.size = s2.heap.objs.size + 1 := Heap.size_push ..
  generalize hH : s2.heap.push { cls := .type "list", dict := none, data := .seq ([] : List Value).toArray } = hp at hns1 hsb1 hpush ⊢
  dsimp only at hns1 hsb1 ⊢
  have hD : s2.heap.objs.size ≤ s2.heap.objs.size := Nat.le_refl _
  have hC : s2.heap.objs.size ≤ hp.objs.size := by rw [hpush]; exact Nat.le_succ _
  have hCD : hp.objs.size ≠ s2.heap.objs.size := by rw [hpush]; exact Nat.succ_ne_self _
  have keep : ∀ b o, s2.heap.get? b = some o → h1.get? b = some o := fun b o e =>
    hsb1.extBut b o (Nat.ne_of_lt (Nat.lt_of_lt_of_le (Heap.lt_size e) hC)) (Heap.get?_push_of_some _ (hH ▸ Heap.get?_push_of_some _ e))
  have hnew : h1.get? s2.heap.objs.size = some { cls := .type "list", data := .seq #[] } :=
    hsb1.extBut _ _ (Ne.symm hCD) (Heap.get?_push_of_some _ (hH ▸ Heap.get?_push_size _ rfl))
  have hHD : H2 s2.heap.objs.size = none := I.hok.fresh hD
  obtain ⟨W, ⟨m0, w0⟩, turn⟩ := h _ hHD
  have I0 := comp_inv (t := s2.toks + ([] : List (Str × Value)).length) I ok hf hfo hD hC hCD keep hns1 hnew
  have f0 : ∀ b ∈ fp, upd H2 s2.heap.objs.size (.lst []) b = none := fun b hb => by
    obtain ⟨o, e⟩ := hfo b hb
    rw [upd_ne (Nat.ne_of_lt (Heap.lt_size e))]
    exact (hf b hb).1
  have st0 : tn 0 h1 := T.keep 0 _ _ st fun b _ o e => keep b o e
  have loop : codeAny (model X.prog X.w) X.A (.compLoop (.ListComp elt [⟨tg, iter, ifs, 0⟩] scope pos) 0 (.ref it) (.ref s2.heap.objs.size) (compEnvC scope (clOf X.env scope.names []) hp.objs.size X.env))
      (RR (.ref s2.heap.objs.size) hp.objs.size) { s2 with heap := h1, toks := s2.toks + ([] : List (Str × Value)).length } := by
    refine comp_loop (fun n s => ∃ i σc Hc, Inv (cxComp X pins s2 H2 N scope hp.objs.size fp) [] σc Hc s ∧ tn i s.heap ∧ (∀ b ∈ fp, Hc b = none) ∧ W i n σc Hc) ?_ m0 ⟨0, _, _, I0, st0, f0, w0⟩
    rintro n s3 ⟨i, σ3, H3, I3, st3, fr3, w3⟩
    have fps := fun {Hc : Hp} (hn : ∀ b ∈ fp, Hc b = none) => fp_sub (N := N) I hf hfo hC ok.clos hn
    rcases turn i n σ3 H3 w3 with ⟨stop, qn⟩ | ⟨go, NN, hNN, step⟩
    · refine wpAny_mono (T.done (cxComp X pins s2 H2 N scope hp.objs.size fp) rfl rfl rfl hcalm i [] s3 σ3 H3 (fun _ _ => False) I3 (fps fr3) st3 stop) (fun r s4 h4 => ?_) fun _ _ z => z
      obtain ⟨rfl, I4⟩ := h4
      have J4 := comp_out I hf I4
      obtain ⟨m4, n4, _⟩ := I4.loc
      exact hRR _ _ s4 H3 (I.fpOk hC I4.free) ⟨m4, n4⟩ J4 qn
    · refine wpAny_mono (T.item (cxComp X pins s2 H2 N scope hp.objs.size fp) rfl rfl rfl hcalm i [] s3 σ3 H3 (fun _ _ => False) I3 (fps fr3) st3 go) (fun r s4 h4 => ?_) fun _ _ z => z
      obtain ⟨u, rfl, h4⟩ := h4
      refine wpAny_mono h4 (fun _ s5 h5 => ?_) fun _ _ z => z
      obtain ⟨x, H5, I5, r5, y5, st5, fr5⟩ := h5
      have I5' := I5.pinned (fps fr5) (T.obj _ _ st5)
      refine wpAny_mono (hg hp.objs.size _ s5 σ3 H5 x u _ I5' r5 (step x H5 y5)) (fun _ s6 h6 => ?_) fun _ _ z => z
      obtain ⟨σ6, H6, I6, q6⟩ := h6
      refine wpAny_mono (hc hp.objs.size _ s6 σ6 H6 _ I6 q6) (fun b s7 h7 => ?_) fun _ _ z => z
      obtain ⟨H7, I7, q7⟩ := h7
      have again : ∀ {s8 : Shared} {H8 : Hp}, Inv (cxComp X pins s2 H2 N scope hp.objs.size fp) ([] ++ pinsAt fp s5.heap) σ6 H8 s8 → NN σ6 H8 → ∃ m, m < n ∧ ∃ i σc Hc, Inv (cxComp X pins s2 H2 N scope hp.objs.size fp) [] σc Hc s8 ∧ tn i s8.heap ∧ (∀ b ∈ fp, Hc b = none) ∧ W i m σc Hc := fun {s8 H8} I8 q8 => by
        obtain ⟨m', hm, w8⟩ := hNN _ _ q8
        refine ⟨m', hm, i + 1, σ6, H8, I8.unpinned, T.keep _ _ _ st5 fun b hb o e => (I8.pin (b, o) (List.mem_append_right _ (List.mem_append_right _ (mem_pinsAt hb e)))).1, fun b hb => ?_, w8⟩
        obtain ⟨o, e, d⟩ := T.obj _ _ st5 b hb
        exact (I8.pin (b, o) (List.mem_append_right _ (List.mem_append_right _ (mem_pinsAt hb e)))).2.1
      cases b with
      | false =>
        rw [if_neg Bool.false_ne_true] at q7 ⊢
        exact again I7 q7
      | true =>
        rw [if_pos rfl] at q7 ⊢
        refine wpAny_mono (he hp.objs.size _ s7 σ6 H7 _ I7 q7) (fun yv s8 h8 => ?_) fun _ _ z => z
        obtain ⟨y, H8, I8, r8, ys, hys, hz, q8⟩ := h8
        refine wpAny_mono (mt_append (X := cxComp X pins s2 H2 N scope hp.objs.size fp) _ s8 σ6 H8 (.ref s2.heap.objs.size) [y] _ [yv] (fun _ H9 => NN σ6 H9) I8 rfl (.cons r8 .nil) ⟨_, ys, y, rfl, rfl, hys, hz, q8⟩) (fun _ s9 h9 => ?_) fun _ _ z => z
        obtain ⟨_, H9, I9, _, q9⟩ := h9
        exact again I9 q9
  exact codeAny_compStart_list loop (T.self _ _ _ _ _ st0 loop)
private theorem pe_comp {X : Cx} {scope : Scope} {tg elt iter : Expr} {ifs : List Expr} {pos : Pos} {wi : TI} {g : TG} {tc : TT} {te : TE} (N : List Str) (src : List (Option Nat)) (ok : CompOk X scope N src) (hcalm : X.calm = true) (hi : PI X tg iter wi)
    (hg : ∀ pins s2 H2 C fp, PG (cxComp X pins s2 H2 N scope C fp) tg g) (hc : ∀ pins s2 H2 C fp, PIfs (cxComp X pins s2 H2 N scope C fp) ifs tc) (he : ∀ pins s2 H2 C fp, PE (cxComp X pins s2 H2 N scope C fp) elt te)
    (hs : ∀ x, foldedSetIterable iter X.env x = pure x := by intro _; rfl) : PE X (.ListComp elt [⟨tg, iter, ifs, 0⟩] scope pos) (tComp wi g tc te src) := by
  intro pins s σ H Q I h
  rw [eval_ListComp]
  refine wpAny_comprehension_free (use := none) rfl hs (closure_of ok.clos) ok.kind ok.names (wpAny_mono (hi pins s σ H _ I h) (fun xv s1 h1 => wpAny_mono h1 (fun itv s2 h2 => ?_) fun _ _ e => e) fun _ _ e => e)
  obtain ⟨it, fp, tn, J, H2, rfl, I2, T, st2, f2, hh⟩ := h2
  refine comp_core (RR := fun acc C => compPost (model X.prog X.w) X.A X.xe none (EP X pins σ Q) acc C) ok hcalm I2 T st2 f2 (fun C => hg pins s2 H2 C fp) (fun C => hc pins s2 H2 C fp) (fun C => he pins s2 H2 C fp) hh ?_
  intro D C s' H' fC hns I' q
  obtain ⟨m, hm⟩ := hns
  refine ⟨m, hm, fun h' hs' => ?_⟩
  obtain ⟨f0, f1, f2, f3, f4, f5⟩ := fC
  exact ⟨.ref D, H', I'.turned (t' := s'.toks) (fun b o hb e => hs'.extBut b o hb e) f0 f1 f3 f4 f5, rfl, q⟩
private theorem ps_setComp {X : Cx} {scope : Scope} {tg elt iter : Expr} {ifs : List Expr} {pos cpos pos' : Pos} {wi : TI} {g : TG} {tc : TT} {te : TE} {k : Nat} {x : Str} (hN : X.N.Nodup) (hk : X.N[k]? = some x) (hx : Loc X.env.scope x) (N : List Str) (src : List (Option Nat)) (ok : CompOk X scope N src) (hcalm : X.calm = true) (hi : PI X tg iter wi)
    (hg : ∀ pins s2 H2 C fp, PG (cxComp X pins s2 H2 N scope C fp) tg g) (hc : ∀ pins s2 H2 C fp, PIfs (cxComp X pins s2 H2 N scope C fp) ifs tc) (he : ∀ pins s2 H2 C fp, PE (cxComp X pins s2 H2 N scope C fp) elt te)
    (hsw : swapsWith (.ListComp elt [⟨tg, iter, ifs, 0⟩] scope cpos) (some (.Name x pos')) pos.line X.env = pure true := by rfl)
    (hs : ∀ x, foldedSetIterable iter X.env x = pure x := by intro _; rfl) (hfn : X.fn x = true ∨ X.env.scope.names.lookup x = some .local := by first | exact .inl rfl | exact .inr rfl | assumption) :
    PS X (.Assign [.Name x pos'] (.ListComp elt [⟨tg, iter, ifs, 0⟩] scope cpos) pos) (tAsg (tComp wi g tc te src) (gName k)) := by
  intro pins s σ H D I h
  rw [exec_Assign_Name_used _ _ _ _ hsw]
  refine wpAny_bind (wpAny_standAt (wpAny_bind ?_))
  show wpAny _ X.A (do let _ ← comprehension (.ListComp elt [⟨tg, iter, ifs, 0⟩] scope cpos) scope X.env _ (newList []) false (eval iter X.env) (some (assign (.Name x pos') X.env))) _ _ s
  refine wpAny_bind (wpAny_mono (wpAny_comprehension_free (use := some (assign (.Name x pos') X.env)) (Q := fun _ s' => SP X pins D .next s') rfl hs (closure_of ok.clos) ok.kind ok.names
    (wpAny_mono (hi pins s σ H _ I h) (fun xv s1 h1 => wpAny_mono h1 (fun itv s2 h2 => ?_) fun _ _ e => e) fun _ _ e => e)) (fun _ s' hq => wpAny_pure (wpAny_pure hq)) fun _ _ e => e)
  obtain ⟨it, fp, tn, J, H2, rfl, I2, T, st2, f2, hh⟩ := h2
  refine comp_core (Q := fun v H' => D.nx (σ.set k (some v)) H') (RR := fun acc C => compPost (model X.prog X.w) X.A X.xe (some (assign (.Name x pos') X.env)) (fun _ s' => SP X pins D .next s') acc C) ok hcalm I2 T st2 f2 (fun C => hg pins s2 H2 C fp) (fun C => hc pins s2 H2 C fp) (fun C => he pins s2 H2 C fp) hh ?_
  intro D' C s' H' fC hns I' q
  obtain ⟨m, hm⟩ := hns
  show wpAny _ X.A (assign (.Name x pos') X.env (.ref D')) _ _ _
  refine wpAny_assign_Name (store_ok2 I' hN hk hx (v := .ref D') rfl (fun s'' I'' ⟨a, hsa, ha⟩ => ?_) hfn)
  obtain ⟨f0, f1, f2, f3, f4, f5⟩ := fC
  have hCa : C ≠ a := by
    rcases ha with e | e
    · rw [e]; exact f1
    · exact Ne.symm (f4 x a e)
  refine ⟨m, hm.sameBut hsa hCa, fun h' hs' => ?_⟩
  exact ⟨_, H', I''.turned (t' := s''.toks) (fun b o hb e => hs'.extBut b o hb e) f0 f1 f3 f4 f5, q⟩
end L3
set_option Elab.async false
set_option linter.all false
set_option maxRecDepth 100000
namespace L3
open PySem PySem.Spec PyProof.Rows L2
structure Has (P : Program) (w : World) (K : PySem.W.Frag) (mg : Str → Option Value) (base : Heap) (CX : CXT) (k : Nat) (x : Str) (ps : List Str) (sp : Sp) : Prop where
  ex : ∃ f fd, FnOk P w K mg base CX k f fd ps sp ∧ Binds K fd ps [] ∧ PySem.W.keepIn K (.ref f) = true ∧ mg x = some (.ref f)
structure Def (K : PySem.W.Frag) (mg : Str → Option Value) (x : Str) (st : Stmt) (ps : List Str) : Prop where
  ex : ∃ f fd, Fun K x x st f fd ∧ Binds K fd ps [] ∧ mg x = some (.ref f)
private theorem Def.has {P : Program} {w : World} {K : PySem.W.Frag} {mg : Str → Option Value} {base : Heap} {k : Nat} {x : Str} {st : Stmt} {N ps : List Str} {sp : Sp} (F : Def K mg x st ps) (sc : FnScope N ps (defScope st)) (len : ∀ vs H Q E, sp vs H Q E → vs.length = ps.length)
    (hbody : ∀ (f : Addr) (cdv : Value) (A : Around) (outer : List Env) (s : Shared) (H : Hp) (vs : List V) (Q : VK) (E : XK), Room k (A.deeper (envOfC x (defScope st) s.heap.objs.size f cdv)) → sp vs H Q E →
      ∃ t, PSs (cxOf CX0 P w K mg base N x (defScope st) f cdv A outer s H E).nox (defBody st) t ∧ t { nx := fun _ H' => Q .non H', rt := Q } (start N vs) H) : Has P w K mg base CX0 (k + 1) x ps sp := by
  obtain ⟨f, fd, F1, b, m⟩ := F.ex
  exact ⟨f, fd, F1.ok sc len (fun cdv A outer s H vs Q E hr h => hbody f cdv A outer s H vs Q E hr h), b, F1.kp, m⟩
section
variable {X : Cx} {CX : CXT} {k : Nat} {ps : List Str} {sp : Sp} {E : XK} {x : Str} {p pos : Pos} {e : Expr} {es : List Expr} {t : TA}
private theorem pe_h (F : Has X.prog X.w X.K X.mg X.base CX k x ps sp) (hr : Room k X.A) (hg : Gl X x) (hx : Passes CX X E) (ha : PA X (e :: es) t) (hdb : (x == ("__debug__" : Str)) = false := by decide) (he : starEach (e :: es) X.env = (false, eval e X.env) :: starEach es X.env := by rfl) (hpl : (backTo pos (starEach es X.env)).any (·.1) = false := by rfl) :
    PE X (.Call (.Name x p) (e :: es) [] pos) (tCall sp [] E t) := by
  obtain ⟨f, fd, F1, b, kp, m⟩ := F.ex
  exact pe_call F1 hr hg m kp b .nil hx ha hdb he hpl
end
structure Bl (mg : Str → Option Value) : Prop where
  len : mg "len" = none
  abs : mg "abs" = none
  isinstance : mg "isinstance" = none
  tuple : mg "tuple" = none
  list : mg "list" = none
  int : mg "int" = none
  bool : mg "bool" = none
  str : mg "str" = none
  range : mg "range" = none
  zip : mg "zip" = none
  all : mg "all" = none
  any : mg "any" = none
  ValueError : mg "ValueError" = none
noncomputable def Kept (S : List Addr) (H H' : Hp) : Prop := ∀ b o, b ∉ S → H b = some o → H' b = some o
private theorem Kept.trans {S : List Addr} {H H1 H2 : Hp} (a : Kept S H H1) (b : Kept S H1 H2) : Kept S H H2 := fun c o n h => b c o n (a c o n h)
private theorem Same.new {H : Hp} {p : Addr} {o : HO} (h : H p = none) : Same H (upd H p o) := fun b u q => by rw [upd_ne (ne_of_none q h)]; exact q
private theorem Kept.upd {S : List Addr} {H : Hp} {p : Addr} {o : HO} (h : p ∈ S) : Kept S H (L2.upd H p o) := fun b u n q => by rw [upd_ne (show b ≠ p from fun e => n (by rw [e]; exact h))]; exact q
private theorem upd_get {H : Hp} {p b : Addr} {o u : HO} (h : H p = none) (q : H b = some u) : upd H p o b = some u := by rw [upd_ne (ne_of_none q h)]; exact q
noncomputable def DeckAt (H : Hp) (d c : Addr) : Prop := ∃ (f n : Int) (ns : List Int), H d = some (.lst [.ref c, .int f, .int n]) ∧ H c = some (.lst (ns.map V.int)) ∧ ns ≠ [] ∧ ns.length ≤ 63
private theorem DeckAt.ne {H : Hp} {d c : Addr} (h : DeckAt H d c) : c ≠ d := by
  obtain ⟨f, n, ns, h1, h2, h3, _⟩ := h
  intro e
  subst e
  rw [h1] at h2
  cases ns with
  | nil => exact h3 rfl
  | cons a r => simp at h2
noncomputable def frD (q : Rat) : D := .tup [.int q.num, .int (q.den : Int)]
noncomputable def SmR (n : Nat) (q : Rat) : Prop := Sm n q.num ∧ Sm n (q.den : Int)
private theorem SmR.mono {a b : Nat} {q : Rat} (h : SmR a q) (k : a ≤ b) : SmR b q := ⟨h.1.mono k, h.2.mono k⟩
private theorem fr_num {a b : Int} (hb : b ≠ 0) : (Rat.divInt a b).num = a.fdiv (if b < 0 then -(Int.gcd a b : Int) else (Int.gcd a b : Int)) := by
  have h1 : (Int.gcd a b : Int) ∣ a := Int.gcd_dvd_left a b
  rw [Rat.num_divInt, Int.gcd_comm b a]
  split
  · rename_i h
    rw [Int.fdiv_eq_ediv_of_dvd (Int.neg_dvd.mpr h1), Int.ediv_neg, Int.sign_eq_neg_one_of_neg h, Int.neg_mul, Int.one_mul, Int.neg_ediv_of_dvd h1]
  · rename_i h
    rw [Int.fdiv_eq_ediv_of_dvd h1, Int.sign_eq_one_of_pos (by omega), Int.one_mul]
private theorem fr_den {a b : Int} (hb : b ≠ 0) : (((Rat.divInt a b).den : Nat) : Int) = b.fdiv (if b < 0 then -(Int.gcd a b : Int) else (Int.gcd a b : Int)) := by
  have h1 : (Int.gcd a b : Int) ∣ b := Int.gcd_dvd_right a b
  rw [Rat.den_divInt, if_neg hb, Int.gcd_comm b a]
  split
  · rename_i h
    rw [Int.fdiv_eq_ediv_of_dvd (Int.neg_dvd.mpr h1), Int.ediv_neg, Int.natCast_ediv, ← Int.neg_ediv_of_dvd h1]
    congr 1
    omega
  · rename_i h
    rw [Int.fdiv_eq_ediv_of_dvd h1, Int.natCast_ediv]
    congr 1
    omega
private theorem fr_den_le {a b : Int} (hb : b ≠ 0) : (Rat.divInt a b).den ≤ b.natAbs := by
  rw [Rat.den_divInt, if_neg hb]
  exact Nat.div_le_self _ _
private theorem fr_num_le {a b : Int} (hb : b ≠ 0) : (Rat.divInt a b).num.natAbs ≤ a.natAbs := by
  rw [Rat.num_divInt]
  have := Int.natAbs_ediv_le_natAbs (b.sign * a) (b.gcd a : Int)
  rw [Int.natAbs_mul] at this
  have h2 : b.sign.natAbs = 1 := by
    rw [Int.natAbs_sign]
    rw [if_neg hb]
  rw [h2, Nat.one_mul] at this
  exact this
private theorem fr_sm {n : Nat} {a b : Int} (hb : b ≠ 0) (ha : Sm n a) (hb' : Sm n b) : SmR n (Rat.divInt a b) :=
  ⟨ha.le (fr_num_le hb), hb'.le (by have := fr_den_le (a := a) hb; simpa using this)⟩
private theorem gcd_step (a b : Int) : Int.gcd b (a.fmod b) = Int.gcd a b := by
  rw [Int.fmod_def, Int.gcd_comm a b]
  have := Int.gcd_sub_mul_right_right b a (a.fdiv b)
  rw [Int.mul_comm] at this
  exact this
private theorem fmod_small {a b : Int} (h : b ≠ 0) : (a.fmod b).natAbs < b.natAbs := by
  by_cases hb : 0 < b
  · have h1 := Int.fmod_lt_of_pos a hb
    have h2 := Int.fmod_nonneg_of_pos a hb
    omega
  · have hb' : b < 0 := by omega
    have e : a.fmod b = -((-a).fmod (-b)) := by
      rw [Int.neg_fmod_neg]; omega
    have h1 := Int.fmod_lt_of_pos (-a) (b := -b) (by omega)
    have h2 := Int.fmod_nonneg_of_pos (-a) (b := -b) (by omega)
    omega
private theorem gcd_pos {a b : Int} (h : b ≠ 0) : 0 < Int.gcd a b := Int.gcd_pos_of_ne_zero_right a h
private theorem gcd_sm {n : Nat} {a b : Int} (hb : b ≠ 0) (h : Sm n b) : Sm n (Int.gcd a b : Int) := by
  refine h.le ?_
  have := Int.gcd_le_natAbs_right a hb
  simpa using this
private theorem iteN {c : Bool} {A B : Prop} (h : c = false) (k : B) : if c = true then A else B := by subst h; rw [if_neg Bool.false_ne_true]; exact k
private theorem iteY {c : Bool} {A B : Prop} (h : c = true) (k : A) : if c = true then A else B := by subst h; rw [if_pos rfl]; exact k
private theorem iteB {c : Bool} {A B : Prop} (h1 : c = true → A) (h2 : c = false → B) : if c = true then A else B := by
  cases c with
  | true => exact iteY rfl (h1 rfl)
  | false => exact iteN rfl (h2 rfl)
private theorem r_lt (q r : Rat) : decide (q.num * (r.den : Int) < r.num * (q.den : Int)) = decide (q < r) := by
  congr 1
  rw [Rat.lt_iff]
private theorem at_ints {ns : List Int} {i : Int} (h0 : 0 ≤ i) (h : i < (ns.length : Int)) : ∃ v : Int, atI (ns.map V.int) i = some (.int v) ∧ ns[i.toNat]? = some v := by
  have hk : i.toNat < ns.length := by omega
  have ei : ((i.toNat : Nat) : Int) = i := by omega
  refine ⟨ns[i.toNat], ?_, List.getElem?_eq_getElem hk⟩
  have := atI_nat (xs := ns.map V.int) (j := i.toNat) (v := .int ns[i.toNat]) (by rw [List.getElem?_map, List.getElem?_eq_getElem hk]; rfl)
  rw [ei] at this
  exact this
private theorem ixN_in {n : Nat} {i : Int} (h0 : 0 ≤ i) (h : i < (n : Int)) : ixN n i = some i.toNat := by
  unfold ixN
  rw [if_pos h0, if_pos h]
private theorem set_ints (ns : List Int) (j : Nat) (v : Int) : (ns.map V.int).set j (.int v) = (ns.set j v).map V.int := by
  rw [List.map_set]
private theorem Reps.ints {H : Hp} : ∀ ns : List Int, Reps H (ns.map D.int) (ns.map V.int)
  | [] => .nil
  | n :: r => .cons (by rw [Rep]) (Reps.ints r)
private theorem Rep.lst {H : Hp} {a : Addr} {vs : List V} {ds : List D} (h : H a = some (.lst vs)) (k : Reps H ds vs) : Rep H (.lst ds) (.ref a) := by
  rw [Rep]; exact ⟨a, vs, rfl, h, k⟩
private theorem Rep.nil {H : Hp} {a : Addr} (h : H a = some (.lst [])) : Rep H (.lst []) (.ref a) := Rep.lst h .nil
private theorem deps_ints : ∀ ns : List Int, deps (ns.map D.int) = 0
  | [] => by simp [deps]
  | n :: r => by simp [deps, dep, deps_ints r]
private theorem peq_nil {ds : List D} : peq (.lst ds) (.lst []) = ds.isEmpty := by
  cases ds <;> simp [peq, peqs]
private theorem sm_of {n : Nat} {i : Int} (h1 : -(2 ^ n : Int) < i) (h2 : i < (2 ^ n : Int)) : Sm n i := by
  unfold Sm
  have e : ((2 ^ n : Nat) : Int) = (2 ^ n : Int) := by simp
  omega
section
variable {X : Cx} {K : PySem.W.Frag}
end
end L3
set_option Elab.async false
set_option linter.all false
set_option maxRecDepth 100000
namespace L3
open PySem PySem.Spec PyProof.Rows L2
noncomputable def isCF : Option NameKind → Bool
  | some .cell => true
  | some .free => true
  | _ => false
private theorem isCF_or {o : Option NameKind} (h : isCF o = true) : o = some .cell ∨ o = some .free := by
  unfold isCF at h
  split at h
  · exact .inl rfl
  · exact .inr rfl
  · cases h
noncomputable def freeB (X : Cx) (scope : Scope) : List Str → List (Option Nat) → Bool
  | x :: N, o :: src => (match o with
      | none => true
      | some j => decide (X.N[j]? = some x) && isCF (X.env.scope.names.lookup x) && isCF ((relabel scope X.env).names.lookup x)) && freeB X scope N src
  | _, _ => true
private theorem free_of {X : Cx} {scope : Scope} : ∀ {N : List Str} {src : List (Option Nat)}, freeB X scope N src = true → ∀ (i : Nat) (x : Str) (j : Nat), N[i]? = some x → src[i]? = some (some j) → X.N[j]? = some x ∧ Vis X.env.scope x ∧ X.env.scope.names.lookup x ≠ some .local ∧
    ((relabel scope X.env).names.lookup x = some .cell ∨ (relabel scope X.env).names.lookup x = some .free)
  | [], _, _, i, x, j, h1, _ => by simp at h1
  | _ :: _, [], _, i, x, j, _, h2 => by simp at h2
  | y :: N, o :: src, h, 0, x, j, h1, h2 => by
    simp only [List.getElem?_cons_zero, Option.some.injEq] at h1 h2
    subst h1 h2
    rw [freeB, Bool.and_eq_true, Bool.and_eq_true, Bool.and_eq_true] at h
    obtain ⟨⟨⟨a, b⟩, c⟩, _⟩ := h
    refine ⟨of_decide_eq_true a, ?_, ?_, isCF_or c⟩
    · rcases isCF_or b with e | e
      · exact .inr (.inl e)
      · exact .inr (.inr e)
    · rcases isCF_or b with e | e <;> rw [e] <;> simp
  | y :: N, o :: src, h, i + 1, x, j, h1, h2 => by
    have h' : (_ && freeB X scope N src) = true := h
    rw [Bool.and_eq_true] at h'
    exact free_of h'.2 i x j (by simpa using h1) (by simpa using h2)
private theorem vals_bools : ∀ {bs : List Bool} {us : List Value}, Vals (bs.map V.bl) us → us = bs.map Value.bool
  | [], _, h => by cases h; rfl
  | b :: bs, _, h => by
    cases h with
    | cons r rr => cases r; rw [vals_bools rr]; rfl
end L3
set_option Elab.async false
set_option linter.all false
set_option maxRecDepth 100000
namespace L3
open PySem PySem.Spec PyProof.Rows L2
section
variable {X : Cx}
private theorem vals_get_bl {bs : List Bool} {i : Nat} {v : Value} (h : (bs.map Value.bool)[i]? = some v) : ∃ b, bs[i]? = some b ∧ v = .bool b := by
  rw [List.getElem?_map] at h
  cases e : bs[i]? with
  | none => rw [e] at h; cases h
  | some b => rw [e] at h; injection h with h; exact ⟨b, rfl, h.symm⟩
noncomputable def rAll (K : PySem.W.Frag) : List V → Hp → VK → Prop := fun xs H Q => ∃ (p : Addr) (bs : List Bool), xs = [.ref p] ∧ SqL K H p (bs.map V.bl) ∧ Q (.bl (bs.all id)) H
private theorem call_all (hc : X.calm = true) : CallR X (.builtin "all") (rAll X.K) := by
  intro pins s σ H xs us Q I r h
  obtain ⟨p, bs, rfl, hq, q⟩ := h
  obtain ⟨u, rfl, rx⟩ := vals1 r
  cases rx
  obtain ⟨its, rv, pl, hz⟩ := I.list hq
  have hb := vals_bools rv
  subst hb
  have hl := pl.isList
  have hlt : p < s.heap.objs.size := by obtain ⟨_, e, _⟩ := hl; exact Heap.lt_size e
  refine call_all_walk (wpAny_pyIter_list hl ?_)
  refine ⟨s.heap.objs.size, [s.heap.objs.size, p], [s.heap.objs.size], (bs.map Value.bool).toArray.size, _, _, fun i => (bs[i]?).getD true, rfl, Walks.list (A := X.A.in1) (I.ok.hd hc) _ p (Nat.ne_of_lt hlt) (bs.map Value.bool).toArray,
    ⟨⟨_, Heap.get?_push_size _ rfl, rfl, rfl⟩, hl.push _⟩, fun i v s' Q' E' hP hQ => ?_, fun h' tk hk => ?_⟩
  · obtain ⟨b, e, rfl⟩ := vals_get_bl (bs := bs) (i := i) (v := v) (by simpa using hP)
    simp only [e, Option.getD_some] at hQ
    exact wpAny_truthy_bool hQ
  · have e : ((List.range (bs.map Value.bool).toArray.size).all fun i => (bs[i]?).getD true) = bs.all id := by
      rw [List.size_toArray, List.length_map]; exact LSm.range_all bs
    rw [e]
    exact ⟨.bl (bs.all id), H, I.kept (t' := tk) (LSm.kept_iter hk), rfl, q⟩
end
noncomputable def tyN : D → String
  | .non => "NoneType"
  | .bl _ => "bool"
  | .int _ => "int"
  | .str _ => "str"
  | .emp => "dict"
  | .tup _ => "tuple"
  | .lst _ => "list"
noncomputable def isInt : D → Bool
  | .int _ => true
  | .bl _ => true
  | _ => false
noncomputable def isBl : D → Bool
  | .bl _ => true
  | _ => false
noncomputable def isTup : D → Bool
  | .tup _ => true
  | _ => false
noncomputable def isLst : D → Bool
  | .lst _ => true
  | _ => false
section
variable {K : PySem.W.Frag}
private theorem kitInt (d : D) : PySem.W.kitOne K (.type (tyN d)) (.type "int") = some (isInt d) := by cases d <;> first | rfl | with_unfolding_all rfl
private theorem kitBl (d : D) : PySem.W.kitOne K (.type (tyN d)) (.type "bool") = some (isBl d) := by cases d <;> first | rfl | with_unfolding_all rfl
private theorem kitTup (d : D) : PySem.W.kitOne K (.type (tyN d)) (.type "tuple") = some (isTup d) := by cases d <;> first | rfl | with_unfolding_all rfl
private theorem kitLst (d : D) : PySem.W.kitOne K (.type (tyN d)) (.type "list") = some (isLst d) := by cases d <;> first | rfl | with_unfolding_all rfl
end
private theorem op_isnot_bl {X : Cx} : OpR X (compareOp .IsNot) (fun x y H Q => ∃ a b, x = .bl a ∧ y = .bl b ∧ Q (.bl (!(a == b))) H) := by
  intro pins s σ H x y v u Q I rx ry h
  obtain ⟨a, b, rfl, rfl, q⟩ := h
  cases rx
  cases ry
  refine wpAny_isNot_plain (by cases a <;> cases b <;> rfl) ⟨.bl (!(a == b)), H, I, ?_, q⟩
  cases a <;> cases b <;> rfl
noncomputable def cutD {α : Type} (xs : List α) (lo hi : Option Int) : List α := (xs.drop (HT.sIx xs.length 0 lo)).take (HT.sIx xs.length xs.length hi - HT.sIx xs.length 0 lo)
section
variable {X : Cx} {pos : Pos} {es : List Expr} {t : TA}
end
end L3
set_option Elab.async false
set_option linter.all false
set_option maxRecDepth 100000
namespace L3
open PySem PySem.Spec PyProof.Rows L2
section
variable {X : Cx} {pins : List (Addr × Obj)} {σ : S} {H : Hp} {s : Shared} {h' : Heap}
end
section
variable {X : Cx} {tg : Expr}
end
end L3
set_option Elab.async false
set_option linter.all false
set_option maxRecDepth 100000
namespace L3
open PySem PySem.Spec PyProof.Rows L2
section
variable {prog : Program} {w : World} {A : Around} {E : Value → Shared → Prop} {s : Shared}
end
section
variable {prog : Program} {w : World} {A : Around} {E : Value → Shared → Prop} {s : Shared} {a b z TI TO i1 i2 S : Addr} {xs ys : Array Value} {i : Nat} {h h' : Heap}
end
end L3
set_option Elab.async false
set_option linter.all false
set_option maxRecDepth 100000
namespace L3
open PySem PySem.Spec PyProof.Rows L2
section
variable {K : PySem.W.Frag} {a D0 : Addr} {te : TE} {σ : S} {H0 : Hp} {R : Hp → Prop} {xs : List V}
end
end L3
set_option linter.all false
namespace M
namespace Q
open PySem PySem.Spec PyProof.Rows L2 L3
section
variable {X : Cx} {CX : CXT} {k : Nat} {ps : List Str} {sp : Sp} {E : XK} {x : Str} {p pos : Pos} {e a b o tg : Expr} {es : List Expr} {te ta tb to : TE} {t : TA} {st : Stmt} {rest body : List Stmt} {s u : TS}
end
end Q
end M
set_option Elab.async false
set_option linter.all false
set_option maxRecDepth 100000
namespace L3
open PySem PySem.Spec PyProof.Rows L2
section
variable {prog : Program} {w : World} {A : Around} {E : Value → Shared → Prop} {K : PySem.W.Frag} {x C : Addr} {ox : Obj}
end
end L3
namespace L3
open PySem PySem.Spec PyProof.Rows L2
section
variable {M : Model} {A : Around} {E : Value → Shared → Prop} {s : Shared} {base : Heap} {env : Env} {outer : List Env} {L e C : Addr}
end
end L3
namespace L3
open PySem PySem.Spec PyProof.Rows L2
section
variable {X : Cx} {pins : List (Addr × Obj)} {σ : L2.St} {H H' : Hp} {s s' : Shared} {a C : Addr} {tb : Option Addr} {P : Program} {w : World}
end
section
variable {P : Program} {w : World} {K : PySem.W.Frag} {mg : Str → Option Value} {base : Heap} {N : List Str} {qual : Str} {scope : Scope} {f : Addr} {cd : Value} {A : Around} {outer : List Env} {s₀ : Shared} {H₀ : Hp} {E : XK}
end
end L3
namespace L3
open PySem PySem.Spec PyProof.Rows L2
section
variable {X : Cx} {R : L2.St → XK} {x : Str} {C : Addr} {e : Expr} {es : List Expr} {t : TA} {np cpos pos : Pos}
end
section
variable {X : Cx} {R : L2.St → XK} {k : Nat} {ps : List Str} {sp : Sp} {x : Str} {p pos : Pos} {e : Expr} {es : List Expr} {t : TA}
end
section
variable {X : Cx} {pins : List (Addr × Obj)} {σ : L2.St} {H : Hp} {s : Shared}
noncomputable def IsX (a C : Addr) : Heap → Prop := fun h => ∃ ox, PySem.W.InstAt h a ox C none
end
end L3
namespace L3
open PySem PySem.Spec PyProof.Rows L2
section
variable {X : Cx} {pins : List (Addr × Obj)} {σ : L2.St} {H : Hp} {s : Shared}
end
end L3
set_option Elab.async false
set_option linter.all false
set_option maxRecDepth 100000
namespace L3
open PySem PySem.Spec PyProof.Rows L2 PySem.SeqAt
noncomputable instance : DecidableEq D := fun a b => Classical.propDecidable (a = b)
mutual
noncomputable def hashD : D → Int
  | .int i => hashInt i
  | .tup ds => reduceHash (Builtin.Tuple.tupleHashOf (hashDs ds))
  | .non => 0
  | .bl _ => 0
  | .str _ => 0
  | .emp => 0
  | .lst _ => 0
noncomputable def hashDs : List D → List Int
  | [] => []
  | d :: ds => hashD d :: hashDs ds
end
section
variable {prog : Program} {w : World}
end
section
variable {prog : Program} {w : World} {K : Type} [DecidableEq K] {knd : HeapKind prog w K}
end
section
variable {prog : Program} {w : World} {A : Around} {E : Value → Shared → Prop} {s : Shared}
end
noncomputable def entD (x : D × Addr × Value) : DictEntry := ⟨hashD x.1, .ref x.2.1, x.2.2⟩
noncomputable def IsDT (p : Addr) (xs : List (D × Addr × Value)) : Heap → Prop := fun h => (p == sysModules) = false ∧ xs.length ≤ sizeLine ∧ (xs.map (·.1)).Nodup ∧ ∃ o es ep, h.get? p = some o ∧ o.ExactDict ∧ o.data = .dict es ep ∧ es.toList = xs.map entD
section
variable {X : Cx} {o e f : Expr} {es : List Expr} {td : TE} {ta : TA} {apos cpos pos : Pos}
end
end L3
set_option Elab.async false
set_option linter.all false
set_option maxRecDepth 100000
namespace L3
open PySem PySem.Spec PyProof.Rows L2
section
variable {X : Cx} {tg : Expr}
end
section
variable {prog : Program} {w : World} {A : Around} {E : Value → Shared → Prop} {s : Shared}
end
section
variable {X : Cx} {a : Expr} {ta : TA} {p p2 pos pos2 : Pos}
end
end L3
set_option Elab.async false
set_option linter.all false
set_option maxRecDepth 100000
namespace L3
open PySem PySem.Spec PySem.Calls PyProof.Rows L2
section
variable {P : Program} {w : World} {K : PySem.W.Frag} {mg : Str → Option Value} {base : Heap} {A : Around} {outer : List Env} {s : Shared} {H : Hp} {x y qual : Str} {scope : Scope} {f cy c' : Addr} {params : Arguments} {body : Expr} {pm ct u ux : Value} {vx vy : V} {Q : VK}
end
section
variable {X : Cx} {pins : List (Addr × Obj)} {σ : L2.St} {H : Hp} {s : Shared} {l q It S : Addr} {vs : List V} {R : Result → Shared → Prop}
end
noncomputable def CodeX (c : Addr) (q : Str) : Heap → Prop := fun h => h.CodeRec (.ref c) q
noncomputable def TabOk (F : Hp) (pos : Pos) (q : Str) (ps : Array Value) : Prop := TriplesOk ps.toList ∧ (codeAmong pos ps.toList = none ∨ ∃ c, codeAmong pos ps.toList = some (.ref c) ∧ F c = some (.ext (CodeX c q)))
section
variable {X : Cx} {pins : List (Addr × Obj)} {σ : L2.St} {H : Hp} {s : Shared} {c P cy : Addr} {params : Arguments} {body : Expr} {scope : Scope} {pos : Pos} {y : Str} {ps : Array Value} {Q : Value → Shared → Prop} {E : Value → Shared → Prop}
end
section
variable {X : Cx} {e : Expr} {te : TE} {i : Nat} {x y fld : Str} {c P cy C : Addr} {params : Arguments} {scope : Scope} {p pos lpos kp1 kp2 np p1 p2 p3 p4 : Pos}
end
end L3
set_option Elab.async false
set_option linter.all false
set_option maxRecDepth 100000
namespace L4
open PySem PySem.Spec PyProof.Rows L2 L3 PySem.SeqAt
open AutoSeq1 (wpAny_loadPart')
open MeetsSeq MeetsSeq2 MeetsSeq3
noncomputable def EmpAt (h : Heap) (a : Addr) : Prop := (a == sysModules) = false ∧ ∃ ep, h.get? a = some { cls := .type "dict", dict := none, data := .dict #[] ep, slots := #[] }
section
variable {prog : Program} {w : World} {A : Around} {s : Shared} {E : Value → Shared → Prop} {a b : Addr} {x : Value} {T : String}
private theorem EmpAt.ty (h : EmpAt s.heap a) : s.TypeIs (.ref a) "dict" := by
  obtain ⟨_, ep, h⟩ := h
  exact ⟨_, h, rfl⟩
private theorem EmpAt.dict (h : EmpAt s.heap a) : s.heap.DictOf (mixKind prog w) a [] := by
  obtain ⟨_, ep, h⟩ := h
  exact ⟨_, #[], ep, h, ⟨rfl, rfl, rfl⟩, rfl, fun e he => by simp at he, .nil, .nil⟩
private theorem EmpAt.of {h : Heap} (y : (a == sysModules) = false) (d : h.DictOf (mixKind prog w) a []) : EmpAt h a := by
  obtain ⟨⟨c, dd, dt, sl⟩, es, ep, h1, ⟨h2, h3, h4⟩, h5, _, h6, _⟩ := d
  simp only at h2 h3 h4 h5
  subst h2 h3 h4 h5
  have : es = #[] := by
    cases es with
    | mk l => cases h6; rfl
  subst this
  exact ⟨y, ep, h1⟩
private theorem dict_eq_dec (da : EmpAt s.heap a) (tx : s.TypeIs x T) (sub : isSubtype (.type T) (.type "dict") = pure false) (Q : Value → Shared → Prop) (h : Q .notImplemented s) : wpAny (model prog w) A (call (.builtin "dict.__eq__") [.ref a, x]) Q E s := by
  refine wpAny_call_entry PySem.F.slot_dict_eq da.ty PySem.F.entry_dict_eq ?_ (PySem.F.args_dict_eq_2 _ _)
  show wpAny _ _ (Builtin.Dict.dictSlotArgs "__eq__" ⟨[.ref a, x], []⟩ >>= _) _ _ s
  refine wpAny_bind ?_
  unfold Builtin.Dict.dictSlotArgs
  refine wpAny_bind (wpAny_notOrdered_dict da.ty ?_)
  show wpAny _ _ (pure (Value.ref a, x)) _ _ s
  refine wpAny_pure ?_
  refine wpAny_bind (wpAny_isInstance (T := T) tx sub ?_)
  simp only [Bool.not_false, if_true]
  exact wpAny_bind (wpAny_rule (wpAny_pure ⟨_, rfl, h⟩))
private theorem dict_ne_dec (da : EmpAt s.heap a) (tx : s.TypeIs x T) (sub : isSubtype (.type T) (.type "dict") = pure false) (Q : Value → Shared → Prop) (h : Q .notImplemented s) : wpAny (model prog w) A (call (.builtin "dict.__ne__") [.ref a, x]) Q E s := by
  refine wpAny_call_entry PySem.F.slot_dict_ne da.ty PySem.F.entry_dict_ne ?_ (PySem.F.args_dict_ne_2 _ _)
  show wpAny _ _ (Builtin.Dict.dictSlotArgs "__ne__" ⟨[.ref a, x], []⟩ >>= _) _ _ s
  refine wpAny_bind ?_
  unfold Builtin.Dict.dictSlotArgs
  refine wpAny_bind (wpAny_notOrdered_dict da.ty ?_)
  show wpAny _ _ (pure (Value.ref a, x)) _ _ s
  refine wpAny_pure ?_
  refine wpAny_bind (wpAny_isInstance (T := T) tx sub ?_)
  simp only [Bool.not_false, if_true]
  exact wpAny_bind (wpAny_rule (wpAny_pure ⟨_, rfl, h⟩))
private theorem dict_dict (da : EmpAt s.heap a) (db : EmpAt s.heap b) (hu : A.units < cLine) : EqAt A s (.ref a) (.ref b) true ∧ RcAt A s (.ref a) (.ref b) true ∧ RcNeAt A s (.ref a) (.ref b) false := by
  have rc : RcAt A s (.ref a) (.ref b) true := fun prog w E Q h => PySem.W.keq_eq da.1 db.1 (da.dict (prog := prog) (w := w)) db.dict hu (fun _ => .nil) h
  refine ⟨?_, rc, fun prog w E Q h => PySem.W.keq_ne da.1 db.1 (da.dict (prog := prog) (w := w)) db.dict hu (fun _ => .nil) h⟩
  by_cases e : a = b
  · subst e; exact EqAt.same _
  · exact EqAt.of_refs e rc
end
private theorem int_eq_dd_b (b : Bool) (l : Addr) (es : Array DictEntry) (n : Nat) (dd : Option Addr) (sl : Array (Option Value)) :
    Meets (Builtin.«int.__eq__» ⟨[.bool b, .ref l], []⟩) (fun _ R s => s.heap.get? l = some { cls := .type "dict", dict := dd, data := .dict es n, slots := sl } ∧ R (.ok (.ret .notImplemented)) s) :=
  .of_wp fun prog w A R s h => by obtain ⟨hp, g, d, tk, os⟩ := s; obtain ⟨hl, h⟩ := h; wp_walk using wpAny_loadPart' hl, wpAny_load hl; exact ⟨_, rfl, h⟩
private theorem int_eq_dd_i (b : Int) (u : Tok) (l : Addr) (es : Array DictEntry) (n : Nat) (dd : Option Addr) (sl : Array (Option Value)) :
    Meets (Builtin.«int.__eq__» ⟨[.int b u, .ref l], []⟩) (fun _ R s => s.heap.get? l = some { cls := .type "dict", dict := dd, data := .dict es n, slots := sl } ∧ R (.ok (.ret .notImplemented)) s) :=
  .of_wp fun prog w A R s h => by obtain ⟨hp, g, d, tk, os⟩ := s; obtain ⟨hl, h⟩ := h; wp_walk using wpAny_loadPart' hl, wpAny_load hl; exact ⟨_, rfl, h⟩
private theorem str_eq_dd_s (b : Str) (u : Tok) (l : Addr) (es : Array DictEntry) (n : Nat) (dd : Option Addr) (sl : Array (Option Value)) :
    Meets (Builtin.«str.__eq__» ⟨[.str b u, .ref l], []⟩) (fun _ R s => s.heap.get? l = some { cls := .type "dict", dict := dd, data := .dict es n, slots := sl } ∧ R (.ok (.ret .notImplemented)) s) :=
  .of_wp fun prog w A R s h => by obtain ⟨hp, g, d, tk, os⟩ := s; obtain ⟨hl, h⟩ := h; wp_walk using wpAny_loadPart' hl, wpAny_load hl; exact ⟨_, rfl, h⟩
private theorem list_eq_dd (l b : Addr) (items : Array Value) (n : Nat) (es : Array DictEntry) (n2 : Nat) (dd dd2 : Option Addr) (sl sl2 : Array (Option Value)) :
    Meets (Builtin.«list.__eq__» ⟨[.ref l, .ref b], []⟩) (fun _ R s => s.heap.get? l = some { cls := .type "list", dict := dd, data := .seq items n, slots := sl } ∧ s.heap.get? b = some { cls := .type "dict", dict := dd2, data := .dict es n2, slots := sl2 } ∧ R (.ok (.ret .notImplemented)) s) :=
  .of_wp fun prog w A R s h => by obtain ⟨hp, g, d, tk, os⟩ := s; obtain ⟨hl, hb, h⟩ := h; have f1 := F.sub_dict_list; wp_walk using wpAny_loadPart' hl, wpAny_loadPart' hb; exact ⟨_, rfl, h⟩
private theorem tuple_eq_dd (l b : Addr) (items : Array Value) (n : Nat) (es : Array DictEntry) (n2 : Nat) (dd dd2 : Option Addr) (sl sl2 : Array (Option Value)) :
    Meets (Builtin.«tuple.__eq__» ⟨[.ref l, .ref b], []⟩) (fun _ R s => s.heap.get? l = some { cls := .type "tuple", dict := dd, data := .seq items n, slots := sl } ∧ s.heap.get? b = some { cls := .type "dict", dict := dd2, data := .dict es n2, slots := sl2 } ∧ R (.ok (.ret .notImplemented)) s) :=
  .of_wp fun prog w A R s h => by obtain ⟨hp, g, d, tk, os⟩ := s; obtain ⟨hl, hb, h⟩ := h; have f1 := F.sub_dict_tuple; wp_walk using wpAny_loadPart' hl, wpAny_loadPart' hb; exact ⟨_, rfl, h⟩
private theorem int_ne_dd_b (b : Bool) (l : Addr) (es : Array DictEntry) (n : Nat) (dd : Option Addr) (sl : Array (Option Value)) :
    Meets (Builtin.«int.__ne__» ⟨[.bool b, .ref l], []⟩) (fun _ R s => s.heap.get? l = some { cls := .type "dict", dict := dd, data := .dict es n, slots := sl } ∧ R (.ok (.ret .notImplemented)) s) :=
  .of_wp fun prog w A R s h => by obtain ⟨hp, g, d, tk, os⟩ := s; obtain ⟨hl, h⟩ := h; wp_walk using wpAny_loadPart' hl, wpAny_load hl; exact ⟨_, rfl, h⟩
private theorem int_ne_dd_i (b : Int) (u : Tok) (l : Addr) (es : Array DictEntry) (n : Nat) (dd : Option Addr) (sl : Array (Option Value)) :
    Meets (Builtin.«int.__ne__» ⟨[.int b u, .ref l], []⟩) (fun _ R s => s.heap.get? l = some { cls := .type "dict", dict := dd, data := .dict es n, slots := sl } ∧ R (.ok (.ret .notImplemented)) s) :=
  .of_wp fun prog w A R s h => by obtain ⟨hp, g, d, tk, os⟩ := s; obtain ⟨hl, h⟩ := h; wp_walk using wpAny_loadPart' hl, wpAny_load hl; exact ⟨_, rfl, h⟩
private theorem str_ne_dd_s (b : Str) (u : Tok) (l : Addr) (es : Array DictEntry) (n : Nat) (dd : Option Addr) (sl : Array (Option Value)) :
    Meets (Builtin.«str.__ne__» ⟨[.str b u, .ref l], []⟩) (fun _ R s => s.heap.get? l = some { cls := .type "dict", dict := dd, data := .dict es n, slots := sl } ∧ R (.ok (.ret .notImplemented)) s) :=
  .of_wp fun prog w A R s h => by obtain ⟨hp, g, d, tk, os⟩ := s; obtain ⟨hl, h⟩ := h; wp_walk using wpAny_loadPart' hl, wpAny_load hl; exact ⟨_, rfl, h⟩
private theorem list_ne_dd (l b : Addr) (items : Array Value) (n : Nat) (es : Array DictEntry) (n2 : Nat) (dd dd2 : Option Addr) (sl sl2 : Array (Option Value)) :
    Meets (Builtin.«list.__ne__» ⟨[.ref l, .ref b], []⟩) (fun _ R s => s.heap.get? l = some { cls := .type "list", dict := dd, data := .seq items n, slots := sl } ∧ s.heap.get? b = some { cls := .type "dict", dict := dd2, data := .dict es n2, slots := sl2 } ∧ R (.ok (.ret .notImplemented)) s) :=
  .of_wp fun prog w A R s h => by obtain ⟨hp, g, d, tk, os⟩ := s; obtain ⟨hl, hb, h⟩ := h; have f1 := F.sub_dict_list; wp_walk using wpAny_loadPart' hl, wpAny_loadPart' hb; exact ⟨_, rfl, h⟩
private theorem tuple_ne_dd (l b : Addr) (items : Array Value) (n : Nat) (es : Array DictEntry) (n2 : Nat) (dd dd2 : Option Addr) (sl sl2 : Array (Option Value)) :
    Meets (Builtin.«tuple.__ne__» ⟨[.ref l, .ref b], []⟩) (fun _ R s => s.heap.get? l = some { cls := .type "tuple", dict := dd, data := .seq items n, slots := sl } ∧ s.heap.get? b = some { cls := .type "dict", dict := dd2, data := .dict es n2, slots := sl2 } ∧ R (.ok (.ret .notImplemented)) s) :=
  .of_wp fun prog w A R s h => by obtain ⟨hp, g, d, tk, os⟩ := s; obtain ⟨hl, hb, h⟩ := h; have f1 := F.sub_dict_tuple; wp_walk using wpAny_loadPart' hl, wpAny_loadPart' hb; exact ⟨_, rfl, h⟩
section
variable {A : Around} {s : Shared} {a : Addr}
private theorem off_non (da : EmpAt s.heap a) (hu : A.units < cLine) : (EqAt A s (.none) (.ref a) false ∧ RcAt A s (.none) (.ref a) false ∧ RcNeAt A s (.none) (.ref a) true) ∧ EqAt A s (.ref a) (.none) false ∧ RcAt A s (.ref a) (.none) false ∧ RcNeAt A s (.ref a) (.none) true := by
  obtain ⟨ep, ho⟩ := da.2
  have r1 : RcAt A s (.none) (.ref a) false := fun prog w E Q h => rc_eq_decline_or (k := false) rfl da.ty (by decide) F.sub_dict_NoneType F.slot_NoneType_eq F.slot_dict_eq_refl (fun _ hq => call_gives F.slot_NoneType_eq rfl F.entry_NoneType_eq (F.args_NoneType_eq_2 _ _) (NoneType___eq___none_ref_0 a) hq) (fun Q hq => dict_eq_dec da (show s.TypeIs .none "NoneType" from rfl) F.sub_NoneType_dict Q hq) (fun _ hq => wpAny_of_eq (rfl : isSame (.none) (.ref a) = pure false) hq) (.inr hu) h
  have r2 : RcAt A s (.ref a) (.none) false := fun prog w E Q h => rc_eq_decline_or (k := false) da.ty rfl (by decide) F.sub_NoneType_dict F.slot_dict_eq F.slot_NoneType_eq_refl (fun Q hq => dict_eq_dec da (show s.TypeIs .none "NoneType" from rfl) F.sub_NoneType_dict Q hq) (fun _ hq => call_gives F.slot_NoneType_eq_refl rfl F.entry_NoneType_eq (F.args_NoneType_eq_2 _ _) (NoneType___eq___none_ref_0 a) hq) (fun _ hq => wpAny_of_eq (rfl : isSame (.ref a) (.none) = pure false) hq) (.inr hu) h
  refine ⟨⟨fun prog w E Q h => ?_, r1, fun prog w E Q h => rc_ne_decline_or (k := false) rfl da.ty (by decide) F.sub_dict_NoneType F.slot_NoneType_ne F.slot_dict_ne_refl (fun _ hq => call_gives F.slot_NoneType_ne rfl F.entry_NoneType_ne (F.args_NoneType_ne_2 _ _) (NoneType___ne___none_ref_0 a) hq) (fun Q hq => dict_ne_dec da (show s.TypeIs .none "NoneType" from rfl) F.sub_NoneType_dict Q hq) (fun _ hq => wpAny_of_eq (rfl : isSame (.none) (.ref a) = pure false) hq) (.inr hu) h⟩, fun prog w E Q h => ?_, r2, fun prog w E Q h => rc_ne_decline_or (k := false) da.ty rfl (by decide) F.sub_NoneType_dict F.slot_dict_ne F.slot_NoneType_ne_refl (fun Q hq => dict_ne_dec da (show s.TypeIs .none "NoneType" from rfl) F.sub_NoneType_dict Q hq) (fun _ hq => call_gives F.slot_NoneType_ne_refl rfl F.entry_NoneType_ne (F.args_NoneType_ne_2 _ _) (NoneType___ne___none_ref_0 a) hq) (fun _ hq => wpAny_of_eq (rfl : isSame (.ref a) (.none) = pure false) hq) (.inr hu) h⟩
  · unfold eqBool
    refine wpAny_holding ?_
    refine wpAny_ite_split (fun hab => absurd (eq_of_beq hab) nofun) (fun _ => ?_)
    exact wpAny_bind (r1 prog w E _ (wpAny_truthy_bool h))
  · unfold eqBool
    refine wpAny_holding ?_
    refine wpAny_ite_split (fun hab => absurd (eq_of_beq hab) nofun) (fun _ => ?_)
    exact wpAny_bind (r2 prog w E _ (wpAny_truthy_bool h))
private theorem off_bl (b : Bool) (da : EmpAt s.heap a) (hu : A.units < cLine) : (EqAt A s (.bool b) (.ref a) false ∧ RcAt A s (.bool b) (.ref a) false ∧ RcNeAt A s (.bool b) (.ref a) true) ∧ EqAt A s (.ref a) (.bool b) false ∧ RcAt A s (.ref a) (.bool b) false ∧ RcNeAt A s (.ref a) (.bool b) true := by
  obtain ⟨ep, ho⟩ := da.2
  have r1 : RcAt A s (.bool b) (.ref a) false := fun prog w E Q h => rc_eq_decline_or (k := false) rfl da.ty (by decide) F.sub_dict_bool F.slot_bool_eq F.slot_dict_eq_refl (fun _ hq => call_meets F.slot_bool_eq rfl F.entry_int_eq (F.args_int_eq_2 _ _) (int_eq_dd_b b a _ _ _ _) ⟨ho, hq⟩) (fun Q hq => dict_eq_dec da (show s.TypeIs (.bool b) "bool" from rfl) F.sub_bool_dict Q hq) (fun _ hq => wpAny_of_eq (rfl : isSame (.bool b) (.ref a) = pure false) hq) (.inr hu) h
  have r2 : RcAt A s (.ref a) (.bool b) false := fun prog w E Q h => rc_eq_decline_or (k := false) da.ty rfl (by decide) F.sub_bool_dict F.slot_dict_eq F.slot_bool_eq_refl (fun Q hq => dict_eq_dec da (show s.TypeIs (.bool b) "bool" from rfl) F.sub_bool_dict Q hq) (fun _ hq => call_meets F.slot_bool_eq_refl rfl F.entry_int_eq (F.args_int_eq_2 _ _) (int_eq_dd_b b a _ _ _ _) ⟨ho, hq⟩) (fun _ hq => wpAny_of_eq (rfl : isSame (.ref a) (.bool b) = pure false) hq) (.inr hu) h
  refine ⟨⟨fun prog w E Q h => ?_, r1, fun prog w E Q h => rc_ne_decline_or (k := false) rfl da.ty (by decide) F.sub_dict_bool F.slot_bool_ne F.slot_dict_ne_refl (fun _ hq => call_meets F.slot_bool_ne rfl F.entry_int_ne (F.args_int_ne_2 _ _) (int_ne_dd_b b a _ _ _ _) ⟨ho, hq⟩) (fun Q hq => dict_ne_dec da (show s.TypeIs (.bool b) "bool" from rfl) F.sub_bool_dict Q hq) (fun _ hq => wpAny_of_eq (rfl : isSame (.bool b) (.ref a) = pure false) hq) (.inr hu) h⟩, fun prog w E Q h => ?_, r2, fun prog w E Q h => rc_ne_decline_or (k := false) da.ty rfl (by decide) F.sub_bool_dict F.slot_dict_ne F.slot_bool_ne_refl (fun Q hq => dict_ne_dec da (show s.TypeIs (.bool b) "bool" from rfl) F.sub_bool_dict Q hq) (fun _ hq => call_meets F.slot_bool_ne_refl rfl F.entry_int_ne (F.args_int_ne_2 _ _) (int_ne_dd_b b a _ _ _ _) ⟨ho, hq⟩) (fun _ hq => wpAny_of_eq (rfl : isSame (.ref a) (.bool b) = pure false) hq) (.inr hu) h⟩
  · unfold eqBool
    refine wpAny_holding ?_
    refine wpAny_ite_split (fun hab => absurd (eq_of_beq hab) nofun) (fun _ => ?_)
    exact wpAny_bind (r1 prog w E _ (wpAny_truthy_bool h))
  · unfold eqBool
    refine wpAny_holding ?_
    refine wpAny_ite_split (fun hab => absurd (eq_of_beq hab) nofun) (fun _ => ?_)
    exact wpAny_bind (r2 prog w E _ (wpAny_truthy_bool h))
private theorem off_int (b : Int) (u : Tok) (da : EmpAt s.heap a) (hu : A.units < cLine) : (EqAt A s (.int b u) (.ref a) false ∧ RcAt A s (.int b u) (.ref a) false ∧ RcNeAt A s (.int b u) (.ref a) true) ∧ EqAt A s (.ref a) (.int b u) false ∧ RcAt A s (.ref a) (.int b u) false ∧ RcNeAt A s (.ref a) (.int b u) true := by
  obtain ⟨ep, ho⟩ := da.2
  have r1 : RcAt A s (.int b u) (.ref a) false := fun prog w E Q h => rc_eq_decline_or (k := false) (typeIs_int s b u) da.ty (by decide) F.sub_dict_int F.slot_int_eq F.slot_dict_eq_refl (fun _ hq => call_meets F.slot_int_eq (typeIs_int s b u) F.entry_int_eq (F.args_int_eq_2 _ _) (int_eq_dd_i b u a _ _ _ _) ⟨ho, hq⟩) (fun Q hq => dict_eq_dec da (typeIs_int s b u) F.sub_int_dict Q hq) (fun _ hq => wpAny_of_eq (rfl : isSame (.int b u) (.ref a) = pure false) hq) (.inr hu) h
  have r2 : RcAt A s (.ref a) (.int b u) false := fun prog w E Q h => rc_eq_decline_or (k := false) da.ty (typeIs_int s b u) (by decide) F.sub_int_dict F.slot_dict_eq F.slot_int_eq_refl (fun Q hq => dict_eq_dec da (typeIs_int s b u) F.sub_int_dict Q hq) (fun _ hq => call_meets F.slot_int_eq_refl (typeIs_int s b u) F.entry_int_eq (F.args_int_eq_2 _ _) (int_eq_dd_i b u a _ _ _ _) ⟨ho, hq⟩) (fun _ hq => wpAny_of_eq (rfl : isSame (.ref a) (.int b u) = pure false) hq) (.inr hu) h
  refine ⟨⟨fun prog w E Q h => ?_, r1, fun prog w E Q h => rc_ne_decline_or (k := false) (typeIs_int s b u) da.ty (by decide) F.sub_dict_int F.slot_int_ne F.slot_dict_ne_refl (fun _ hq => call_meets F.slot_int_ne (typeIs_int s b u) F.entry_int_ne (F.args_int_ne_2 _ _) (int_ne_dd_i b u a _ _ _ _) ⟨ho, hq⟩) (fun Q hq => dict_ne_dec da (typeIs_int s b u) F.sub_int_dict Q hq) (fun _ hq => wpAny_of_eq (rfl : isSame (.int b u) (.ref a) = pure false) hq) (.inr hu) h⟩, fun prog w E Q h => ?_, r2, fun prog w E Q h => rc_ne_decline_or (k := false) da.ty (typeIs_int s b u) (by decide) F.sub_int_dict F.slot_dict_ne F.slot_int_ne_refl (fun Q hq => dict_ne_dec da (typeIs_int s b u) F.sub_int_dict Q hq) (fun _ hq => call_meets F.slot_int_ne_refl (typeIs_int s b u) F.entry_int_ne (F.args_int_ne_2 _ _) (int_ne_dd_i b u a _ _ _ _) ⟨ho, hq⟩) (fun _ hq => wpAny_of_eq (rfl : isSame (.ref a) (.int b u) = pure false) hq) (.inr hu) h⟩
  · unfold eqBool
    refine wpAny_holding ?_
    refine wpAny_ite_split (fun hab => absurd (eq_of_beq hab) nofun) (fun _ => ?_)
    exact wpAny_bind (r1 prog w E _ (wpAny_truthy_bool h))
  · unfold eqBool
    refine wpAny_holding ?_
    refine wpAny_ite_split (fun hab => absurd (eq_of_beq hab) nofun) (fun _ => ?_)
    exact wpAny_bind (r2 prog w E _ (wpAny_truthy_bool h))
private theorem off_str (b : Str) (u : Tok) (da : EmpAt s.heap a) (hu : A.units < cLine) : (EqAt A s (.str b u) (.ref a) false ∧ RcAt A s (.str b u) (.ref a) false ∧ RcNeAt A s (.str b u) (.ref a) true) ∧ EqAt A s (.ref a) (.str b u) false ∧ RcAt A s (.ref a) (.str b u) false ∧ RcNeAt A s (.ref a) (.str b u) true := by
  obtain ⟨ep, ho⟩ := da.2
  have r1 : RcAt A s (.str b u) (.ref a) false := fun prog w E Q h => rc_eq_decline_or (k := false) (typeIs_str s b u) da.ty (by decide) F.sub_dict_str F.slot_str_eq F.slot_dict_eq_refl (fun _ hq => call_meets F.slot_str_eq (typeIs_str s b u) F.entry_str_eq (F.args_str_eq_2 _ _) (str_eq_dd_s b u a _ _ _ _) ⟨ho, hq⟩) (fun Q hq => dict_eq_dec da (typeIs_str s b u) F.sub_str_dict Q hq) (fun _ hq => wpAny_of_eq (rfl : isSame (.str b u) (.ref a) = pure false) hq) (.inr hu) h
  have r2 : RcAt A s (.ref a) (.str b u) false := fun prog w E Q h => rc_eq_decline_or (k := false) da.ty (typeIs_str s b u) (by decide) F.sub_str_dict F.slot_dict_eq F.slot_str_eq_refl (fun Q hq => dict_eq_dec da (typeIs_str s b u) F.sub_str_dict Q hq) (fun _ hq => call_meets F.slot_str_eq_refl (typeIs_str s b u) F.entry_str_eq (F.args_str_eq_2 _ _) (str_eq_dd_s b u a _ _ _ _) ⟨ho, hq⟩) (fun _ hq => wpAny_of_eq (rfl : isSame (.ref a) (.str b u) = pure false) hq) (.inr hu) h
  refine ⟨⟨fun prog w E Q h => ?_, r1, fun prog w E Q h => rc_ne_decline_or (k := false) (typeIs_str s b u) da.ty (by decide) F.sub_dict_str F.slot_str_ne F.slot_dict_ne_refl (fun _ hq => call_meets F.slot_str_ne (typeIs_str s b u) F.entry_str_ne (F.args_str_ne_2 _ _) (str_ne_dd_s b u a _ _ _ _) ⟨ho, hq⟩) (fun Q hq => dict_ne_dec da (typeIs_str s b u) F.sub_str_dict Q hq) (fun _ hq => wpAny_of_eq (rfl : isSame (.str b u) (.ref a) = pure false) hq) (.inr hu) h⟩, fun prog w E Q h => ?_, r2, fun prog w E Q h => rc_ne_decline_or (k := false) da.ty (typeIs_str s b u) (by decide) F.sub_str_dict F.slot_dict_ne F.slot_str_ne_refl (fun Q hq => dict_ne_dec da (typeIs_str s b u) F.sub_str_dict Q hq) (fun _ hq => call_meets F.slot_str_ne_refl (typeIs_str s b u) F.entry_str_ne (F.args_str_ne_2 _ _) (str_ne_dd_s b u a _ _ _ _) ⟨ho, hq⟩) (fun _ hq => wpAny_of_eq (rfl : isSame (.ref a) (.str b u) = pure false) hq) (.inr hu) h⟩
  · unfold eqBool
    refine wpAny_holding ?_
    refine wpAny_ite_split (fun hab => absurd (eq_of_beq hab) nofun) (fun _ => ?_)
    exact wpAny_bind (r1 prog w E _ (wpAny_truthy_bool h))
  · unfold eqBool
    refine wpAny_holding ?_
    refine wpAny_ite_split (fun hab => absurd (eq_of_beq hab) nofun) (fun _ => ?_)
    exact wpAny_bind (r2 prog w E _ (wpAny_truthy_bool h))
private theorem off_list {l : Addr} {items : Array Value} (hl : s.heap.IsList l items) (da : EmpAt s.heap a) (hu : A.units < cLine) : l ≠ a ∧ (EqAt A s (.ref l) (.ref a) false ∧ RcAt A s (.ref l) (.ref a) false ∧ RcNeAt A s (.ref l) (.ref a) true) ∧ EqAt A s (.ref a) (.ref l) false ∧ RcAt A s (.ref a) (.ref l) false ∧ RcNeAt A s (.ref a) (.ref l) true := by
  obtain ⟨ep, ho2⟩ := da.2
  obtain ⟨⟨cls, dd, data, sl⟩, ho, hc, n, hd⟩ := id hl
  simp only at hc hd
  subst hc hd
  have ne : l ≠ a := fun z => by subst z; have e := congrArg Obj.data (Option.some.inj (ho.symm.trans ho2)); cases e
  have ty : s.TypeIs (.ref l) "list" := ⟨_, ho, rfl⟩
  have r1 : RcAt A s (.ref l) (.ref a) false := fun prog w E Q h => rc_eq_decline_or (k := false) ty da.ty (by decide) F.sub_dict_list F.slot_list_eq F.slot_dict_eq_refl (fun _ hq => call_meets F.slot_list_eq ty F.entry_list_eq (F.args_list_eq_2 _ _) (list_eq_dd l a _ _ _ _ _ _ _ _) ⟨ho, ho2, hq⟩) (fun Q hq => dict_eq_dec da ty F.sub_list_dict Q hq) (fun _ hq => wpAny_isSame_ref_other' ne ho ho2 (by simp) hq) (.inr hu) h
  have r2 : RcAt A s (.ref a) (.ref l) false := fun prog w E Q h => rc_eq_decline_or (k := false) da.ty ty (by decide) F.sub_list_dict F.slot_dict_eq F.slot_list_eq_refl (fun Q hq => dict_eq_dec da ty F.sub_list_dict Q hq) (fun _ hq => call_meets F.slot_list_eq_refl ty F.entry_list_eq (F.args_list_eq_2 _ _) (list_eq_dd l a _ _ _ _ _ _ _ _) ⟨ho, ho2, hq⟩) (fun _ hq => wpAny_isSame_ref_other' (Ne.symm ne) ho2 ho (by simp) hq) (.inr hu) h
  exact ⟨ne, ⟨.of_refs ne r1, r1, fun prog w E Q h => rc_ne_decline_or (k := false) ty da.ty (by decide) F.sub_dict_list F.slot_list_ne F.slot_dict_ne_refl (fun _ hq => call_meets F.slot_list_ne ty F.entry_list_ne (F.args_list_ne_2 _ _) (list_ne_dd l a _ _ _ _ _ _ _ _) ⟨ho, ho2, hq⟩) (fun Q hq => dict_ne_dec da ty F.sub_list_dict Q hq) (fun _ hq => wpAny_isSame_ref_other' ne ho ho2 (by simp) hq) (.inr hu) h⟩, .of_refs (Ne.symm ne) r2, r2, fun prog w E Q h => rc_ne_decline_or (k := false) da.ty ty (by decide) F.sub_list_dict F.slot_dict_ne F.slot_list_ne_refl (fun Q hq => dict_ne_dec da ty F.sub_list_dict Q hq) (fun _ hq => call_meets F.slot_list_ne_refl ty F.entry_list_ne (F.args_list_ne_2 _ _) (list_ne_dd l a _ _ _ _ _ _ _ _) ⟨ho, ho2, hq⟩) (fun _ hq => wpAny_isSame_ref_other' (Ne.symm ne) ho2 ho (by simp) hq) (.inr hu) h⟩
private theorem off_tuple {l : Addr} {items : Array Value} (hl : s.heap.IsTuple l items) (da : EmpAt s.heap a) (hu : A.units < cLine) : l ≠ a ∧ (EqAt A s (.ref l) (.ref a) false ∧ RcAt A s (.ref l) (.ref a) false ∧ RcNeAt A s (.ref l) (.ref a) true) ∧ EqAt A s (.ref a) (.ref l) false ∧ RcAt A s (.ref a) (.ref l) false ∧ RcNeAt A s (.ref a) (.ref l) true := by
  obtain ⟨ep, ho2⟩ := da.2
  obtain ⟨⟨cls, dd, data, sl⟩, ho, hc, n, hd⟩ := id hl
  simp only at hc hd
  subst hc hd
  have ne : l ≠ a := fun z => by subst z; have e := congrArg Obj.data (Option.some.inj (ho.symm.trans ho2)); cases e
  have ty : s.TypeIs (.ref l) "tuple" := ⟨_, ho, rfl⟩
  have r1 : RcAt A s (.ref l) (.ref a) false := fun prog w E Q h => rc_eq_decline_or (k := false) ty da.ty (by decide) F.sub_dict_tuple F.slot_tuple_eq F.slot_dict_eq_refl (fun _ hq => call_meets F.slot_tuple_eq ty F.entry_tuple_eq (F.args_tuple_eq_2 _ _) (tuple_eq_dd l a _ _ _ _ _ _ _ _) ⟨ho, ho2, hq⟩) (fun Q hq => dict_eq_dec da ty F.sub_tuple_dict Q hq) (fun _ hq => wpAny_isSame_ref_other' ne ho ho2 (by simp) hq) (.inr hu) h
  have r2 : RcAt A s (.ref a) (.ref l) false := fun prog w E Q h => rc_eq_decline_or (k := false) da.ty ty (by decide) F.sub_tuple_dict F.slot_dict_eq F.slot_tuple_eq_refl (fun Q hq => dict_eq_dec da ty F.sub_tuple_dict Q hq) (fun _ hq => call_meets F.slot_tuple_eq_refl ty F.entry_tuple_eq (F.args_tuple_eq_2 _ _) (tuple_eq_dd l a _ _ _ _ _ _ _ _) ⟨ho, ho2, hq⟩) (fun _ hq => wpAny_isSame_ref_other (Ne.symm ne) ho2 ho (by simp) hq) (.inr hu) h
  exact ⟨ne, ⟨.of_refs ne r1, r1, fun prog w E Q h => rc_ne_decline_or (k := false) ty da.ty (by decide) F.sub_dict_tuple F.slot_tuple_ne F.slot_dict_ne_refl (fun _ hq => call_meets F.slot_tuple_ne ty F.entry_tuple_ne (F.args_tuple_ne_2 _ _) (tuple_ne_dd l a _ _ _ _ _ _ _ _) ⟨ho, ho2, hq⟩) (fun Q hq => dict_ne_dec da ty F.sub_tuple_dict Q hq) (fun _ hq => wpAny_isSame_ref_other' ne ho ho2 (by simp) hq) (.inr hu) h⟩, .of_refs (Ne.symm ne) r2, r2, fun prog w E Q h => rc_ne_decline_or (k := false) da.ty ty (by decide) F.sub_tuple_dict F.slot_dict_ne F.slot_tuple_ne_refl (fun Q hq => dict_ne_dec da ty F.sub_tuple_dict Q hq) (fun _ hq => call_meets F.slot_tuple_ne_refl ty F.entry_tuple_ne (F.args_tuple_ne_2 _ _) (tuple_ne_dd l a _ _ _ _ _ _ _ _) ⟨ho, ho2, hq⟩) (fun _ hq => wpAny_isSame_ref_other (Ne.symm ne) ho2 ho (by simp) hq) (.inr hu) h⟩
end
end L4
set_option Elab.async false
set_option linter.all false
set_option maxRecDepth 100000
namespace L4
open PySem PySem.Spec PyProof.Rows L2 L3
private theorem ex5 {α β γ δ ε : Type} {A B C : α → β → γ → δ → ε → Prop} {R : Prop} (h : ∃ z f r m p, A z f r m p ∧ B z f r m p ∧ C z f r m p) (k : ∀ z f r m p, A z f r m p → B z f r m p → C z f r m p → R) : R :=
  h.elim fun z h => h.elim fun f h => h.elim fun r h => h.elim fun m h => h.elim fun p h => k z f r m p h.1 h.2.1 h.2.2
private theorem ex6 {α β γ δ ε ζ : Type} {A B C G : α → β → γ → δ → ε → ζ → Prop} {R : Prop} (h : ∃ z f r m d p, A z f r m d p ∧ B z f r m d p ∧ C z f r m d p ∧ G z f r m d p) (k : ∀ z f r m d p, A z f r m d p → B z f r m d p → C z f r m d p → G z f r m d p → R) : R :=
  h.elim fun z h => h.elim fun f h => h.elim fun r h => h.elim fun m h => h.elim fun d h => h.elim fun p h => k z f r m d p h.1 h.2.1 h.2.2.1 h.2.2.2
mutual
noncomputable def Rp (K : PySem.W.Frag) (F : Hp) : D → V → Prop
  | .non, v => v = .non
  | .bl b, v => v = .bl b
  | .int i, v => v = .int i
  | .str x, v => v = .str x
  | .tup ds, v => ∃ a vs, v = .ref a ∧ SqT K F a vs ∧ Rps K F ds vs
  | .lst ds, v => ∃ a vs, v = .ref a ∧ Rd F a (.lst vs) ∧ Rps K F ds vs
  | .emp, v => ∃ a, v = .ref a ∧ Rd F a (.dK [])
noncomputable def Rps (K : PySem.W.Frag) (F : Hp) : List D → List V → Prop
  | [], vs => vs = []
  | d :: ds, vs => ∃ v r, vs = v :: r ∧ Rp K F d v ∧ Rps K F ds r
end
section
variable {K : PySem.W.Frag} {F F' H : Hp}
private theorem rd_same {a : Addr} {u : HO} (e : Same F F') (h : Rd F a u) : Rd F' a u := by
  rcases h with h | ⟨o, h⟩
  · exact .inl (e _ _ h)
  · exact .inr ⟨o, e _ _ h⟩
private theorem sqT_same {a : Addr} {vs : List V} (e : Same F F') (h : SqT K F a vs) : SqT K F' a vs := h.imp (rd_same e) id
mutual
private theorem Rp.same (e : Same F F') : ∀ {d : D} {v : V}, Rp K F d v → Rp K F' d v
  | .non, _, h => by rw [Rp] at *; exact h
  | .bl _, _, h => by rw [Rp] at *; exact h
  | .int _, _, h => by rw [Rp] at *; exact h
  | .str _, _, h => by rw [Rp] at *; exact h
  | .emp, _, h => by
    rw [Rp] at *
    obtain ⟨a, h1, h2⟩ := h
    exact ⟨a, h1, rd_same e h2⟩
  | .tup ds, _, h => by
    rw [Rp] at *
    obtain ⟨a, vs, h1, h2, h3⟩ := h
    exact ⟨a, vs, h1, sqT_same e h2, Rps.same e h3⟩
  | .lst ds, _, h => by
    rw [Rp] at *
    obtain ⟨a, vs, h1, h2, h3⟩ := h
    exact ⟨a, vs, h1, rd_same e h2, Rps.same e h3⟩
private theorem Rps.same (e : Same F F') : ∀ {d : List D} {v : List V}, Rps K F d v → Rps K F' d v
  | [], _, h => by rw [Rps] at *; exact h
  | d :: ds, _, h => by
    rw [Rps] at *
    obtain ⟨v, r, h1, h2, h3⟩ := h
    exact ⟨v, r, h1, Rp.same e h2, Rps.same e h3⟩
end
private theorem Rps.nil : Rps K F [] [] := by rw [Rps]
private theorem Rps.cons {d : D} {v : V} {ds : List D} {vs : List V} (h : Rp K F d v) (k : Rps K F ds vs) : Rps K F (d :: ds) (v :: vs) := by
  rw [Rps]; exact ⟨v, vs, rfl, h, k⟩
private theorem Rps.length : ∀ {d : List D} {v : List V}, Rps K F d v → d.length = v.length
  | [], v, h => by rw [Rps] at h; subst h; rfl
  | d :: ds, v, h => by
    rw [Rps] at h
    obtain ⟨v, r, rfl, h2, h3⟩ := h
    rw [List.length_cons, List.length_cons, Rps.length h3]
private theorem Rps.get : ∀ {d : List D} {v : List V} {i : Nat} {x : D}, Rps K F d v → d[i]? = some x → ∃ y, v[i]? = some y ∧ Rp K F x y
  | [], v, i, x, h, e => by simp at e
  | d :: ds, v, 0, x, h, e => by
    rw [Rps] at h
    obtain ⟨v, r, rfl, h2, h3⟩ := h
    simp at e; subst e
    exact ⟨v, rfl, h2⟩
  | d :: ds, v, i + 1, x, h, e => by
    rw [Rps] at h
    obtain ⟨v, r, rfl, h2, h3⟩ := h
    obtain ⟨y, h4, h5⟩ := Rps.get (i := i) (x := x) h3 (by simpa using e)
    exact ⟨y, by simpa using h4, h5⟩
private theorem Rps.append : ∀ {d e : List D} {v w : List V}, Rps K F d v → Rps K F e w → Rps K F (d ++ e) (v ++ w)
  | [], e, v, w, h, k => by rw [Rps] at h; subst h; exact k
  | d :: ds, e, v, w, h, k => by
    rw [Rps] at h
    obtain ⟨v, r, rfl, h2, h3⟩ := h
    rw [List.cons_append, Rps]
    exact ⟨v, r ++ w, rfl, h2, Rps.append h3 k⟩
private theorem Rps.take : ∀ (n : Nat) {d : List D} {v : List V}, Rps K F d v → Rps K F (d.take n) (v.take n)
  | 0, _, _, _ => .nil
  | n + 1, [], v, h => by rw [Rps] at h; subst h; exact .nil
  | n + 1, d :: ds, v, h => by
    rw [Rps] at h
    obtain ⟨v, r, rfl, h2, h3⟩ := h
    exact .cons h2 (Rps.take n h3)
private theorem Rps.drop : ∀ (n : Nat) {d : List D} {v : List V}, Rps K F d v → Rps K F (d.drop n) (v.drop n)
  | 0, _, _, h => h
  | n + 1, [], v, h => by rw [Rps] at h; subst h; exact .nil
  | n + 1, d :: ds, v, h => by
    rw [Rps] at h
    obtain ⟨v, r, rfl, h2, h3⟩ := h
    exact Rps.drop n h3
private theorem Rps.set {x : D} {y : V} (hx : Rp K F x y) : ∀ (n : Nat) {d : List D} {v : List V}, Rps K F d v → Rps K F (d.set n x) (v.set n y)
  | _, [], v, h => by rw [Rps] at h; subst h; exact .nil
  | 0, d :: ds, v, h => by
    rw [Rps] at h
    obtain ⟨v, r, rfl, h2, h3⟩ := h
    exact .cons hx h3
  | n + 1, d :: ds, v, h => by
    rw [Rps] at h
    obtain ⟨v, r, rfl, h2, h3⟩ := h
    exact .cons h2 (Rps.set hx n h3)
end
inductive U where
  | d (x : D) | adr (p : Addr) | tup (us : List U) | ins (C : Addr) (ns : List Str) (ds : List D)
mutual
noncomputable def RU (K : PySem.W.Frag) (F : Hp) : U → V → Prop
  | .d x, v => Rp K F x v
  | .adr p, v => v = .ref p
  | .ins C ns ds, v => ∃ a dx vs, v = .ref a ∧ F a = some (.ins C dx (ns.zip vs)) ∧ Rps K F ds vs
  | .tup us, v => ∃ a vs, v = .ref a ∧ SqT K F a vs ∧ RUs K F us vs
noncomputable def RUs (K : PySem.W.Frag) (F : Hp) : List U → List V → Prop
  | [], vs => vs = []
  | u :: us, vs => ∃ v r, vs = v :: r ∧ RU K F u v ∧ RUs K F us r
end
section
variable {K : PySem.W.Frag} {F F' H : Hp}
mutual
private theorem RU.same (e : Same F F') : ∀ {u : U} {v : V}, RU K F u v → RU K F' u v
  | .d _, _, h => by rw [RU] at *; exact Rp.same e h
  | .adr _, _, h => by rw [RU] at *; exact h
  | .ins _ _ _, _, h => by
    rw [RU] at *
    obtain ⟨a, dx, vs, h1, h2, h3⟩ := h
    exact ⟨a, dx, vs, h1, e _ _ h2, Rps.same e h3⟩
  | .tup us, _, h => by
    rw [RU] at *
    obtain ⟨a, vs, h1, h2, h3⟩ := h
    exact ⟨a, vs, h1, sqT_same e h2, RUs.same e h3⟩
private theorem RUs.same (e : Same F F') : ∀ {u : List U} {v : List V}, RUs K F u v → RUs K F' u v
  | [], _, h => by rw [RUs] at *; exact h
  | u :: us, _, h => by
    rw [RUs] at *
    obtain ⟨v, r, h1, h2, h3⟩ := h
    exact ⟨v, r, h1, RU.same e h2, RUs.same e h3⟩
end
end
section
variable {X : Cx} {pins : List (Addr × Obj)} {σ : L2.St} {H : Hp} {s : Shared}
private theorem rp_emp {a : Addr} (I : Inv X pins σ H s) (h : Rd H a (.dK [])) : EmpAt s.heap a := by
  obtain ⟨_, y, vs, rel, dd⟩ := dk_rd I.hok h
  cases rel
  exact .of y dd
private theorem emp_tuple {h : Heap} {a : Addr} {its : Array Value} (e : EmpAt h a) (k : h.IsTuple a its) : False := by
  obtain ⟨_, ep, e⟩ := e
  obtain ⟨o, p1, p2, _⟩ := k
  rw [e] at p1
  cases p1
  simp at p2
private theorem emp_list {h : Heap} {a : Addr} {its : Array Value} (e : EmpAt h a) (k : h.IsList a its) : False := by
  obtain ⟨_, ep, e⟩ := e
  obtain ⟨o, p1, p2, _⟩ := k
  rw [e] at p1
  cases p1
  simp at p2
mutual
private theorem Rp.inj (I : Inv X pins σ H s) : ∀ {d e : D} {v : V}, Rp X.K H d v → Rp X.K H e v → d = e
  | .non, e, v, h, k => by
    rw [Rp] at h; subst h
    cases e <;> rw [Rp] at k <;> first | (obtain ⟨_, k, _⟩ := k; cases k; done) | (obtain ⟨_, _, k, _⟩ := k; cases k; done) | rfl | (cases k; done)
  | .bl _, e, v, h, k => by
    rw [Rp] at h; subst h
    cases e <;> rw [Rp] at k <;> first | (obtain ⟨_, k, _⟩ := k; cases k; done) | (obtain ⟨_, _, k, _⟩ := k; cases k; done) | (cases k; rfl) | (cases k; done)
  | .int _, e, v, h, k => by
    rw [Rp] at h; subst h
    cases e <;> rw [Rp] at k <;> first | (obtain ⟨_, k, _⟩ := k; cases k; done) | (obtain ⟨_, _, k, _⟩ := k; cases k; done) | (cases k; rfl) | (cases k; done)
  | .str _, e, v, h, k => by
    rw [Rp] at h; subst h
    cases e <;> rw [Rp] at k <;> first | (obtain ⟨_, k, _⟩ := k; cases k; done) | (obtain ⟨_, _, k, _⟩ := k; cases k; done) | (cases k; rfl) | (cases k; done)
  | .emp, e, v, h, k => by
    rw [Rp] at h
    obtain ⟨a, rfl, h2⟩ := h
    cases e <;> rw [Rp] at k
    case tup es =>
      obtain ⟨b, ws, e1, k2, k3⟩ := k
      cases e1
      obtain ⟨_, _, p, _⟩ := I.tuple k2
      exact (emp_tuple (rp_emp I h2) p).elim
    case lst es =>
      obtain ⟨b, ws, e1, k2, k3⟩ := k
      cases e1
      obtain ⟨_, _, p, _⟩ := I.list (.inl k2)
      exact (emp_list (rp_emp I h2) p.isList).elim
    all_goals cases k
  | .tup ds, e, v, h, k => by
    rw [Rp] at h
    obtain ⟨a, vs, rfl, h2, h3⟩ := h
    cases e <;> rw [Rp] at k
    case tup es =>
      obtain ⟨b, ws, e1, k2, k3⟩ := k
      cases e1
      have := I.tuple_inj h2 k2
      subst this
      rw [Rps.inj I h3 k3]
    case lst es =>
      obtain ⟨b, ws, e1, k2, k3⟩ := k
      cases e1
      obtain ⟨_, _, ⟨o, q1, q2, _⟩, _⟩ := I.tuple h2
      obtain ⟨_, _, ⟨o', n', p1, p2, _⟩, _⟩ := I.list (.inl k2)
      rw [q1] at p1
      cases p1
      rw [q2] at p2
      simp at p2
    case emp =>
      obtain ⟨b, e1, k2⟩ := k
      cases e1
      obtain ⟨_, _, p, _⟩ := I.tuple h2
      exact (emp_tuple (rp_emp I k2) p).elim
    all_goals cases k
  | .lst ds, e, v, h, k => by
    rw [Rp] at h
    obtain ⟨a, vs, rfl, h2, h3⟩ := h
    cases e <;> rw [Rp] at k
    case lst es =>
      obtain ⟨b, ws, e1, k2, k3⟩ := k
      cases e1
      have := I.list_inj (.inl h2) (.inl k2)
      subst this
      rw [Rps.inj I h3 k3]
    case tup es =>
      obtain ⟨b, ws, e1, k2, k3⟩ := k
      cases e1
      obtain ⟨_, _, ⟨o, q1, q2, _⟩, _⟩ := I.tuple k2
      obtain ⟨_, _, ⟨o', n', p1, p2, _⟩, _⟩ := I.list (.inl h2)
      rw [q1] at p1
      cases p1
      rw [q2] at p2
      simp at p2
    case emp =>
      obtain ⟨b, e1, k2⟩ := k
      cases e1
      obtain ⟨_, _, p, _⟩ := I.list (.inl h2)
      exact (emp_list (rp_emp I k2) p.isList).elim
    all_goals cases k
private theorem Rps.inj (I : Inv X pins σ H s) : ∀ {d e : List D} {v : List V}, Rps X.K H d v → Rps X.K H e v → d = e
  | [], e, v, h, k => by
    rw [Rps] at h; subst h
    cases e with
    | nil => rfl
    | cons => rw [Rps] at k; obtain ⟨_, _, k, _⟩ := k; cases k
  | d :: ds, e, v, h, k => by
    rw [Rps] at h
    obtain ⟨v, r, rfl, h2, h3⟩ := h
    cases e with
    | nil => rw [Rps] at k; cases k
    | cons e es =>
      rw [Rps] at k
      obtain ⟨v', r', k1, k2, k3⟩ := k
      cases k1
      rw [Rp.inj I h2 k2, Rps.inj I h3 k3]
end
private theorem rp_list {a : Addr} {vs : List V} (I : Inv X pins σ H s) (h : Rd H a (.lst vs)) : ∃ its : List Value, Vals vs its ∧ s.heap.IsList a its.toArray := by
  obtain ⟨its, r, p, _⟩ := I.list (.inl h)
  exact ⟨its, r, p.isList⟩
private theorem rp_tuple {a : Addr} {vs : List V} (I : Inv X pins σ H s) (h : SqT X.K H a vs) : ∃ its : List Value, Vals vs its ∧ s.heap.IsTuple a its.toArray := by
  obtain ⟨its, r, p, _⟩ := I.tuple h
  exact ⟨its, r, p⟩
open SeqAt
private theorem eq_items4 {A : Around} {ds es : List D} {vs ws : List V} {us ts : List Value} (hd : Rps X.K H ds vs) (he : Rps X.K H es ws) (r : Vals vs us) (q : Vals ws ts)
    (ih : ∀ (i : Nat) (d e : D), ds[i]? = some d → es[i]? = some e → ∀ x y u v, Rp X.K H d x → Rp X.K H e y → RelV x u → RelV y v → EqAt A s u v (peq d e)) :
    ∀ j (h1 : j < us.toArray.size) (h2 : j < ts.toArray.size), EqAt A s us.toArray[j] ts.toArray[j] (peq (ds.getD j .non) (es.getD j .non)) := by
  intro j h1 h2
  have l1 : ds.length = us.length := hd.length.trans r.length
  have l2 : es.length = ts.length := he.length.trans q.length
  have h1' : j < ds.length := by rw [l1]; simpa using h1
  have h2' : j < es.length := by rw [l2]; simpa using h2
  have e1 : ds[j]? = some ds[j] := List.getElem?_eq_getElem h1'
  have e2 : es[j]? = some es[j] := List.getElem?_eq_getElem h2'
  obtain ⟨x, hx, rx⟩ := hd.get e1
  obtain ⟨y, hy, ry⟩ := he.get e2
  obtain ⟨u, hu, ru⟩ := r.get hx
  obtain ⟨v, hv, rv⟩ := q.get hy
  have g1 : us.toArray[j] = u := by
    have : us[j]? = some us[j] := List.getElem?_eq_getElem (by simpa using h1)
    rw [this] at hu
    simpa using hu
  have g2 : ts.toArray[j] = v := by
    have : ts[j]? = some ts[j] := List.getElem?_eq_getElem (by simpa using h2)
    rw [this] at hv
    simpa using hv
  rw [g1, g2, List.getD_eq_getElem?_getD, List.getD_eq_getElem?_getD, e1, e2]
  exact ih j _ _ e1 e2 x y u v rx ry ru rv
private theorem deep4 {n : Nat} (I : Inv X pins σ H s) : ∀ (A : Around) (d e : D) (x y : V) (u v : Value), dep d ≤ n → A.units + n < cLine → Rp X.K H d x → Rp X.K H e y → RelV x u → RelV y v →
    EqAt A s u v (peq d e) ∧ RcAt A s u v (peq d e) ∧ RcNeAt A s u v (!peq d e) := by
  induction n with
  | zero =>
    intro A d e x y u v hn hu hd he ru rv
    cases d with
    | tup ds => rw [dep] at hn; omega
    | lst ds => rw [dep] at hn; omega
    | emp =>
      rw [Rp] at hd; obtain ⟨a, rfl, h2⟩ := hd; cases ru
      have da := rp_emp I h2
      have hu' : A.units < cLine := Nat.lt_of_le_of_lt (Nat.le_add_right _ _) hu
      cases e with
      | non => rw [Rp] at he; subst he; cases rv; simp only [peq]; exact (off_non da hu').2
      | bl b => rw [Rp] at he; subst he; cases rv; simp only [peq]; exact (off_bl _ da hu').2
      | int b => rw [Rp] at he; subst he; obtain ⟨t, rfl⟩ := rv; simp only [peq]; exact (off_int _ _ da hu').2
      | str b => rw [Rp] at he; subst he; obtain ⟨t, rfl⟩ := rv; simp only [peq]; exact (off_str _ _ da hu').2
      | tup es =>
        rw [Rp] at he; obtain ⟨b, vs, rfl, h2, _⟩ := he; cases rv
        obtain ⟨its, _, ht⟩ := rp_tuple I h2
        simp only [peq]; exact (off_tuple ht da hu').2.2
      | lst es =>
        rw [Rp] at he; obtain ⟨b, vs, rfl, h2, _⟩ := he; cases rv
        obtain ⟨its, _, ht⟩ := rp_list I h2
        simp only [peq]; exact (off_list ht da hu').2.2
      | emp => rw [Rp] at he; obtain ⟨b, rfl, k2⟩ := he; cases rv; simp only [peq]; exact dict_dict da (rp_emp I k2) hu'
    | non =>
      rw [Rp] at hd; subst hd; cases ru
      cases e with
      | non => rw [Rp] at he; subst he; cases rv; simp only [peq]; exact ⟨EqAt.same _, RcAt.none_none, RcNeAt.none_none⟩
      | bl b => rw [Rp] at he; subst he; cases rv; simp only [peq]; exact ⟨EqAt.none_bool _, RcAt.none_bool _, RcNeAt.none_bool _⟩
      | int b => rw [Rp] at he; subst he; obtain ⟨t, rfl⟩ := rv; simp only [peq]; exact ⟨EqAt.none_int _ _, RcAt.none_int _ _, RcNeAt.none_int _ _⟩
      | str b => rw [Rp] at he; subst he; obtain ⟨t, rfl⟩ := rv; simp only [peq]; exact ⟨EqAt.none_str _ _, RcAt.none_str _ _, RcNeAt.none_str _ _⟩
      | emp => rw [Rp] at he; obtain ⟨a, rfl, h2⟩ := he; cases rv; simp only [peq]; exact (off_non (rp_emp I h2) (Nat.lt_of_le_of_lt (Nat.le_add_right _ _) hu)).1
      | tup es =>
        rw [Rp] at he; obtain ⟨a, vs, rfl, h2, _⟩ := he; cases rv
        obtain ⟨its, _, ht⟩ := rp_tuple I h2
        simp only [peq]; exact ⟨EqAt.none_tuple ht (Nat.lt_of_le_of_lt (Nat.le_add_right _ _) hu), RcAt.none_tuple ht (Nat.lt_of_le_of_lt (Nat.le_add_right _ _) hu), RcNeAt.none_tuple ht (Nat.lt_of_le_of_lt (Nat.le_add_right _ _) hu)⟩
      | lst es =>
        rw [Rp] at he; obtain ⟨a, vs, rfl, h2, _⟩ := he; cases rv
        obtain ⟨its, _, ht⟩ := rp_list I h2
        simp only [peq]; exact ⟨EqAt.none_list ht (Nat.lt_of_le_of_lt (Nat.le_add_right _ _) hu), RcAt.none_list ht (Nat.lt_of_le_of_lt (Nat.le_add_right _ _) hu), RcNeAt.none_list ht (Nat.lt_of_le_of_lt (Nat.le_add_right _ _) hu)⟩
    | bl c =>
      rw [Rp] at hd; subst hd; cases ru
      cases e with
      | non => rw [Rp] at he; subst he; cases rv; simp only [peq]; exact ⟨EqAt.bool_none _, RcAt.bool_none _, RcNeAt.bool_none _⟩
      | bl b => rw [Rp] at he; subst he; cases rv; simp only [peq]; exact ⟨EqAt.bool_bool _ _, RcAt.bool_bool _ _, RcNeAt.bool_bool _ _⟩
      | int b => rw [Rp] at he; subst he; obtain ⟨t, rfl⟩ := rv; simp only [peq]; exact ⟨EqAt.bool_int _ _ _, RcAt.bool_int _ _ _, RcNeAt.bool_int _ _ _⟩
      | str b => rw [Rp] at he; subst he; obtain ⟨t, rfl⟩ := rv; simp only [peq]; exact ⟨EqAt.bool_str _ _ _, RcAt.bool_str _ _ _, RcNeAt.bool_str _ _ _⟩
      | emp => rw [Rp] at he; obtain ⟨a, rfl, h2⟩ := he; cases rv; simp only [peq]; exact (off_bl _ (rp_emp I h2) (Nat.lt_of_le_of_lt (Nat.le_add_right _ _) hu)).1
      | tup es =>
        rw [Rp] at he; obtain ⟨a, vs, rfl, h2, _⟩ := he; cases rv
        obtain ⟨its, _, ht⟩ := rp_tuple I h2
        simp only [peq]; exact ⟨EqAt.bool_tuple _ ht (Nat.lt_of_le_of_lt (Nat.le_add_right _ _) hu), RcAt.bool_tuple _ ht (Nat.lt_of_le_of_lt (Nat.le_add_right _ _) hu), RcNeAt.bool_tuple _ ht (Nat.lt_of_le_of_lt (Nat.le_add_right _ _) hu)⟩
      | lst es =>
        rw [Rp] at he; obtain ⟨a, vs, rfl, h2, _⟩ := he; cases rv
        obtain ⟨its, _, ht⟩ := rp_list I h2
        simp only [peq]; exact ⟨EqAt.bool_list _ ht (Nat.lt_of_le_of_lt (Nat.le_add_right _ _) hu), RcAt.bool_list _ ht (Nat.lt_of_le_of_lt (Nat.le_add_right _ _) hu), RcNeAt.bool_list _ ht (Nat.lt_of_le_of_lt (Nat.le_add_right _ _) hu)⟩
    | int c =>
      rw [Rp] at hd; subst hd; obtain ⟨t', rfl⟩ := ru
      cases e with
      | non => rw [Rp] at he; subst he; cases rv; simp only [peq]; exact ⟨EqAt.int_none _ _, RcAt.int_none _ _, RcNeAt.int_none _ _⟩
      | bl b => rw [Rp] at he; subst he; cases rv; simp only [peq]; exact ⟨EqAt.int_bool _ _ _, RcAt.int_bool _ _ _, RcNeAt.int_bool _ _ _⟩
      | int b => rw [Rp] at he; subst he; obtain ⟨t, rfl⟩ := rv; simp only [peq]; exact ⟨EqAt.int_int _ _ _ _, RcAt.int_int _ _ _ _, RcNeAt.int_int _ _ _ _⟩
      | str b => rw [Rp] at he; subst he; obtain ⟨t, rfl⟩ := rv; simp only [peq]; exact ⟨EqAt.int_str _ _ _ _, RcAt.int_str _ _ _ _, RcNeAt.int_str _ _ _ _⟩
      | emp => rw [Rp] at he; obtain ⟨a, rfl, h2⟩ := he; cases rv; simp only [peq]; exact (off_int _ _ (rp_emp I h2) (Nat.lt_of_le_of_lt (Nat.le_add_right _ _) hu)).1
      | tup es =>
        rw [Rp] at he; obtain ⟨a, vs, rfl, h2, _⟩ := he; cases rv
        obtain ⟨its, _, ht⟩ := rp_tuple I h2
        simp only [peq]; exact ⟨EqAt.int_tuple _ _ ht (Nat.lt_of_le_of_lt (Nat.le_add_right _ _) hu), RcAt.int_tuple _ _ ht (Nat.lt_of_le_of_lt (Nat.le_add_right _ _) hu), RcNeAt.int_tuple _ _ ht (Nat.lt_of_le_of_lt (Nat.le_add_right _ _) hu)⟩
      | lst es =>
        rw [Rp] at he; obtain ⟨a, vs, rfl, h2, _⟩ := he; cases rv
        obtain ⟨its, _, ht⟩ := rp_list I h2
        simp only [peq]; exact ⟨EqAt.int_list _ _ ht (Nat.lt_of_le_of_lt (Nat.le_add_right _ _) hu), RcAt.int_list _ _ ht (Nat.lt_of_le_of_lt (Nat.le_add_right _ _) hu), RcNeAt.int_list _ _ ht (Nat.lt_of_le_of_lt (Nat.le_add_right _ _) hu)⟩
    | str c =>
      rw [Rp] at hd; subst hd; obtain ⟨t', rfl⟩ := ru
      cases e with
      | non => rw [Rp] at he; subst he; cases rv; simp only [peq]; exact ⟨EqAt.str_none _ _, RcAt.str_none _ _, RcNeAt.str_none _ _⟩
      | bl b => rw [Rp] at he; subst he; cases rv; simp only [peq]; exact ⟨EqAt.str_bool _ _ _, RcAt.str_bool _ _ _, RcNeAt.str_bool _ _ _⟩
      | int b => rw [Rp] at he; subst he; obtain ⟨t, rfl⟩ := rv; simp only [peq]; exact ⟨EqAt.str_int _ _ _ _, RcAt.str_int _ _ _ _, RcNeAt.str_int _ _ _ _⟩
      | str b => rw [Rp] at he; subst he; obtain ⟨t, rfl⟩ := rv; simp only [peq]; exact ⟨EqAt.str_str _ _ _ _, RcAt.str_str _ _ _ _, RcNeAt.str_str _ _ _ _⟩
      | emp => rw [Rp] at he; obtain ⟨a, rfl, h2⟩ := he; cases rv; simp only [peq]; exact (off_str _ _ (rp_emp I h2) (Nat.lt_of_le_of_lt (Nat.le_add_right _ _) hu)).1
      | tup es =>
        rw [Rp] at he; obtain ⟨a, vs, rfl, h2, _⟩ := he; cases rv
        obtain ⟨its, _, ht⟩ := rp_tuple I h2
        simp only [peq]; exact ⟨EqAt.str_tuple _ _ ht (Nat.lt_of_le_of_lt (Nat.le_add_right _ _) hu), RcAt.str_tuple _ _ ht (Nat.lt_of_le_of_lt (Nat.le_add_right _ _) hu), RcNeAt.str_tuple _ _ ht (Nat.lt_of_le_of_lt (Nat.le_add_right _ _) hu)⟩
      | lst es =>
        rw [Rp] at he; obtain ⟨a, vs, rfl, h2, _⟩ := he; cases rv
        obtain ⟨its, _, ht⟩ := rp_list I h2
        simp only [peq]; exact ⟨EqAt.str_list _ _ ht (Nat.lt_of_le_of_lt (Nat.le_add_right _ _) hu), RcAt.str_list _ _ ht (Nat.lt_of_le_of_lt (Nat.le_add_right _ _) hu), RcNeAt.str_list _ _ ht (Nat.lt_of_le_of_lt (Nat.le_add_right _ _) hu)⟩
  | succ n ih =>
    intro A d e x y u v hn hu hd he ru rv
    by_cases hz : dep d ≤ n
    · exact ih A d e x y u v hz (by omega) hd he ru rv
    cases d with
    | non => simp only [dep] at hz; omega
    | bl _ => simp only [dep] at hz; omega
    | int _ => simp only [dep] at hz; omega
    | str _ => simp only [dep] at hz; omega
    | emp => simp only [dep] at hz; omega
    | tup ds =>
      rw [dep] at hn
      have hd0 := hd
      rw [Rp] at hd; obtain ⟨a, vs, rfl, h2, hs⟩ := hd; cases ru
      obtain ⟨its, rI, ht⟩ := rp_tuple I h2
      cases e with
      | non => rw [Rp] at he; subst he; cases rv; simp only [peq]; exact ⟨EqAt.tuple_none ht (Nat.lt_of_le_of_lt (Nat.le_add_right _ _) hu), RcAt.tuple_none ht (Nat.lt_of_le_of_lt (Nat.le_add_right _ _) hu), RcNeAt.tuple_none ht (Nat.lt_of_le_of_lt (Nat.le_add_right _ _) hu)⟩
      | bl b => rw [Rp] at he; subst he; cases rv; simp only [peq]; exact ⟨EqAt.tuple_bool _ ht (Nat.lt_of_le_of_lt (Nat.le_add_right _ _) hu), RcAt.tuple_bool _ ht (Nat.lt_of_le_of_lt (Nat.le_add_right _ _) hu), RcNeAt.tuple_bool _ ht (Nat.lt_of_le_of_lt (Nat.le_add_right _ _) hu)⟩
      | int b => rw [Rp] at he; subst he; obtain ⟨t, rfl⟩ := rv; simp only [peq]; exact ⟨EqAt.tuple_int _ _ ht (Nat.lt_of_le_of_lt (Nat.le_add_right _ _) hu), RcAt.tuple_int _ _ ht (Nat.lt_of_le_of_lt (Nat.le_add_right _ _) hu), RcNeAt.tuple_int _ _ ht (Nat.lt_of_le_of_lt (Nat.le_add_right _ _) hu)⟩
      | str b => rw [Rp] at he; subst he; obtain ⟨t, rfl⟩ := rv; simp only [peq]; exact ⟨EqAt.tuple_str _ _ ht (Nat.lt_of_le_of_lt (Nat.le_add_right _ _) hu), RcAt.tuple_str _ _ ht (Nat.lt_of_le_of_lt (Nat.le_add_right _ _) hu), RcNeAt.tuple_str _ _ ht (Nat.lt_of_le_of_lt (Nat.le_add_right _ _) hu)⟩
      | emp => rw [Rp] at he; obtain ⟨b, rfl, k2⟩ := he; cases rv; simp only [peq]; exact (off_tuple ht (rp_emp I k2) (Nat.lt_of_le_of_lt (Nat.le_add_right _ _) hu)).2.1
      | lst es =>
        rw [Rp] at he; obtain ⟨b, ws, rfl, k2, _⟩ := he; cases rv
        obtain ⟨jts, _, hl⟩ := rp_list I k2
        simp only [peq]; exact ⟨EqAt.tuple_list ht hl (by omega), RcAt.tuple_list ht hl (by omega), RcNeAt.tuple_list ht hl (by omega)⟩
      | tup es =>
        have he0 := he
        rw [Rp] at he; obtain ⟨b, ws, rfl, k2, ks⟩ := he; cases rv
        obtain ⟨jts, rJ, hj⟩ := rp_tuple I k2
        have items := eq_items4 (A := A.in1) (s := s) hs ks rI rJ fun i d e e1 e2 x y u v h1 h2 h3 h4 => (ih A.in1 d e x y u v (by have := dep_le e1; omega) (by rw [in1_units]; omega) h1 h2 h3 h4).1
        have rc := RcAt.tuples ht hj (by omega) items
        rw [seq_bool (hs.length.trans rI.length) (ks.length.trans rJ.length)] at rc
        have rn := RcNeAt.tuples ht hj (by omega) items
        rw [seq_bool (hs.length.trans rI.length) (ks.length.trans rJ.length)] at rn
        simp only [peq]
        refine ⟨?_, rc, rn⟩
        by_cases ab : a = b
        · subst ab
          have := Rp.inj I hd0 he0
          injection this with this
          subst this
          rw [peqs_refl]
          exact EqAt.same _
        · exact EqAt.of_refs ab rc
    | lst ds =>
      rw [dep] at hn
      have hd0 := hd
      rw [Rp] at hd; obtain ⟨a, vs, rfl, h2, hs⟩ := hd; cases ru
      obtain ⟨its, rI, ht⟩ := rp_list I h2
      cases e with
      | non => rw [Rp] at he; subst he; cases rv; simp only [peq]; exact ⟨EqAt.list_none ht (Nat.lt_of_le_of_lt (Nat.le_add_right _ _) hu), RcAt.list_none ht (Nat.lt_of_le_of_lt (Nat.le_add_right _ _) hu), RcNeAt.list_none ht (Nat.lt_of_le_of_lt (Nat.le_add_right _ _) hu)⟩
      | bl b => rw [Rp] at he; subst he; cases rv; simp only [peq]; exact ⟨EqAt.list_bool _ ht (Nat.lt_of_le_of_lt (Nat.le_add_right _ _) hu), RcAt.list_bool _ ht (Nat.lt_of_le_of_lt (Nat.le_add_right _ _) hu), RcNeAt.list_bool _ ht (Nat.lt_of_le_of_lt (Nat.le_add_right _ _) hu)⟩
      | int b => rw [Rp] at he; subst he; obtain ⟨t, rfl⟩ := rv; simp only [peq]; exact ⟨EqAt.list_int _ _ ht (Nat.lt_of_le_of_lt (Nat.le_add_right _ _) hu), RcAt.list_int _ _ ht (Nat.lt_of_le_of_lt (Nat.le_add_right _ _) hu), RcNeAt.list_int _ _ ht (Nat.lt_of_le_of_lt (Nat.le_add_right _ _) hu)⟩
      | str b => rw [Rp] at he; subst he; obtain ⟨t, rfl⟩ := rv; simp only [peq]; exact ⟨EqAt.list_str _ _ ht (Nat.lt_of_le_of_lt (Nat.le_add_right _ _) hu), RcAt.list_str _ _ ht (Nat.lt_of_le_of_lt (Nat.le_add_right _ _) hu), RcNeAt.list_str _ _ ht (Nat.lt_of_le_of_lt (Nat.le_add_right _ _) hu)⟩
      | emp => rw [Rp] at he; obtain ⟨b, rfl, k2⟩ := he; cases rv; simp only [peq]; exact (off_list ht (rp_emp I k2) (Nat.lt_of_le_of_lt (Nat.le_add_right _ _) hu)).2.1
      | tup es =>
        rw [Rp] at he; obtain ⟨b, ws, rfl, k2, _⟩ := he; cases rv
        obtain ⟨jts, _, hl⟩ := rp_tuple I k2
        simp only [peq]; exact ⟨EqAt.list_tuple ht hl (by omega), RcAt.list_tuple ht hl (by omega), RcNeAt.list_tuple ht hl (by omega)⟩
      | lst es =>
        have he0 := he
        rw [Rp] at he; obtain ⟨b, ws, rfl, k2, ks⟩ := he; cases rv
        obtain ⟨jts, rJ, hj⟩ := rp_list I k2
        have l1 := hs.length.trans rI.length
        have l2 := ks.length.trans rJ.length
        have items := eq_items4 (A := A.in1) (s := s) hs ks rI rJ fun i d e e1 e2 x y u v h1 h2 h3 h4 => (ih A.in1 d e x y u v (by have := dep_le e1; omega) (by rw [in1_units]; omega) h1 h2 h3 h4).1
        have key : RcAt A s (.ref a) (.ref b) (peqs ds es) ∧ RcNeAt A s (.ref a) (.ref b) (!peqs ds es) := by
          by_cases hl : ds.length = es.length
          · have hz : its.toArray.size = jts.toArray.size := by simp only [List.size_toArray]; omega
            have e1 : its.toArray.size = ds.length := by simp [l1]
            have q1 := RcAt.lists ht hj hz (by omega) items
            have q2 := RcNeAt.lists ht hj hz (by omega) items
            rw [e1] at q1 q2
            rw [peqs_all ds es hl]
            exact ⟨q1, q2⟩
          · have hz : (its.toArray.size != jts.toArray.size) = true := by
              rw [bne_iff_ne]
              simp only [List.size_toArray]
              omega
            rw [peqs_len ds es hl]
            exact ⟨RcAt.lists_lengths ht hj hz (by omega), RcNeAt.lists_lengths ht hj hz (by omega)⟩
        simp only [peq]
        refine ⟨?_, key.1, key.2⟩
        by_cases ab : a = b
        · subst ab
          have := Rp.inj I hd0 he0
          injection this with this
          subst this
          rw [peqs_refl]
          exact EqAt.same _
        · exact EqAt.of_refs ab key.1
end
end L4
set_option Elab.async false
set_option linter.all false
set_option maxRecDepth 100000
namespace L4
open PySem PySem.Spec PyProof.Rows L2 L3
inductive Ent where
  | un | sh (d : D) | ow (ds : List D) | rf (p : Addr) | ut (u : U)
inductive MO where
  | lst (ds : List D) | dct (kvs : List (Key × D)) | xc (C : Addr) | op (φ : HO → Prop) | own (us : List U) | tk (kvs : List (D × D)) | tab (pos : Pos) (q : Str)
noncomputable abbrev Rho := List Ent
noncomputable abbrev Mm := Addr → Option MO
noncomputable def mset (M : Mm) (p : Addr) (o : MO) : Mm := fun q => if q = p then some o else M q
private theorem mset_same {M : Mm} {p : Addr} {o : MO} : mset M p o p = some o := by unfold mset; rw [if_pos rfl]
private theorem mset_ne {M : Mm} {p q : Addr} {o : MO} (h : q ≠ p) : mset M p o q = M q := by unfold mset; rw [if_neg h]
noncomputable def KVp (K : PySem.W.Frag) (F : Hp) (kvs : List (Key × D)) (ws : List (Key × V)) : Prop := Paired (fun (p : Key × D) (q : Key × V) => p.1 = q.1 ∧ Rp K F p.2 q.2) kvs ws
mutual
noncomputable def kOk : D → Bool
  | .int _ => true
  | .tup ds => kOks ds
  | .non => false
  | .bl _ => false
  | .str _ => false
  | .emp => false
  | .lst _ => false
noncomputable def kOks : List D → Bool
  | [] => true
  | d :: ds => kOk d && kOks ds
end
noncomputable def TKp (K : PySem.W.Frag) (F : Hp) (kvs : List (D × D)) (xs : List (D × Addr × Value)) : Prop := Paired (fun (q : D × D) (x : D × Addr × Value) => q.1 = x.1 ∧ (kOk q.1 = true ∧ dep q.1 ≤ 8) ∧ Rp K F q.1 (.ref x.2.1) ∧ ∃ v, RelV v x.2.2 ∧ Rp K F q.2 v) kvs xs
private theorem TKp.same {K : PySem.W.Frag} {F F' : Hp} (e : Same F F') {kvs : List (D × D)} {xs : List (D × Addr × Value)} (h : TKp K F kvs xs) : TKp K F' kvs xs :=
  Paired.mapP h fun _ _ z => ⟨z.1, z.2.1, Rp.same e z.2.2.1, z.2.2.2.elim fun v q => ⟨v, q.1, Rp.same e q.2⟩⟩
noncomputable def MOk (K : PySem.W.Frag) (F H : Hp) (p : Addr) : MO → Prop
  | .lst ds => ∃ vs, H p = some (.lst vs) ∧ Rps K F ds vs
  | .dct kvs => ∃ ws, H p = some (.dK ws) ∧ KVp K F kvs ws
  | .xc C => H p = some (.ext (IsX p C))
  | .op φ => ∃ o, H p = some o ∧ φ o
  | .own us => ∃ vs, H p = some (.lst vs) ∧ RUs K F us vs
  | .tk kvs => ∃ xs, H p = some (.ext (IsDT p xs)) ∧ TKp K F kvs xs
  | .tab pos q => ∃ ps, H p = some (.tbl ps) ∧ TabOk F pos q ps
structure AgM (K : PySem.W.Frag) (Z F : Hp) (M : Mm) (H : Hp) : Prop where
  sm : Same F H
  zz : ∀ p o, Z p = some o → H p = some o ∧ F p = none ∧ M p = none
  mo : ∀ p o, M p = some o → F p = none ∧ MOk K F H p o
noncomputable def EOk (K : PySem.W.Frag) (Z F : Hp) (M : Mm) (H : Hp) : Ent → Option V → Prop
  | .un, _ => True
  | .sh d, o => ∃ v, o = some v ∧ Rp K F d v
  | .rf p, o => o = some (.ref p)
  | .ut u, o => ∃ v, o = some v ∧ RU K F u v
  | .ow ds, o => ∃ p vs, o = some (.ref p) ∧ H p = some (.lst vs) ∧ F p = none ∧ M p = none ∧ Z p = none ∧ Rps K F ds vs
structure Ag (K : PySem.W.Frag) (Z F : Hp) (M : Mm) (H : Hp) (ρ : Rho) (σ : L2.St) : Prop where
  m : AgM K Z F M H
  len : ρ.length = σ.length
  en : ∀ (i : Nat) (e : Ent), ρ[i]? = some e → EOk K Z F M H e (σ[i]?).join
  di : ∀ (i j : Nat) (ds es : List D) (p : Addr), i ≠ j → ρ[i]? = some (.ow ds) → ρ[j]? = some (.ow es) → σ[i]? = some (some (.ref p)) → σ[j]? ≠ some (some (.ref p))
private theorem KVp.same {K : PySem.W.Frag} {F F' : Hp} (e : Same F F') {kvs : List (Key × D)} {ws : List (Key × V)} (h : KVp K F kvs ws) : KVp K F' kvs ws := Paired.mapP h fun _ _ z => ⟨z.1, Rp.same e z.2⟩
private theorem MOk.same {K : PySem.W.Frag} {F F' H H' : Hp} {p : Addr} {o : MO} (e : Same F F') (h : H' p = H p) (k : MOk K F H p o) : MOk K F' H' p o := by
  cases o with
  | lst ds => obtain ⟨vs, a, b⟩ := k; exact ⟨vs, h.trans a, Rps.same e b⟩
  | dct kvs => obtain ⟨vs, a, b⟩ := k; exact ⟨vs, h.trans a, KVp.same e b⟩
  | xc C => exact h.trans k
  | op φ => obtain ⟨o, a, b⟩ := k; exact ⟨o, h.trans a, b⟩
  | own us => obtain ⟨vs, a, b⟩ := k; exact ⟨vs, h.trans a, RUs.same e b⟩
  | tk kvs => obtain ⟨vs, a, b⟩ := k; exact ⟨vs, h.trans a, TKp.same e b⟩
  | tab pos q =>
    obtain ⟨ps, a, b1, b2⟩ := k
    refine ⟨ps, h.trans a, b1, ?_⟩
    rcases b2 with b2 | ⟨c, b3, b4⟩
    · exact .inl b2
    · exact .inr ⟨c, b3, e _ _ b4⟩
private theorem MOk.there {K : PySem.W.Frag} {F H : Hp} {p : Addr} {o : MO} (k : MOk K F H p o) : ∃ u, H p = some u := by
  cases o with
  | lst ds => obtain ⟨vs, a, b⟩ := k; exact ⟨_, a⟩
  | dct kvs => obtain ⟨vs, a, b⟩ := k; exact ⟨_, a⟩
  | xc C => exact ⟨_, k⟩
  | op φ => obtain ⟨o, a, b⟩ := k; exact ⟨o, a⟩
  | own us => obtain ⟨vs, a, b⟩ := k; exact ⟨_, a⟩
  | tk kvs => obtain ⟨vs, a, b⟩ := k; exact ⟨_, a⟩
  | tab pos q => obtain ⟨ps, a, b⟩ := k; exact ⟨_, a⟩
section
variable {K : PySem.W.Frag} {Z F F' H H' : Hp} {M : Mm} {ρ : Rho} {σ : L2.St}
private theorem AgM.grow (a : AgM K Z F M H) (hF : Same F F') (hH : Same H H') (sm : Same F' H') (new : ∀ p, F p = none → H p ≠ none → F' p = none) : AgM K Z F' M H' := by
  refine ⟨sm, fun p o h => ?_, fun p o h => ?_⟩
  · obtain ⟨z1, z2, z3⟩ := a.zz p o h
    exact ⟨hH _ _ z1, new p z2 (by rw [z1]; simp), z3⟩
  obtain ⟨n, k⟩ := a.mo p o h
  obtain ⟨u, hu⟩ := k.there
  refine ⟨new p n (by rw [hu]; simp), k.same hF ?_⟩
  rw [hu]; exact hH _ _ hu
private theorem Ag.grow (a : Ag K Z F M H ρ σ) (hF : Same F F') (hH : Same H H') (sm : Same F' H') (new : ∀ p, F p = none → H p ≠ none → F' p = none) : Ag K Z F' M H' ρ σ := by
  refine ⟨a.m.grow hF hH sm new, a.len, fun i e h => ?_, a.di⟩
  have := a.en i e h
  cases e with
  | un => trivial
  | sh d => obtain ⟨v, h1, h2⟩ := this; exact ⟨v, h1, Rp.same hF h2⟩
  | rf p => exact this
  | ut u => obtain ⟨v, h1, h2⟩ := this; exact ⟨v, h1, RU.same hF h2⟩
  | ow ds => obtain ⟨p, vs, h1, h2, h3, h4, h6, h5⟩ := this; exact ⟨p, vs, h1, hH _ _ h2, new p h3 (by rw [h2]; simp), h4, h6, Rps.same hF h5⟩
private theorem same_upd {p : Addr} {o : HO} (sm : Same F H) (hp : H p = none) : Same (upd F p o) (upd H p o) := fun b u e => by
  by_cases hb : b = p
  · subst hb; rw [upd_same] at *; exact e
  · rw [upd_ne hb] at *; exact sm b u e
private theorem sub_none {p : Addr} (sm : Same F H) (hp : H p = none) : F p = none := by
  cases e : F p with
  | none => rfl
  | some u => rw [sm _ _ e] at hp; cases hp
private theorem Ag.new {p : Addr} {o : HO} (a : Ag K Z F M H ρ σ) (hp : H p = none) : Ag K Z (upd F p o) M (upd H p o) ρ σ :=
  a.grow (Same.new (sub_none a.m.sm hp)) (Same.new hp) (same_upd a.m.sm hp) fun q h1 h2 => by
    have : q ≠ p := fun z => h2 (z ▸ hp)
    rw [upd_ne this]; exact h1
private theorem Ag.newO {p : Addr} {o : HO} (a : Ag K Z F M H ρ σ) (hp : H p = none) : Ag K Z F M (upd H p o) ρ σ :=
  a.grow (Same.refl _) (Same.new hp) (a.m.sm.trans (Same.new hp)) fun q h1 _ => h1
private theorem Ag.put {i : Nat} {e : Ent} {o : Option V} (a : Ag K Z F M H ρ σ) (h : EOk K Z F M H e o) (hd : ∀ (ds : List D) (p : Addr), e = .ow ds → o = some (.ref p) → ∀ (j : Nat) (es : List D), j ≠ i → ρ[j]? = some (.ow es) → σ[j]? ≠ some (some (.ref p))) : Ag K Z F M H (ρ.set i e) (σ.set i o) := by
  refine ⟨a.m, by rw [List.length_set, List.length_set, a.len], fun j e' q => ?_, fun j k ds es p ne q1 q2 q3 => ?_⟩
  · by_cases hj : j = i
    · subst hj
      have hl : j < ρ.length := by
        have := (List.getElem?_eq_some_iff.mp q).1
        rwa [List.length_set] at this
      rw [List.getElem?_set_self hl] at q
      cases q
      rw [List.getElem?_set_self (by rw [← a.len]; exact hl)]
      exact h
    · rw [List.getElem?_set_ne (Ne.symm hj)] at q ⊢
      exact a.en j e' q
  · have hl : ∀ {j : Nat} {x : Ent}, (ρ.set i e)[j]? = some x → j < ρ.length := fun q => by
      have := (List.getElem?_eq_some_iff.mp q).1
      rwa [List.length_set] at this
    by_cases hj : j = i
    · subst hj
      have hk : k ≠ j := Ne.symm ne
      rw [List.getElem?_set_self (hl q1)] at q1
      cases q1
      have hl3 : j < σ.length := by
        have := (List.getElem?_eq_some_iff.mp q3).1
        rwa [List.length_set] at this
      rw [List.getElem?_set_self hl3] at q3
      rw [List.getElem?_set_ne (Ne.symm hk)] at q2 ⊢
      injection q3 with q3
      exact hd ds p rfl q3 k es hk q2
    · by_cases hk : k = i
      · subst hk
        rw [List.getElem?_set_self (hl q2)] at q2
        cases q2
        rw [List.getElem?_set_ne (Ne.symm hj)] at q1 q3
        intro q4
        rw [List.getElem?_set_self (by
          have := (List.getElem?_eq_some_iff.mp q4).1
          rw [List.length_set] at this
          exact this)] at q4
        injection q4 with q4
        exact hd es p rfl q4 j ds hj q1 q3
      · rw [List.getElem?_set_ne (Ne.symm hj)] at q1 q3
        rw [List.getElem?_set_ne (Ne.symm hk)] at q2 ⊢
        exact a.di j k ds es p ne q1 q2 q3
private theorem Ag.set {i : Nat} {d : D} {v : V} (a : Ag K Z F M H ρ σ) (h : Rp K F d v) : Ag K Z F M H (ρ.set i (.sh d)) (σ.set i (some v)) := a.put ⟨v, rfl, h⟩ fun _ _ z => nomatch z
private theorem Ag.setO {i : Nat} {ds : List D} {p : Addr} {vs : List V} (a : Ag K Z F M H ρ σ) (h1 : H p = some (.lst vs)) (h2 : F p = none) (h3 : M p = none) (hz : Z p = none) (h4 : Rps K F ds vs) (h5 : ∀ (j : Nat) (es : List D), ρ[j]? = some (.ow es) → σ[j]? ≠ some (some (.ref p))) : Ag K Z F M H (ρ.set i (.ow ds)) (σ.set i (some (.ref p))) :=
  a.put ⟨p, vs, rfl, h1, h2, h3, hz, h4⟩ fun _ q _ z j es _ hj => by cases z; exact h5 j es hj
private theorem set_id {α : Type} : ∀ {l : List α} {i : Nat} {x : α}, l[i]? = some x → l.set i x = l
  | [], _, _, h => by simp at h
  | _ :: _, 0, _, h => by simp at h; subst h; rfl
  | _ :: l, i + 1, _, h => by rw [List.set_cons_succ, set_id (by simpa using h)]
private theorem Ag.fz {i : Nat} {ds : List D} (a : Ag K Z F M H ρ σ) (h : ρ[i]? = some (.ow ds)) : ∃ F' v, σ[i]? = some (some v) ∧ Same F F' ∧ Rp K F' (.lst ds) v ∧ Ag K Z F' M H (ρ.set i (.sh (.lst ds))) σ := by
  have hi := a.en i _ h
  obtain ⟨p, vs, h1, h2, h3, h4, h6, h5⟩ := hi
  have hs : σ[i]? = some (some (.ref p)) := by
    cases q : σ[i]? with
    | none => rw [q] at h1; cases h1
    | some o => rw [q] at h1; simp at h1; rw [h1]
  have s1 : Same F (upd F p (.lst vs)) := Same.new h3
  have r : Rp K (upd F p (.lst vs)) (.lst ds) (.ref p) := by rw [Rp]; exact ⟨p, vs, rfl, .inl upd_same, Rps.same s1 h5⟩
  refine ⟨upd F p (.lst vs), .ref p, hs, s1, r, ?_⟩
  have s2 : Same (upd F p (.lst vs)) H := fun b u e => by
    by_cases hb : b = p
    · subst hb; rw [upd_same] at e; cases e; exact h2
    · rw [upd_ne hb] at e; exact a.m.sm b u e
  have nm : ∀ q o, M q = some o → q ≠ p := fun q o e z => by rw [z, h4] at e; cases e
  have e2 : σ = σ.set i (some (.ref p)) := (set_id hs).symm
  have hi' : i < ρ.length := (List.getElem?_eq_some_iff.mp h).1
  refine ⟨⟨s2, fun q o e => ?_, fun q o e => ?_⟩, by rw [List.length_set]; exact a.len, fun j e q => ?_, fun j k es fs q ne q1 q2 q3 => ?_⟩
  · obtain ⟨z1, z2, z3⟩ := a.m.zz q o e
    have : q ≠ p := fun z => by rw [z, h6] at e; cases e
    exact ⟨z1, by rw [upd_ne this]; exact z2, z3⟩
  · obtain ⟨z1, z2⟩ := a.m.mo q o e
    exact ⟨by rw [upd_ne (nm q o e)]; exact z1, z2.same s1 rfl⟩
  · by_cases hj : j = i
    · subst hj
      rw [List.getElem?_set_self hi'] at q
      cases q
      exact ⟨.ref p, by rw [hs]; rfl, r⟩
    · rw [List.getElem?_set_ne (Ne.symm hj)] at q
      have := a.en j e q
      cases e with
      | un => trivial
      | sh d => obtain ⟨v, g1, g2⟩ := this; exact ⟨v, g1, Rp.same s1 g2⟩
      | rf p => exact this
      | ut u => obtain ⟨v, g1, g2⟩ := this; exact ⟨v, g1, RU.same s1 g2⟩
      | ow es =>
        obtain ⟨q', ws, g1, g2, g3, g4, g6, g5⟩ := this
        have hne : q' ≠ p := fun z => by
          subst z
          have hj' : σ[j]? = some (some (.ref q')) := by
            cases y : σ[j]? with
            | none => rw [y] at g1; cases g1
            | some o => rw [y] at g1; simp at g1; rw [g1]
          exact a.di i j ds es q' (Ne.symm hj) h q hs hj'
        exact ⟨q', ws, g1, g2, by rw [upd_ne hne]; exact g3, g4, g6, Rps.same s1 g5⟩
  · have n1 : j ≠ i := fun z => by subst z; rw [List.getElem?_set_self hi'] at q1; cases q1
    have n2 : k ≠ i := fun z => by subst z; rw [List.getElem?_set_self hi'] at q2; cases q2
    rw [List.getElem?_set_ne (Ne.symm n1)] at q1
    rw [List.getElem?_set_ne (Ne.symm n2)] at q2
    exact a.di j k es fs q ne q1 q2 q3
end
end L4
set_option Elab.async false
set_option linter.all false
set_option maxRecDepth 100000
namespace L4
open PySem PySem.Spec PyProof.Rows L2 L3
noncomputable abbrev WE := Rho → Mm → (D → Rho → Mm → Prop) → Prop
noncomputable abbrev WT := Rho → Mm → (Bool → Rho → Mm → Prop) → Prop
noncomputable abbrev WA := Rho → Mm → (List D → Rho → Mm → Prop) → Prop
noncomputable abbrev WN := Rho → Mm → (List D → Rho → Mm → Prop) → Prop
noncomputable abbrev WG := D → Rho → Mm → (Rho → Mm → Prop) → Prop
structure WEnds where
  nx : Rho → Mm → Prop
  rt : U → Mm → Prop
  bk : Rho → Mm → Prop := fun _ _ => False
  ct : Rho → Mm → Prop := fun _ _ => False
noncomputable abbrev WS := WEnds → Rho → Mm → Prop
noncomputable def lf (K : PySem.W.Frag) (f : WE) : TE := fun σ H Q => ∃ Z F ρ M P, Ag K Z F M H ρ σ ∧ f ρ M P ∧ ∀ v H' F' d ρ' M', Same F F' → Ag K Z F' M' H' ρ' σ → Rp K F' d v → P d ρ' M' → Q v H'
noncomputable def lfT (K : PySem.W.Frag) (f : WT) : TT := fun σ H Q => ∃ Z F ρ M P, Ag K Z F M H ρ σ ∧ f ρ M P ∧ ∀ b H' F' ρ' M', Same F F' → Ag K Z F' M' H' ρ' σ → P b ρ' M' → Q b H'
noncomputable def lfA (K : PySem.W.Frag) (f : WA) : TA := fun σ H Q => ∃ Z F ρ M P, Ag K Z F M H ρ σ ∧ f ρ M P ∧ ∀ vs H' F' ds ρ' M', Same F F' → Ag K Z F' M' H' ρ' σ → Rps K F' ds vs → P ds ρ' M' → Q vs H'
noncomputable def lfN (K : PySem.W.Frag) (f : WN) : TE := fun σ H Q => ∃ Z F ρ M P, Ag K Z F M H ρ σ ∧ f ρ M P ∧ ∀ p vs H' F' ds ρ' M', Same F F' → Ag K Z F' M' H' ρ' σ → H' p = some (.lst vs) → F' p = none → M' p = none → Z p = none → (∀ (j : Nat) (es : List D), ρ'[j]? = some (.ow es) → σ[j]? ≠ some (some (.ref p))) → Rps K F' ds vs → P ds ρ' M' → Q (.ref p) H'
noncomputable def lfG (K : PySem.W.Frag) (f : WG) : TG := fun v σ H Q => ∃ Z F ρ M d P, Ag K Z F M H ρ σ ∧ Rp K F d v ∧ f d ρ M P ∧ ∀ σ' H' F' ρ' M', Same F F' → Ag K Z F' M' H' ρ' σ' → P ρ' M' → Q σ' H'
structure EndsOk (K : PySem.W.Frag) (Z F : Hp) (E : WEnds) (D' : Ends) : Prop where
  nx : ∀ σ' H' F' ρ' M', Same F F' → Ag K Z F' M' H' ρ' σ' → E.nx ρ' M' → D'.nx σ' H'
  bk : ∀ σ' H' F' ρ' M', Same F F' → Ag K Z F' M' H' ρ' σ' → E.bk ρ' M' → D'.bk σ' H'
  ct : ∀ σ' H' F' ρ' M', Same F F' → Ag K Z F' M' H' ρ' σ' → E.ct ρ' M' → D'.ct σ' H'
  rt : ∀ v H' F' u M', Same F F' → AgM K Z F' M' H' → RU K F' u v → E.rt u M' → D'.rt v H'
noncomputable def lfS (K : PySem.W.Frag) (f : WS) : TS := fun D' σ H => ∃ Z F ρ M E, Ag K Z F M H ρ σ ∧ f E ρ M ∧ EndsOk K Z F E D'
structure JE (X : Cx) (e : Expr) (f : WE) : Prop where
  h : PE X e (lf X.K f)
structure JT (X : Cx) (e : Expr) (f : WT) : Prop where
  h : PT X e (lfT X.K f)
structure JW (X : Cx) (e : Expr) (f : WT) : Prop where
  h : PW X e (lfT X.K f)
structure JA (X : Cx) (es : List Expr) (f : WA) : Prop where
  h : PA X es (lfA X.K f)
structure JN (X : Cx) (e : Expr) (f : WN) : Prop where
  h : PE X e (lfN X.K f)
structure JG (X : Cx) (e : Expr) (f : WG) : Prop where
  h : PG X e (lfG X.K f)
structure JS (X : Cx) (st : Stmt) (f : WS) : Prop where
  h : PS X st (lfS X.K f)
structure JSs (X : Cx) (st : List Stmt) (f : WS) : Prop where
  h : PSs X st (lfS X.K f)
private theorem imE {X : Cx} {e : Expr} {t t' : TE} (h : PE X e t) (k : ∀ σ H Q, t' σ H Q → t σ H Q) : PE X e t' := fun pins s σ H Q I q => h pins s σ H Q I (k σ H Q q)
private theorem imT {X : Cx} {e : Expr} {t t' : TT} (h : PT X e t) (k : ∀ σ H Q, t' σ H Q → t σ H Q) : PT X e t' := fun pins s σ H Q I q => h pins s σ H Q I (k σ H Q q)
private theorem imW {X : Cx} {e : Expr} {t t' : TT} (h : PW X e t) (k : ∀ σ H Q, t' σ H Q → t σ H Q) : PW X e t' := fun w pins s σ H Q I q => h w pins s σ H Q I (k σ H Q q)
private theorem imA {X : Cx} {e : List Expr} {t t' : TA} (h : PA X e t) (k : ∀ σ H Q, t' σ H Q → t σ H Q) : PA X e t' := fun pos pins s σ H Q I q => h pos pins s σ H Q I (k σ H Q q)
private theorem imS {X : Cx} {st : Stmt} {t t' : TS} (h : PS X st t) (k : ∀ D' σ H, t' D' σ H → t D' σ H) : PS X st t' := fun pins s σ H D' I q => h pins s σ H D' I (k D' σ H q)
private theorem imSs {X : Cx} {st : List Stmt} {t t' : TS} (h : PSs X st t) (k : ∀ D' σ H, t' D' σ H → t D' σ H) : PSs X st t' := fun pins s σ H D' I q => h pins s σ H D' I (k D' σ H q)
private theorem imG {X : Cx} {e : Expr} {t t' : TG} (h : PG X e t) (k : ∀ v σ H Q, t' v σ H Q → t v σ H Q) : PG X e t' := fun pins s σ H v u Q I r q => h pins s σ H v u Q I r (k v σ H Q q)
inductive Gw (F H : Hp) : Hp → Hp → Prop where
  | rf : Gw F H F H
  | nw {p : Addr} {o : HO} (hp : H p = none) : Gw F H (upd F p o) (upd H p o)
private theorem Gw.same {F H F' H' : Hp} (sm : Same F H) (g : Gw F H F' H') : Same F F' := by
  cases g with
  | rf => exact Same.refl _
  | nw hp => exact Same.new (sub_none sm hp)
private theorem Gw.ag {K : PySem.W.Frag} {Z F H F' H' : Hp} {M : Mm} {ρ : Rho} {σ : L2.St} (a : Ag K Z F M H ρ σ) (g : Gw F H F' H') : Ag K Z F' M H' ρ σ := by
  cases g with
  | rf => exact a
  | nw hp => exact a.new hp
section
variable {X : Cx} {a b c e : Expr} {es rest : List Expr} {pos : Pos} {fa fb fe : WE} {ft fu : WT} {fl : WA} {fn : WN}
noncomputable def wV (i : Nat) : WE := fun ρ M P => match ρ[i]? with
  | some (.sh d) => P d ρ M
  | some (.ow ds) => P (.lst ds) (ρ.set i (.sh (.lst ds))) M
  | _ => False
private theorem je_of_var {i : Nat} (h : PE X e (tVar i)) : JE X e (wV i) := ⟨imE h fun σ H Q hh => ex5 hh fun Z F ρ M P ag hf k => by
  unfold wV at hf
  split at hf
  · rename_i d hd
    obtain ⟨v, h1, h2⟩ := ag.en i _ hd
    refine ⟨v, ?_, k v H F d ρ M (Same.refl _) ag h2 hf⟩
    cases q : σ[i]? with
    | none => rw [q] at h1; cases h1
    | some o => rw [q] at h1; simp at h1; rw [h1]
  · rename_i ds hd
    obtain ⟨F', v, h1, h2, h3, h4⟩ := ag.fz hd
    exact ⟨v, h1, k v H F' _ _ M h2 h4 h3 hf⟩
  · exact hf.elim⟩
private theorem jv (i : Nat) {x : Str} (hN : X.N[i]? = some x := by rfl) (hv : Vis X.env.scope x := by first | exact Or.inl rfl | exact Or.inr (Or.inl rfl) | exact Or.inr (Or.inr rfl)) (hd : (x == ("__debug__" : Str)) = false := by decide) (hcd : (x == ("__classdict__" : Str)) = false := by decide) : JE X (.Name x pos) (wV i) := je_of_var (L2.pv i hN hv hd hcd)
noncomputable def wC (d : D) : WE := fun ρ M P => P d ρ M
private theorem je_of_c {d : D} {v : V} (h : PE X e (tC v)) (r : ∀ F, Rp X.K F d v) : JE X e (wC d) := ⟨imE h fun σ H Q hh => ex5 hh fun Z F ρ M P ag hf k => k v H F d ρ M (Same.refl _) ag (r F) hf⟩
private theorem j_int {i : Int} {j : Nat} : JE X (.Constant (.int i) j pos) (wC (.int i)) := je_of_c pe_int fun F => by rw [Rp]
private theorem j_bl {i : Bool} {j : Nat} : JE X (.Constant (.bool i) j pos) (wC (.bl i)) := je_of_c pe_bl fun F => by rw [Rp]
private theorem j_str {i : Str} {j : Nat} : JE X (.Constant (.str i) j pos) (wC (.str i)) := je_of_c pe_str fun F => by rw [Rp]
private theorem j_non {j : Nat} : JE X (.Constant .none j pos) (wC .non) := je_of_c pe_non fun F => by rw [Rp]
noncomputable def OpW (X : Cx) (r : R2) (R : D → D → (D → Prop) → Prop) : Prop := ∀ (x y : D) (v u : V) (F H : Hp) (Q : VK) (P : D → Prop), Same F H → Rp X.K F x v → Rp X.K F y u → R x y P → (∀ d w F' H', Gw F H F' H' → Rp X.K F' d w → P d → Q w H') → r v u H Q
noncomputable def UnW (X : Cx) (r : V → Hp → VK → Prop) (R : D → (D → Prop) → Prop) : Prop := ∀ (x : D) (v : V) (F H : Hp) (Q : VK) (P : D → Prop), Same F H → Rp X.K F x v → R x P → (∀ d w F' H', Gw F H F' H' → Rp X.K F' d w → P d → Q w H') → r v H Q
noncomputable def CaW (X : Cx) (r : List V → Hp → VK → Prop) (R : List D → (D → Prop) → Prop) : Prop := ∀ (xs : List D) (vs : List V) (F H : Hp) (Q : VK) (P : D → Prop), Same F H → Rps X.K F xs vs → R xs P → (∀ d w F' H', Gw F H F' H' → Rp X.K F' d w → P d → Q w H') → r vs H Q
noncomputable def wOp (R : D → D → (D → Prop) → Prop) (fa fb : WE) : WE := fun ρ M P => fa ρ M fun x ρ1 M1 => fb ρ1 M1 fun y ρ2 M2 => R x y fun d => P d ρ2 M2
noncomputable def wUn (R : D → (D → Prop) → Prop) (fa : WE) : WE := fun ρ M P => fa ρ M fun x ρ1 M1 => R x fun d => P d ρ1 M1
noncomputable def wCall (R : List D → (D → Prop) → Prop) (fl : WA) : WE := fun ρ M P => fl ρ M fun xs ρ1 M1 => R xs fun d => P d ρ1 M1
private theorem of_op {r : R2} {R : D → D → (D → Prop) → Prop} (w : OpW X r R) {fa fb : WE} : ∀ σ H Q, lf X.K (wOp R fa fb) σ H Q → tOp r (lf X.K fa) (lf X.K fb) σ H Q := fun σ H Q hh => ex5 hh fun Z F ρ M P ag hf k =>
  ⟨Z, F, ρ, M, _, ag, hf, fun v H1 F1 d1 ρ1 M1 s1 ag1 r1 h1 => ⟨Z, F1, ρ1, M1, _, ag1, h1, fun u H2 F2 d2 ρ2 M2 s2 ag2 r2 h2 =>
    w d1 d2 v u F2 H2 Q _ ag2.m.sm (r1.same s2) r2 h2 fun d w F' H' g rp hp => k w H' F' d ρ2 M2 (s1.trans (s2.trans (g.same ag2.m.sm))) (g.ag ag2) rp hp⟩⟩
private theorem of_un {r : V → Hp → VK → Prop} {R : D → (D → Prop) → Prop} (w : UnW X r R) {fa : WE} : ∀ σ H Q, lf X.K (wUn R fa) σ H Q → tUn r (lf X.K fa) σ H Q := fun σ H Q hh => ex5 hh fun Z F ρ M P ag hf k =>
  ⟨Z, F, ρ, M, _, ag, hf, fun v H1 F1 d1 ρ1 M1 s1 ag1 r1 h1 => w d1 v F1 H1 Q _ ag1.m.sm r1 h1 fun d w F' H' g rp hp => k w H' F' d ρ1 M1 (s1.trans (g.same ag1.m.sm)) (g.ag ag1) rp hp⟩
private theorem of_call {r : List V → Hp → VK → Prop} {R : List D → (D → Prop) → Prop} (w : CaW X r R) {fl : WA} : ∀ σ H Q, lf X.K (wCall R fl) σ H Q → tCB r (lfA X.K fl) σ H Q := fun σ H Q hh => ex5 hh fun Z F ρ M P ag hf k =>
  ⟨Z, F, ρ, M, _, ag, hf, fun v H1 F1 d1 ρ1 M1 s1 ag1 r1 h1 => w d1 v F1 H1 Q _ ag1.m.sm r1 h1 fun d w F' H' g rp hp => k w H' F' d ρ1 M1 (s1.trans (g.same ag1.m.sm)) (g.ag ag1) rp hp⟩
private theorem j_op {op : Operator} {r : R2} {R : D → D → (D → Prop) → Prop} (o : OpR X (binaryOp op) r) (w : OpW X r R) (ha : JE X a fa) (hb : JE X b fb) : JE X (.BinOp a op b pos) (wOp R fa fb) := ⟨imE (pe_op o ha.h hb.h) (of_op w)⟩
private theorem j_un {op : UnaryOp} {r : V → Hp → VK → Prop} {R : D → (D → Prop) → Prop} (o : UnR X (unaryOp op) r) (w : UnW X r R) (ha : JE X a fa) : JE X (.UnaryOp op a pos) (wUn R fa) := ⟨imE (pe_un o ha.h) (of_un w)⟩
private theorem j_cmp {op : CmpOp} {r : R2} {R : D → D → (D → Prop) → Prop} (o : OpR X (compareOp op) r) (w : OpW X r R) (ha : JE X a fa) (hb : JE X b fb) (hm : behindInMarks op b = false) : JE X (.Compare a [op] [b] pos) (wOp R fa fb) := ⟨imE (pe_cmpR o ha.h hb.h hm) (of_op w)⟩
private theorem j_ix {r : R2} {R : D → D → (D → Prop) → Prop} (o : IxR X r) (w : OpW X r R) (ha : JE X a fa) (hb : JE X b fb) (hs : PlainIx b) : JE X (.Subscript a b pos) (wOp R fa fb) := ⟨imE (pe_ix o ha.h hb.h hs) (of_op w)⟩
noncomputable def RI (C : Int → Int → Prop) (g : Int → Int → D) : D → D → (D → Prop) → Prop := fun x y P => match x, y with
  | .int i, .int j => C i j ∧ P (g i j)
  | _, _ => False
noncomputable def RI0 (g : Int → Int → D) : D → D → (D → Prop) → Prop := fun x y P => match x, y with
  | .int i, .int j => P (g i j)
  | _, _ => False
noncomputable def dI : V → D → Prop := fun v d => match v, d with
  | .int i, .int j => i = j
  | .bl i, .bl j => i = j
  | _, _ => False
private theorem dI.rp {K : PySem.W.Frag} {F : Hp} {v : V} {d : D} (h : dI v d) : Rp K F d v := by
  unfold dI at h
  split at h
  · subst h; rw [Rp]
  · subst h; rw [Rp]
  · exact h.elim
private theorem w_I {C : Int → Int → Prop} {g : Int → Int → V} {g' : Int → Int → D} (e : ∀ i j, dI (g i j) (g' i j)) : OpW X (rI C g) (RI C g') := by
  intro x y v u F H Q P sm rx ry h k
  unfold RI at h
  split at h
  · rename_i i j
    rw [Rp] at rx ry
    exact ⟨i, j, rx, ry, h.1, k _ _ F H .rf (e i j).rp h.2⟩
  · exact h.elim
private theorem w_I0 {g : Int → Int → V} {g' : Int → Int → D} (e : ∀ i j, dI (g i j) (g' i j)) : OpW X (rI0 g) (RI0 g') := by
  intro x y v u F H Q P sm rx ry h k
  unfold RI0 at h
  split at h
  · rename_i i j
    rw [Rp] at rx ry
    exact ⟨i, j, rx, ry, k _ _ F H .rf (e i j).rp h⟩
  · exact h.elim
noncomputable def CM (i j : Int) : Prop := CMul i j ∨ CMulS i j
private theorem op_mulA : OpR X (binaryOp .Mult) (rI CM fun i j => .int (i * j)) := by
  intro pins s σ H x y u v Q I rx ry h
  obtain ⟨i, j, h1, h2, h3, h4⟩ := h
  rcases h3 with h3 | h3
  · exact op_mul pins s σ H x y u v Q I rx ry ⟨i, j, h1, h2, h3, h4⟩
  · exact op_mulS pins s σ H x y u v Q I rx ry ⟨i, j, h1, h2, h3, h4⟩
private theorem j_add (ha : JE X a fa) (hb : JE X b fb) : JE X (.BinOp a .Add b pos) (wOp (RI0 fun i j => .int (i + j)) fa fb) := j_op op_add (w_I0 fun _ _ => rfl) ha hb
private theorem j_sub (ha : JE X a fa) (hb : JE X b fb) : JE X (.BinOp a .Sub b pos) (wOp (RI0 fun i j => .int (i - j)) fa fb) := j_op op_sub (w_I0 fun _ _ => rfl) ha hb
private theorem j_mul (ha : JE X a fa) (hb : JE X b fb) : JE X (.BinOp a .Mult b pos) (wOp (RI CM fun i j => .int (i * j)) fa fb) := j_op op_mulA (w_I fun _ _ => rfl) ha hb
private theorem j_fdiv (ha : JE X a fa) (hb : JE X b fb) : JE X (.BinOp a .FloorDiv b pos) (wOp (RI CDivS fun i j => .int (i.fdiv j)) fa fb) := j_op op_fdivS (w_I fun _ _ => rfl) ha hb
private theorem j_mod (ha : JE X a fa) (hb : JE X b fb) : JE X (.BinOp a .Mod b pos) (wOp (RI (fun _ j => j ≠ 0) fun i j => .int (i.fmod j)) fa fb) := j_op op_modN (w_I fun _ _ => rfl) ha hb
private theorem j_pow (ha : JE X a fa) (hb : JE X b fb) : JE X (.BinOp a .Pow b pos) (wOp (RI CPow fun i j => .int (i ^ j.toNat)) fa fb) := j_op op_pow (w_I fun _ _ => rfl) ha hb
private theorem j_lt (ha : JE X a fa) (hb : JE X b fb) : JE X (.Compare a [.Lt] [b] pos) (wOp (RI0 fun i j => .bl (decide (i < j))) fa fb) := j_cmp op_lt (w_I0 fun _ _ => rfl) ha hb (nomark _)
private theorem j_gt (ha : JE X a fa) (hb : JE X b fb) : JE X (.Compare a [.Gt] [b] pos) (wOp (RI0 fun i j => .bl (decide (j < i))) fa fb) := j_cmp op_gt (w_I0 fun _ _ => rfl) ha hb (nomark _)
private theorem j_ge (ha : JE X a fa) (hb : JE X b fb) : JE X (.Compare a [.GtE] [b] pos) (wOp (RI0 fun i j => .bl (decide (j ≤ i))) fa fb) := j_cmp op_ge (w_I0 fun _ _ => rfl) ha hb (nomark _)
end
end L4
set_option Elab.async false
set_option linter.all false
set_option maxRecDepth 100000
namespace L4
open PySem PySem.Spec PyProof.Rows L2 L3
section
variable {X : Cx} {a b c e : Expr} {es rest : List Expr} {pos : Pos} {fa fb fe : WE} {ft fu : WT} {fl : WA} {fn : WN}
noncomputable def RE : D → D → (D → Prop) → Prop := fun x y P => dep x ≤ 60 ∧ P (.bl (peq x y))
noncomputable def RNe : D → D → (D → Prop) → Prop := fun x y P => dep x ≤ 60 ∧ P (.bl (!peq x y))
noncomputable def rEq4 (K : PySem.W.Frag) : R2 := fun x y H Q => ∃ d e, Rp K H d x ∧ Rp K H e y ∧ dep d ≤ 60 ∧ Q (.bl (peq d e)) H
noncomputable def rNe4 (K : PySem.W.Frag) : R2 := fun x y H Q => ∃ d e, Rp K H d x ∧ Rp K H e y ∧ dep d ≤ 60 ∧ Q (.bl (!peq d e)) H
private theorem op_eq4 (hu : X.A.units + 60 < cLine) : OpR X (compareOp .Eq) (rEq4 X.K) := by
  intro pins s σ H x y u v Q I rx ry h
  obtain ⟨d, e, hd, he, hn, q⟩ := h
  exact (deep4 I X.A d e x y u v hn hu hd he rx ry).2.1 _ _ _ _ ⟨.bl (peq d e), H, I, rfl, q⟩
private theorem op_ne4 (hu : X.A.units + 60 < cLine) : OpR X (compareOp .NotEq) (rNe4 X.K) := by
  intro pins s σ H x y u v Q I rx ry h
  obtain ⟨d, e, hd, he, hn, q⟩ := h
  exact (deep4 I X.A d e x y u v hn hu hd he rx ry).2.2 _ _ _ _ ⟨.bl (!peq d e), H, I, rfl, q⟩
private theorem w_eq : OpW X (rEq4 X.K) RE := fun x y v u F H Q P sm rx ry h k => ⟨x, y, rx.same sm, ry.same sm, h.1, k _ _ F H .rf (by rw [Rp]) h.2⟩
private theorem w_ne : OpW X (rNe4 X.K) RNe := fun x y v u F H Q P sm rx ry h k => ⟨x, y, rx.same sm, ry.same sm, h.1, k _ _ F H .rf (by rw [Rp]) h.2⟩
noncomputable def RIs (g : Bool → Bool) : D → D → (D → Prop) → Prop := fun x y P => match x, y with
  | .bl i, .bl j => P (.bl (g (i == j)))
  | _, _ => False
private theorem w_isnotB : OpW X (fun x y H Q => ∃ a b, x = .bl a ∧ y = .bl b ∧ Q (.bl (!(a == b))) H) (RIs not) := fun x y v u F H Q P sm rx ry h k => by
  unfold RIs at h
  split at h
  · rw [Rp] at rx ry
    exact ⟨_, _, rx, ry, k _ _ F H .rf (by rw [Rp]) h⟩
  · exact h.elim
private theorem j_eq {k : Nat} (hr : Room k X.A) (ha : JE X a fa) (hb : JE X b fb) : JE X (.Compare a [.Eq] [b] pos) (wOp RE fa fb) := j_cmp (op_eq4 (Room.u60 hr)) w_eq ha hb (nomark _)
noncomputable def RNeg : D → (D → Prop) → Prop := fun x P => match x with
  | .int i => P (.int (-i))
  | _ => False
private theorem j_neg (ha : JE X a fa) : JE X (.UnaryOp .USub a pos) (wUn RNeg fa) := j_un un_neg (fun x v F H Q P sm rx h k => by
  unfold RNeg at h
  split at h
  · rw [Rp] at rx
    exact ⟨_, rx, k _ _ F H .rf (by rw [Rp]) h⟩
  · exact h.elim) ha
noncomputable def wB (f : WE) : WT := fun ρ M P => f ρ M fun d ρ1 M1 => match d with
  | .bl k => P k ρ1 M1
  | _ => False
private theorem of_B {fa : WE} : ∀ σ H Q, lfT X.K (wB fa) σ H Q → tB (lf X.K fa) σ H Q := fun σ H Q hh => ex5 hh fun Z F ρ M P ag hf k => ⟨Z, F, ρ, M, _, ag, hf, fun v H' F' d ρ' M' s' ag' r h => by
  split at h
  · rw [Rp] at r
    exact ⟨_, r, k _ H' F' ρ' M' s' ag' h⟩
  · exact h.elim⟩
private theorem jt (ha : JE X a fa) (he : ∀ whole, isTrue a X.env whole = (do let v ← whole; standAt a.pos; holding [v] (truthy v)) := by intro _; rfl) : JT X a (wB fa) := ⟨imT (pt_val ha.h he) of_B⟩
private theorem jt_cmp {op : CmpOp} {r : R2} {R : D → D → (D → Prop) → Prop} (o : OpR X (compareOp op) r) (w : OpW X r R) (ha : JE X a fa) (hb : JE X b fb) (hm : behindInMarks op b = false) : JT X (.Compare a [op] [b] pos) (wB (wOp R fa fb)) :=
  ⟨imT (pt_cmpR o ha.h hb.h hm) fun σ H Q h => of_op w σ H _ (by
    obtain ⟨Z, F, ρ, M, P, ag, hf, k⟩ := h
    refine ⟨Z, F, ρ, M, _, ag, hf, fun v H' F' d ρ' M' s' ag' r h => ?_⟩
    split at h
    · rw [Rp] at r
      exact ⟨_, r, k _ H' F' ρ' M' s' ag' h⟩
    · exact h.elim)⟩
private theorem jt_lt (ha : JE X a fa) (hb : JE X b fb) : JT X (.Compare a [.Lt] [b] pos) (wB (wOp (RI0 fun i j => .bl (decide (i < j))) fa fb)) := jt_cmp op_lt (w_I0 fun _ _ => rfl) ha hb (nomark _)
private theorem jt_gt (ha : JE X a fa) (hb : JE X b fb) : JT X (.Compare a [.Gt] [b] pos) (wB (wOp (RI0 fun i j => .bl (decide (j < i))) fa fb)) := jt_cmp op_gt (w_I0 fun _ _ => rfl) ha hb (nomark _)
private theorem jt_eq {k : Nat} (hr : Room k X.A) (ha : JE X a fa) (hb : JE X b fb) : JT X (.Compare a [.Eq] [b] pos) (wB (wOp RE fa fb)) := jt_cmp (op_eq4 (Room.u60 hr)) w_eq ha hb (nomark _)
private theorem jt_ne {k : Nat} (hr : Room k X.A) (ha : JE X a fa) (hb : JE X b fb) : JT X (.Compare a [.NotEq] [b] pos) (wB (wOp RNe fa fb)) := jt_cmp (op_ne4 (Room.u60 hr)) w_ne ha hb (nomark _)
private theorem jt_isnotB (ha : JE X a fa) (hb : JE X b fb) : JT X (.Compare a [.IsNot] [b] pos) (wB (wOp (RIs not) fa fb)) := jt_cmp op_isnot_bl w_isnotB ha hb (nomark _)
noncomputable def wNot (f : WT) : WT := fun ρ M P => f ρ M fun b ρ1 M1 => P (!b) ρ1 M1
noncomputable def wAnd (f g : WT) : WT := fun ρ M P => f ρ M fun b ρ1 M1 => if b = true then g ρ1 M1 P else P false ρ1 M1
noncomputable def wOr (f g : WT) : WT := fun ρ M P => f ρ M fun b ρ1 M1 => if b = true then P true ρ1 M1 else g ρ1 M1 P
private theorem jt_not (ha : JT X a ft) : JT X (.UnaryOp .Not a pos) (wNot ft) := ⟨imT (pt_not ha.h) fun σ H Q hh => ex5 hh fun Z F ρ M P ag hf k => ⟨Z, F, ρ, M, _, ag, hf, fun b H' F' ρ' M' s' ag' h => k _ H' F' ρ' M' s' ag' h⟩⟩
private theorem jw_and1 (ha : JT X a ft) : JW X (.BoolOp .And [a] pos) ft := ⟨pw_and1 ha.h⟩
private theorem jw_or1 (ha : JT X a ft) : JW X (.BoolOp .Or [a] pos) ft := ⟨pw_or1 ha.h⟩
private theorem jw_and (ha : JT X a ft) (hb : JW X (.BoolOp .And (b :: rest) pos) fu) : JW X (.BoolOp .And (a :: b :: rest) pos) (wAnd ft fu) := ⟨imW (pw_and ha.h hb.h) fun σ H Q hh => ex5 hh fun Z F ρ M P ag hf k => ⟨Z, F, ρ, M, _, ag, hf, fun b H' F' ρ' M' s' ag' h => by
  cases b with
  | true => rw [if_pos rfl] at h ⊢; exact ⟨Z, F', ρ', M', P, ag', h, fun b H2 F2 ρ2 M2 s2 => k b H2 F2 ρ2 M2 (s'.trans s2)⟩
  | false => rw [if_neg Bool.false_ne_true] at h ⊢; exact k _ H' F' ρ' M' s' ag' h⟩⟩
private theorem jw_or (ha : JT X a ft) (hb : JW X (.BoolOp .Or (b :: rest) pos) fu) : JW X (.BoolOp .Or (a :: b :: rest) pos) (wOr ft fu) := ⟨imW (pw_or ha.h hb.h) fun σ H Q hh => ex5 hh fun Z F ρ M P ag hf k => ⟨Z, F, ρ, M, _, ag, hf, fun b H' F' ρ' M' s' ag' h => by
  cases b with
  | true => rw [if_pos rfl] at h ⊢; exact k _ H' F' ρ' M' s' ag' h
  | false => rw [if_neg Bool.false_ne_true] at h ⊢; exact ⟨Z, F', ρ', M', P, ag', h, fun b H2 F2 ρ2 M2 s2 => k b H2 F2 ρ2 M2 (s'.trans s2)⟩⟩⟩
private theorem JW.jt (h : JW X e ft) : JT X e ft := ⟨h.h.pt⟩
noncomputable def wNotV (f : WE) : WE := fun ρ M P => f ρ M fun d ρ1 M1 => match d with
  | .bl k => P (.bl (!k)) ρ1 M1
  | _ => False
noncomputable def wAndV (f g : WE) : WE := fun ρ M P => f ρ M fun d ρ1 M1 => match d with
  | .bl k => if k = true then g ρ1 M1 P else P (.bl false) ρ1 M1
  | _ => False
private theorem j_not (ha : JE X a fa) : JE X (.UnaryOp .Not a pos) (wNotV fa) := ⟨imE (pe_not ha.h) fun σ H Q hh => ex5 hh fun Z F ρ M P ag hf k => ⟨Z, F, ρ, M, _, ag, hf, fun v H' F' d ρ' M' s' ag' r h => by
  split at h
  · rw [Rp] at r
    exact ⟨_, r, k _ H' F' _ ρ' M' s' ag' (by rw [Rp]) h⟩
  · exact h.elim⟩⟩
private theorem j_one {op : BoolOp} (ha : JE X a fa) : JE X (.BoolOp op [a] pos) fa := ⟨pe_one ha.h⟩
private theorem j_and (ha : JE X a fa) (hb : JE X (.BoolOp .And (b :: rest) pos) fb) : JE X (.BoolOp .And (a :: b :: rest) pos) (wAndV fa fb) := ⟨imE (pe_and ha.h hb.h) fun σ H Q hh => ex5 hh fun Z F ρ M P ag hf k => ⟨Z, F, ρ, M, _, ag, hf, fun v H' F' d ρ' M' s' ag' r h => by
  split at h
  · rename_i kk
    rw [Rp] at r
    refine ⟨_, r, ?_⟩
    cases kk with
    | true => rw [if_pos rfl] at h ⊢; exact ⟨Z, F', ρ', M', P, ag', h, fun v H2 F2 d ρ2 M2 s2 => k v H2 F2 d ρ2 M2 (s'.trans s2)⟩
    | false => rw [if_neg Bool.false_ne_true] at h ⊢; exact k _ H' F' _ ρ' M' s' ag' (by rw [Rp]) h
  · exact h.elim⟩⟩
end
end L4
set_option Elab.async false
set_option linter.all false
set_option maxRecDepth 100000
namespace L4
open PySem PySem.Spec PyProof.Rows L2 L3
section
variable {X : Cx} {a b c e : Expr} {es rest : List Expr} {pos : Pos} {fa fb fe : WE} {ft fu : WT} {fl : WA} {fn : WN}
noncomputable def wNil : WA := fun ρ M P => P [] ρ M
noncomputable def wCons (f : WE) (g : WA) : WA := fun ρ M P => f ρ M fun d ρ1 M1 => g ρ1 M1 fun ds ρ2 M2 => P (d :: ds) ρ2 M2
private theorem ja_nil : JA X [] wNil := ⟨imA pa_nil fun σ H Q hh => ex5 hh fun Z F ρ M P ag hf k => k [] H F [] ρ M (Same.refl _) ag .nil hf⟩
private theorem ja_cons (ha : JE X e fe) (hr : JA X es fl) (hs : starEach (e :: es) X.env = (false, eval e X.env) :: starEach es X.env := by rfl) : JA X (e :: es) (wCons fe fl) := ⟨imA (pa_cons ha.h hr.h hs) fun σ H Q hh => ex5 hh fun Z F ρ M P ag hf k =>
  ⟨Z, F, ρ, M, _, ag, hf, fun v H1 F1 d1 ρ1 M1 s1 ag1 r1 h1 => ⟨Z, F1, ρ1, M1, _, ag1, h1, fun vs H2 F2 ds ρ2 M2 s2 ag2 r2 h2 => k _ H2 F2 _ ρ2 M2 (s1.trans s2) ag2 (.cons (r1.same s2) r2) h2⟩⟩⟩
noncomputable def wTup (f : WA) : WE := fun ρ M P => f ρ M fun ds ρ1 M1 => ds.length ≤ sizeLine ∧ P (.tup ds) ρ1 M1
private theorem j_tup {x1} (h : JA X es fl) : JE X (.Tuple es x1 pos) (wTup fl) := ⟨imE (pe_tup h.h) fun σ H Q hh => ex5 hh fun Z F ρ M P ag hf k => ⟨Z, F, ρ, M, _, ag, hf, fun vs H1 F1 ds ρ1 M1 s1 ag1 r1 h1 => by
  refine ⟨by rw [← r1.length]; exact h1.1, fun p hp => ?_⟩
  have s2 : Same F1 (upd F1 p (.tup vs)) := Same.new (sub_none ag1.m.sm hp)
  exact k _ _ (upd F1 p (.tup vs)) _ ρ1 M1 (s1.trans s2) (ag1.new hp) (by rw [Rp]; exact ⟨p, vs, rfl, SqT.of upd_same, r1.same s2⟩) h1.2⟩⟩
private theorem newN {Z F H : Hp} {M : Mm} {ρ : Rho} {σ : L2.St} {p : Addr} {vs : List V} {ds : List D} {K : PySem.W.Frag} (ag : Ag K Z F M H ρ σ) (hp : H p = none) (r : Rps K F ds vs) :
    Ag K Z F M (upd H p (.lst vs)) ρ σ ∧ upd H p (.lst vs) p = some (.lst vs) ∧ F p = none ∧ M p = none ∧ Z p = none ∧ (∀ (j : Nat) (es : List D), ρ[j]? = some (.ow es) → σ[j]? ≠ some (some (.ref p))) ∧ Rps K F ds vs := by
  refine ⟨ag.newO hp, upd_same, sub_none ag.m.sm hp, ?_, ?_, fun j es h z => ?_, r⟩
  · cases q : M p with
    | none => rfl
    | some o =>
      obtain ⟨_, k⟩ := ag.m.mo p o q
      obtain ⟨u, hu⟩ := k.there
      rw [hp] at hu; cases hu
  · cases q : Z p with
    | none => rfl
    | some o => have := (ag.m.zz p o q).1; rw [hp] at this; cases this
  · obtain ⟨q, ws, h1, h2, _⟩ := ag.en j _ h
    rw [z] at h1
    cases h1
    rw [hp] at h2; cases h2
noncomputable def wLst (f : WA) : WN := fun ρ M P => f ρ M fun ds ρ1 M1 => ds.length ≤ sizeLine ∧ P ds ρ1 M1
private theorem jn_lst (h : JA X es fl) : JN X (.List es pos) (wLst fl) := ⟨imE (pe_lst h.h) fun σ H Q hh => ex5 hh fun Z F ρ M P ag hf k => ⟨Z, F, ρ, M, _, ag, hf, fun vs H1 F1 ds ρ1 M1 s1 ag1 r1 h1 => by
  refine ⟨by rw [← r1.length]; exact h1.1, fun p hp => ?_⟩
  obtain ⟨n1, n2, n3, n4, nz, n5, n6⟩ := newN ag1 hp r1
  exact k p vs _ F1 ds ρ1 M1 s1 n1 n2 n3 n4 nz n5 n6 h1.2⟩⟩
noncomputable def wFz (f : WN) : WE := fun ρ M P => f ρ M fun ds ρ1 M1 => P (.lst ds) ρ1 M1
private theorem fz_new {Z F H : Hp} {M : Mm} {ρ : Rho} {σ : L2.St} {p : Addr} {vs : List V} {K : PySem.W.Frag} (ag : Ag K Z F M H ρ σ) (n2 : H p = some (.lst vs)) (n3 : F p = none) (n4 : M p = none) (nz : Z p = none) (n5 : ∀ (j : Nat) (es : List D), ρ[j]? = some (.ow es) → σ[j]? ≠ some (some (.ref p))) :
    Ag K Z (upd F p (.lst vs)) M H ρ σ := by
  have s1 : Same F (upd F p (.lst vs)) := Same.new n3
  refine ⟨⟨fun b u e => ?_, fun q o e => ?_, fun q o e => ?_⟩, ag.len, fun i e h => ?_, ag.di⟩
  · by_cases hb : b = p
    · subst hb; rw [upd_same] at e; cases e; exact n2
    · rw [upd_ne hb] at e; exact ag.m.sm b u e
  · obtain ⟨z1, z2, z3⟩ := ag.m.zz q o e
    have : q ≠ p := fun z => by rw [z, nz] at e; cases e
    exact ⟨z1, by rw [upd_ne this]; exact z2, z3⟩
  · obtain ⟨z1, z2⟩ := ag.m.mo q o e
    have : q ≠ p := fun z => by rw [z, n4] at e; cases e
    exact ⟨by rw [upd_ne this]; exact z1, z2.same s1 rfl⟩
  · have := ag.en i e h
    cases e with
    | un => trivial
    | sh d => obtain ⟨v, h1, h2⟩ := this; exact ⟨v, h1, Rp.same s1 h2⟩
    | rf p => exact this
    | ut u => obtain ⟨v, h1, h2⟩ := this; exact ⟨v, h1, RU.same s1 h2⟩
    | ow es =>
      obtain ⟨q, ws, h1, h2, h3, h4, h6, h5⟩ := this
      have hne : q ≠ p := fun z => by
        subst z
        have hj' : σ[i]? = some (some (.ref q)) := by
          cases y : σ[i]? with
          | none => rw [y] at h1; cases h1
          | some o => rw [y] at h1; simp at h1; rw [h1]
        exact n5 i es h hj'
      exact ⟨q, ws, h1, h2, by rw [upd_ne hne]; exact h3, h4, h6, Rps.same s1 h5⟩
private theorem j_fz (h : JN X e fn) : JE X e (wFz fn) := ⟨imE h.h fun σ H Q hh => ex5 hh fun Z F ρ M P ag hf k => ⟨Z, F, ρ, M, _, ag, hf, fun p vs H1 F1 ds ρ1 M1 s1 ag1 n2 n3 n4 nz n5 r1 h1 => by
  have s2 : Same F1 (upd F1 p (.lst vs)) := Same.new n3
  exact k _ H1 (upd F1 p (.lst vs)) _ ρ1 M1 (s1.trans s2) (fz_new ag1 n2 n3 n4 nz n5) (by rw [Rp]; exact ⟨p, vs, rfl, .inl upd_same, r1.same s2⟩) h1⟩⟩
private theorem at_rps {K : PySem.W.Frag} {F : Hp} {ds : List D} {vs : List V} {i : Int} {d : D} (r : Rps K F ds vs) (h : atI ds i = some d) : ∃ v, atI vs i = some v ∧ Rp K F d v := by
  unfold atI at h ⊢
  rw [r.length] at h
  cases e : ixN vs.length i with
  | none => rw [e] at h; cases h
  | some j =>
    rw [e] at h
    exact r.get h
noncomputable def RIx : D → D → (D → Prop) → Prop := fun x y P => match x, y with
  | .tup ds, .int i => (match atI ds i with
    | some d => P d
    | none => False)
  | .lst ds, .int i => (match atI ds i with
    | some d => P d
    | none => False)
  | _, _ => False
private theorem w_ix : OpW X (rIx X.K) RIx := by
  intro x y v u F H Q P sm rx ry h k
  unfold RIx at h
  split at h
  · rename_i ds i
    rw [Rp] at rx
    rw [Rp] at ry
    obtain ⟨p, vs, rfl, h1, h2⟩ := rx
    split at h
    · rename_i d hd
      obtain ⟨w, h3, h4⟩ := at_rps h2 hd
      exact .inr (.inl ⟨p, vs, i, w, rfl, ry, sqT_same sm h1, h3, k d w F H .rf h4 h⟩)
    · exact h.elim
  · rename_i ds i
    rw [Rp] at rx
    rw [Rp] at ry
    obtain ⟨p, vs, rfl, h1, h2⟩ := rx
    split at h
    · rename_i d hd
      obtain ⟨w, h3, h4⟩ := at_rps h2 hd
      exact .inl ⟨p, vs, i, w, rfl, ry, .inl (rd_same sm h1), h3, k d w F H .rf h4 h⟩
    · exact h.elim
  · exact h.elim
private theorem j_at (ha : JE X a fa) (hb : JE X b fb) (hs : PlainIx b := by intro _ _; rfl) : JE X (.Subscript a b pos) (wOp RIx fa fb) := j_ix ix_seq w_ix ha hb hs
section
variable {x : Str} {p : Pos} {id T : String} {r : List V → Hp → VK → Prop} {R : List D → (D → Prop) → Prop}
private theorem j_callB (hc : CallR X (.builtin id) r) (w : CaW X r R) (hg : Gl X x) (hm : X.mg x = none) (hv : bootBuiltins x = some (.builtin id)) (ha : JA X (e :: es) fl) (hn : x ≠ "__name__" := by decide) (hdb : (x == ("__debug__" : Str)) = false := by decide)
    (he : starEach (e :: es) X.env = (false, eval e X.env) :: starEach es X.env := by rfl) (hpl : (backTo pos (starEach es X.env)).any (·.1) = false := by rfl) : JE X (.Call (.Name x p) (e :: es) [] pos) (wCall R fl) := ⟨imE (pe_callB hc hg hm hv ha.h hn hdb he hpl) (of_call w)⟩
private theorem j_callTy (hc : CallR X (.type T) r) (w : CaW X r R) (hg : Gl X x) (hm : X.mg x = none) (hv : bootBuiltins x = some (.type T)) (ha : JA X (e :: es) fl) (hn : x ≠ "__name__" := by decide) (hdb : (x == ("__debug__" : Str)) = false := by decide)
    (he : starEach (e :: es) X.env = (false, eval e X.env) :: starEach es X.env := by rfl) (hpl : (backTo pos (starEach es X.env)).any (·.1) = false := by rfl) : JE X (.Call (.Name x p) (e :: es) [] pos) (wCall R fl) := ⟨imE (pe_callTy hc hg hm hv ha.h hn hdb he hpl) (of_call w)⟩
end
noncomputable def RLen : List D → (D → Prop) → Prop := fun xs P => match xs with
  | [.lst ds] => P (.int ds.length)
  | [.tup ds] => P (.int ds.length)
  | _ => False
private theorem rps1 {K : PySem.W.Frag} {F : Hp} {d : D} {vs : List V} (h : Rps K F [d] vs) : ∃ v, vs = [v] ∧ Rp K F d v := by
  rw [Rps] at h
  obtain ⟨v, r, rfl, h1, h2⟩ := h
  rw [Rps] at h2
  subst h2
  exact ⟨v, rfl, h1⟩
private theorem rps2 {K : PySem.W.Frag} {F : Hp} {d e : D} {vs : List V} (h : Rps K F [d, e] vs) : ∃ v u, vs = [v, u] ∧ Rp K F d v ∧ Rp K F e u := by
  rw [Rps] at h
  obtain ⟨v, r, rfl, h1, h2⟩ := h
  obtain ⟨u, rfl, h3⟩ := rps1 h2
  exact ⟨v, u, rfl, h1, h3⟩
private theorem w_len : CaW X (fun xs H Q => ∃ p ys, xs = [.ref p] ∧ (SqL X.K H p ys ∨ SqT X.K H p ys) ∧ Q (.int ys.length) H) RLen := by
  intro xs vs F H Q P sm rs h k
  unfold RLen at h
  split at h
  · rename_i ds
    obtain ⟨v, rfl, r⟩ := rps1 rs
    rw [Rp] at r
    obtain ⟨p, ws, rfl, h1, h2⟩ := r
    refine ⟨p, ws, rfl, .inl (.inl (rd_same sm h1)), k _ _ F H .rf ?_ h⟩
    rw [Rp, h2.length]
  · rename_i ds
    obtain ⟨v, rfl, r⟩ := rps1 rs
    rw [Rp] at r
    obtain ⟨p, ws, rfl, h1, h2⟩ := r
    refine ⟨p, ws, rfl, .inr (sqT_same sm h1), k _ _ F H .rf ?_ h⟩
    rw [Rp, h2.length]
  · exact h.elim
noncomputable def RAbs : List D → (D → Prop) → Prop := fun xs P => match xs with
  | [.int i] => P (.int (if i < 0 then -i else i))
  | _ => False
private theorem w_abs : CaW X (fun xs H Q => ∃ i, xs = [.int i] ∧ Q (.int (if i < 0 then -i else i)) H) RAbs := by
  intro xs vs F H Q P sm rs h k
  unfold RAbs at h
  split at h
  · obtain ⟨v, rfl, r⟩ := rps1 rs
    rw [Rp] at r
    subst r
    exact ⟨_, rfl, k _ _ F H .rf (by rw [Rp]) h⟩
  · exact h.elim
noncomputable def RInt : List D → (D → Prop) → Prop := fun xs P => match xs with
  | [.int i] => P (.int i)
  | [.bl i] => P (.int (if i then 1 else 0))
  | _ => False
private theorem w_int : CaW X (fun xs H Q => (∃ i, xs = [.int i] ∧ Q (.int i) H) ∨ ∃ k, xs = [.bl k] ∧ Q (.int (if k then 1 else 0)) H) RInt := by
  intro xs vs F H Q P sm rs h k
  unfold RInt at h
  split at h
  · obtain ⟨v, rfl, r⟩ := rps1 rs
    rw [Rp] at r
    subst r
    exact .inl ⟨_, rfl, k _ _ F H .rf (by rw [Rp]) h⟩
  · obtain ⟨v, rfl, r⟩ := rps1 rs
    rw [Rp] at r
    subst r
    exact .inr ⟨_, rfl, k _ _ F H .rf (by rw [Rp]) h⟩
  · exact h.elim
end
end L4
set_option Elab.async false
set_option linter.all false
set_option maxRecDepth 100000
namespace L4
open PySem PySem.Spec PyProof.Rows L2 L3
noncomputable def Zof (F : Hp) (M : Mm) (H : Hp) : Hp := fun p => if (F p).isNone = true ∧ (M p).isNone = true then H p else none
private theorem zof_some {F H : Hp} {M : Mm} {p : Addr} {o : HO} (h : Zof F M H p = some o) : H p = some o ∧ F p = none ∧ M p = none := by
  unfold Zof at h
  split at h
  · rename_i c
    exact ⟨h, Option.isNone_iff_eq_none.mp c.1, Option.isNone_iff_eq_none.mp c.2⟩
  · cases h
private theorem zof_of {F H : Hp} {M : Mm} {p : Addr} {o : HO} (h1 : H p = some o) (h2 : F p = none) (h3 : M p = none) : Zof F M H p = some o := by
  unfold Zof
  rw [if_pos ⟨by rw [h2]; rfl, by rw [h3]; rfl⟩]
  exact h1
section
variable {K : PySem.W.Frag} {Z F F' H H' : Hp} {M M' : Mm} {ρ : Rho} {σ : L2.St}
private theorem AgM.inner (a : AgM K Z F M H) : AgM K (Zof F M H) F M H := ⟨a.sm, fun _ _ h => zof_some h, a.mo⟩
private theorem AgM.back (a : AgM K Z F M H) (b : AgM K (Zof F M H) F' M' H') : AgM K Z F' M' H' := ⟨b.sm, fun p o h => by
  obtain ⟨z1, z2, z3⟩ := a.zz p o h
  exact b.zz p o (zof_of z1 z2 z3), b.mo⟩
private theorem Ag.back (a : Ag K Z F M H ρ σ) (s : Same F F') (b : AgM K (Zof F M H) F' M' H') : Ag K Z F' M' H' ρ σ := by
  refine ⟨a.m.back b, a.len, fun i e h => ?_, a.di⟩
  have := a.en i e h
  cases e with
  | un => trivial
  | sh d => obtain ⟨v, h1, h2⟩ := this; exact ⟨v, h1, Rp.same s h2⟩
  | rf p => exact this
  | ut u => obtain ⟨v, h1, h2⟩ := this; exact ⟨v, h1, RU.same s h2⟩
  | ow ds =>
    obtain ⟨p, vs, h1, h2, h3, h4, h5, h6⟩ := this
    obtain ⟨z1, z2, z3⟩ := b.zz p _ (zof_of h2 h3 h4)
    exact ⟨p, vs, h1, z1, z2, z3, h5, Rps.same s h6⟩
end
noncomputable abbrev WF := List D → Mm → (D → Mm → Prop) → Prop
noncomputable def spW (K : PySem.W.Frag) (g : WF) : Sp := fun vs H Q _ => ∃ Z F M ds P, AgM K Z F M H ∧ Rps K F ds vs ∧ g ds M P ∧ ∀ v H' F' d M', Same F F' → AgM K Z F' M' H' → Rp K F' d v → P d M' → Q v H'
noncomputable def wFn (g : WF) (fl : WA) : WE := fun ρ M P => fl ρ M fun ds ρ1 M1 => g ds M1 fun d M2 => P d ρ1 M2
section
variable {X : Cx} {a b c e : Expr} {es rest : List Expr} {pos p : Pos} {fa fb fe : WE} {ft fu : WT} {fl : WA} {fn : WN} {st : Stmt} {sts : List Stmt} {fs gs : WS} {x : Str}
private theorem j_h {g : WF} {k : Nat} {ps : List Str} (F : Has X.prog X.w X.K X.mg X.base CX0 k x ps (spW X.K g)) (hr : Room k X.A) (hg : Gl X x) (ha : JA X (e :: es) fl) (hdb : (x == ("__debug__" : Str)) = false := by decide) (he : starEach (e :: es) X.env = (false, eval e X.env) :: starEach es X.env := by rfl) (hpl : (backTo pos (starEach es X.env)).any (·.1) = false := by rfl) :
    JE X (.Call (.Name x p) (e :: es) [] pos) (wFn g fl) := ⟨imE (pe_h F hr hg pass0 ha.h hdb he hpl) fun σ H Q hh => ex5 hh fun Z F ρ M P ag hf k => ⟨Z, F, ρ, M, _, ag, hf, fun vs H1 F1 ds ρ1 M1 s1 ag1 r1 h1 => by
  show spW X.K g (vs ++ []) H1 Q E0
  rw [List.append_nil]
  exact ⟨_, F1, M1, ds, _, ag1.m.inner, r1, h1, fun v H' F' d M' s' m' r h => k v H' F' d ρ1 M' (s1.trans s') (ag1.back s' m') r h⟩⟩⟩
private theorem EndsOk.mono {K : PySem.W.Frag} {Z F F' : Hp} {E : WEnds} {D' : Ends} (h : EndsOk K Z F E D') (s : Same F F') : EndsOk K Z F' E D' :=
  ⟨fun σ' H' G ρ' M' t => h.nx σ' H' G ρ' M' (s.trans t), fun σ' H' G ρ' M' t => h.bk σ' H' G ρ' M' (s.trans t), fun σ' H' G ρ' M' t => h.ct σ' H' G ρ' M' (s.trans t), fun v H' G d M' t => h.rt v H' G d M' (s.trans t)⟩
noncomputable def wNext : WS := fun E ρ M => E.nx ρ M
noncomputable def wSeq (f g : WS) : WS := fun E ρ M => f ⟨fun ρ1 M1 => g E ρ1 M1, E.rt, E.bk, E.ct⟩ ρ M
private theorem jss_nil : JSs X [] wNext := ⟨imSs pss_nil fun D' σ H hh => ex5 hh fun Z F ρ M E ag hf k => k.nx σ H F ρ M (Same.refl _) ag hf⟩
private theorem jss_one (h : JS X st fs) : JSs X [st] fs := ⟨pss_one h.h⟩
private theorem jss_cons (h : JS X st fs) (h2 : JSs X sts gs) : JSs X (st :: sts) (wSeq fs gs) := ⟨imSs (pss_cons h.h h2.h) fun D' σ H hh => ex5 hh fun Z F ρ M E ag hf k =>
  ⟨Z, F, ρ, M, _, ag, hf, ⟨fun σ' H' F' ρ' M' s' ag' h => ⟨Z, F', ρ', M', E, ag', h, k.mono s'⟩, k.bk, k.ct, k.rt⟩⟩⟩
noncomputable def wRet (f : WE) : WS := fun E ρ M => f ρ M fun d _ M1 => E.rt (.d d) M1
private theorem js_ret (h : JE X e fe) : JS X (.Return (some e) pos) (wRet fe) := ⟨imS (ps_ret h.h) fun D' σ H hh => ex5 hh fun Z F ρ M E ag hf k => ⟨Z, F, ρ, M, _, ag, hf, fun v H' F' d ρ' M' s' ag' r h => k.rt v H' F' (.d d) M' s' ag'.m (by rw [RU]; exact r) h⟩⟩
noncomputable def wIf (c : WT) (f g : WS) : WS := fun E ρ M => c ρ M fun b ρ1 M1 => if b = true then f E ρ1 M1 else g E ρ1 M1
private theorem js_if {sa sb : List Stmt} (hc : JT X c ft) (ha : JSs X sa fs) (hb : JSs X sb gs) : JS X (.If c sa sb pos) (wIf ft fs gs) := ⟨imS (ps_if hc.h ha.h hb.h) fun D' σ H hh => ex5 hh fun Z F ρ M E ag hf k => ⟨Z, F, ρ, M, _, ag, hf, fun b H' F' ρ' M' s' ag' h => by
  cases b with
  | true => rw [if_pos rfl] at h ⊢; exact ⟨Z, F', ρ', M', E, ag', h, k.mono s'⟩
  | false => rw [if_neg Bool.false_ne_true] at h ⊢; exact ⟨Z, F', ρ', M', E, ag', h, k.mono s'⟩⟩⟩
section
variable {i : Nat} {pos' : Pos}
noncomputable def wSet (i : Nat) (f : WE) : WS := fun E ρ M => f ρ M fun d ρ1 M1 => E.nx (ρ1.set i (.sh d)) M1
private theorem js_set (hN : X.N.Nodup) (hi : X.N[i]? = some x) (hx : Loc X.env.scope x) (he : JE X e fe) (hs : swapsWith e (some (.Name x pos')) pos.line X.env = pure false := by rfl) (hf : X.fn x = true ∨ X.env.scope.names.lookup x = some .local := by first | exact .inl rfl | exact .inr rfl | assumption) :
    JS X (.Assign [.Name x pos'] e pos) (wSet i fe) := ⟨imS (ps_set hN hi hx he.h hs hf) fun D' σ H hh => ex5 hh fun Z F ρ M E ag hf k => ⟨Z, F, ρ, M, _, ag, hf, fun v H' F' d ρ' M' s' ag' r h => k.nx _ H' F' _ M' s' (ag'.set r) h⟩⟩
noncomputable def wSetN (i : Nat) (f : WN) : WS := fun E ρ M => f ρ M fun ds ρ1 M1 => E.nx (ρ1.set i (.ow ds)) M1
private theorem js_setN (hN : X.N.Nodup) (hi : X.N[i]? = some x) (hx : Loc X.env.scope x) (he : JN X e fn) (hs : swapsWith e (some (.Name x pos')) pos.line X.env = pure false := by rfl) (hf : X.fn x = true ∨ X.env.scope.names.lookup x = some .local := by first | exact .inl rfl | exact .inr rfl | assumption) :
    JS X (.Assign [.Name x pos'] e pos) (wSetN i fn) := ⟨imS (ps_set hN hi hx he.h hs hf) fun D' σ H hh => ex5 hh fun Z F ρ M E ag hf k => ⟨Z, F, ρ, M, _, ag, hf, fun p vs H' F' ds ρ' M' s' ag' n2 n3 n4 nz n5 r h => k.nx _ H' F' _ M' s' (ag'.setO n2 n3 n4 nz r n5) h⟩⟩
end
private theorem ow_get {K : PySem.W.Frag} {Z F H : Hp} {M : Mm} {ρ : Rho} {σ : L2.St} {i : Nat} {ds : List D} (ag : Ag K Z F M H ρ σ) (h : ρ[i]? = some (.ow ds)) : ∃ p vs, σ[i]? = some (some (.ref p)) ∧ H p = some (.lst vs) ∧ F p = none ∧ M p = none ∧ Z p = none ∧ Rps K F ds vs := by
  obtain ⟨p, vs, h1, h2⟩ := ag.en i _ h
  refine ⟨p, vs, ?_, h2⟩
  cases y : σ[i]? with
  | none => rw [y] at h1; cases h1
  | some o => rw [y] at h1; simp at h1; rw [h1]
private theorem Ag.chg {K : PySem.W.Frag} {Z F H : Hp} {M : Mm} {ρ : Rho} {σ : L2.St} {i : Nat} {ds es : List D} {p : Addr} {vs ws : List V} (ag : Ag K Z F M H ρ σ) (h : ρ[i]? = some (.ow ds)) (hs : σ[i]? = some (some (.ref p))) (h2 : H p = some (.lst vs)) (h3 : F p = none) (h4 : M p = none) (h5 : Z p = none) (r : Rps K F es ws) :
    Ag K Z F M (upd H p (.lst ws)) (ρ.set i (.ow es)) σ := by
  have hi : i < ρ.length := (List.getElem?_eq_some_iff.mp h).1
  have ne : ∀ {q : Addr} {u : HO}, F q = some u → q ≠ p := fun e z => by rw [z, h3] at e; cases e
  refine ⟨⟨fun q u e => by rw [upd_ne (ne e)]; exact ag.m.sm q u e, fun q o e => ?_, fun q o e => ?_⟩, by rw [List.length_set]; exact ag.len, fun j e q => ?_, fun j k ds' es' q n q1 q2 q3 => ?_⟩
  · obtain ⟨z1, z2, z3⟩ := ag.m.zz q o e
    have : q ≠ p := fun z => by rw [z, h5] at e; cases e
    exact ⟨by rw [upd_ne this]; exact z1, z2, z3⟩
  · obtain ⟨z1, z2⟩ := ag.m.mo q o e
    have : q ≠ p := fun z => by rw [z, h4] at e; cases e
    exact ⟨z1, z2.same (Same.refl _) (upd_ne this)⟩
  · by_cases hj : j = i
    · subst hj
      rw [List.getElem?_set_self hi] at q
      cases q
      exact ⟨p, ws, by rw [hs]; rfl, upd_same, h3, h4, h5, r⟩
    · rw [List.getElem?_set_ne (Ne.symm hj)] at q
      have := ag.en j e q
      cases e with
      | un => trivial
      | sh d => exact this
      | rf p => exact this
      | ut u => exact this
      | ow ds' =>
        obtain ⟨q', us, g1, g2, g3⟩ := this
        have hne : q' ≠ p := fun z => by
          subst z
          have hj' : σ[j]? = some (some (.ref q')) := by
            cases y : σ[j]? with
            | none => rw [y] at g1; cases g1
            | some o => rw [y] at g1; simp at g1; rw [g1]
          exact ag.di i j ds ds' q' (Ne.symm hj) h q hs hj'
        exact ⟨q', us, g1, by rw [upd_ne hne]; exact g2, g3⟩
  · have key : ∀ {j : Nat} {ds' : List D}, (ρ.set i (.ow es))[j]? = some (.ow ds') → ∃ ds'', ρ[j]? = some (.ow ds'') := fun {j ds'} q => by
      by_cases hj : j = i
      · subst hj; exact ⟨ds, h⟩
      · rw [List.getElem?_set_ne (Ne.symm hj)] at q; exact ⟨ds', q⟩
    obtain ⟨d1, e1⟩ := key q1
    obtain ⟨d2, e2⟩ := key q2
    exact ag.di j k d1 d2 q n e1 e2 q3
noncomputable def isOw : Option Ent → Prop
  | some (.ow _) => True
  | _ => False
private theorem isOw_of {o : Option Ent} (h : isOw o) : ∃ ds, o = some (.ow ds) := by
  unfold isOw at h
  split at h
  · exact ⟨_, rfl⟩
  · exact h.elim
noncomputable def wApp (i : Nat) (f : WE) : WS := fun E ρ M => isOw ρ[i]? ∧ f ρ M fun d ρ1 M1 => match ρ1[i]? with
  | some (.ow ds) => ds.length < sizeLine ∧ E.nx (ρ1.set i (.ow (ds ++ [d]))) M1
  | _ => False
private theorem js_app {i : Nat} (hh : PS X st (tDrop (tBM X.K "list" rAppend (tVar i) (lfA X.K (wCons fe wNil))))) : JS X st (wApp i fe) := ⟨imS hh fun D' σ H hh => ex5 hh fun Z F ρ M E ag hf k => by
  obtain ⟨ho, hf⟩ := hf
  obtain ⟨ds0, ho⟩ := isOw_of ho
  obtain ⟨p, vs, h1, h2, h3, h4, h5, h6⟩ := ow_get ag ho
  refine ⟨.ref p, h1, .inl ⟨rfl, vs, SqL.of h2⟩, Z, F, ρ, M, fun es ρ1 M1 => match es with
    | [d] => (match ρ1[i]? with
      | some (.ow ds) => ds.length < sizeLine ∧ E.nx (ρ1.set i (.ow (ds ++ [d]))) M1
      | _ => False)
    | _ => False, ag, hf, fun ws H1 F1 es ρ1 M1 s1 ag1 r1 hh => ?_⟩
  dsimp only at hh
  split at hh
  · rename_i d
    split at hh
    · rename_i ds hd
      obtain ⟨v, rfl, rv⟩ := rps1 r1
      obtain ⟨p', us, g1, g2, g3, g4, g5, g6⟩ := ow_get ag1 hd
      rw [h1] at g1
      cases g1
      refine ⟨p, us, v, rfl, rfl, g2, by rw [← g6.length]; exact hh.1, k.nx σ _ F1 _ M1 s1 (ag1.chg hd h1 g2 g3 g4 g5 (g6.append (.cons rv .nil))) hh.2⟩
    · exact hh.elim
  · exact hh.elim⟩
noncomputable def wSetIx (i : Nat) (fk fe : WE) : WS := fun E ρ M => fe ρ M fun d ρ1 M1 => isOw ρ1[i]? ∧ fk ρ1 M1 fun k ρ2 M2 => match ρ2[i]?, k with
  | some (.ow ds), .int j => (match ixN ds.length j with
    | some n => E.nx (ρ2.set i (.ow (ds.set n d))) M2
    | none => False)
  | _, _ => False
private theorem js_setIx {i : Nat} {fk : WE} (hh : PS X st (tAsg (lf X.K fe) (gSub (tVar i) (lf X.K fk) rSetL))) : JS X st (wSetIx i fk fe) := ⟨imS hh fun D' σ H hh => ex5 hh fun Z F ρ M E ag hf k => by
  refine ⟨Z, F, ρ, M, _, ag, hf, fun v H1 F1 d ρ1 M1 s1 ag1 r1 h1 => ?_⟩
  obtain ⟨ho, h1⟩ := h1
  obtain ⟨ds0, ho⟩ := isOw_of ho
  obtain ⟨p, vs, e1, e2, e3, e4, e5, e6⟩ := ow_get ag1 ho
  refine ⟨.ref p, e1, Z, F1, ρ1, M1, _, ag1, h1, fun u H2 F2 dk ρ2 M2 s2 ag2 r2 h2 => ?_⟩
  split at h2
  · rename_i ds j hd
    rw [Rp] at r2
    split at h2
    · rename_i n hn
      obtain ⟨p', us, g1, g2, g3, g4, g5, g6⟩ := ow_get ag2 hd
      rw [e1] at g1
      cases g1
      refine ⟨p, us, j, n, rfl, r2, g2, by rw [← g6.length]; exact hn, k.nx σ _ F2 _ M2 (s1.trans s2) (ag2.chg hd e1 g2 g3 g4 g5 (g6.set (r1.same s2) n)) h2⟩
    · exact h2.elim
  · exact h2.elim⟩
noncomputable def wAtO (i : Nat) (fk : WE) : WE := fun ρ M P => isOw ρ[i]? ∧ fk ρ M fun k ρ1 M1 => match ρ1[i]?, k with
  | some (.ow ds), .int j => (match atI ds j with
    | some d => P d ρ1 M1
    | none => False)
  | _, _ => False
private theorem j_atO {i : Nat} {fk : WE} (hh : PE X e (tOp (rIx X.K) (tVar i) (lf X.K fk))) : JE X e (wAtO i fk) := ⟨imE hh fun σ H Q hh => ex5 hh fun Z F ρ M P ag hf k => by
  obtain ⟨ho, hf⟩ := hf
  obtain ⟨ds0, ho⟩ := isOw_of ho
  obtain ⟨p, vs, e1, e2, e3, e4, e5, e6⟩ := ow_get ag ho
  refine ⟨.ref p, e1, Z, F, ρ, M, _, ag, hf, fun u H2 F2 dk ρ2 M2 s2 ag2 r2 h2 => ?_⟩
  split at h2
  · rename_i ds j hd
    rw [Rp] at r2
    split at h2
    · rename_i d hn
      obtain ⟨p', us, g1, g2, g3, g4, g5, g6⟩ := ow_get ag2 hd
      rw [e1] at g1
      cases g1
      obtain ⟨w, a1, a2⟩ := at_rps g6 hn
      exact .inl ⟨p, us, j, w, rfl, r2, SqL.of g2, a1, k w H2 F2 d ρ2 M2 s2 ag2 a2 h2⟩
    · exact h2.elim
  · exact h2.elim⟩
noncomputable def rIs4 (K : PySem.W.Frag) : List V → Hp → VK → Prop := fun xs H Q => ∃ d x n b, xs = [x, .ty n] ∧ Rp K H d x ∧ PySem.W.kitOne K (.type (tyN d)) (.type n) = some b ∧ Q (.bl b) H
private theorem call_is4 : CallR X (.builtin "isinstance") (rIs4 X.K) := by
  intro pins s σ H vs us Q I r h
  obtain ⟨d, x, n, b, rfl, rp, e, q⟩ := h
  obtain ⟨u, w', rfl, r1, r2⟩ := vals2 r
  cases (show w' = Value.type n from r2)
  have fin : ∀ tk : Nat, EP X pins σ Q (.bool b) { s with toks := tk } := fun tk => ⟨.bl b, H, I.tok tk, rfl, q⟩
  cases d with
  | non => rw [Rp] at rp; subst rp; exact isinst_ok I r1 .non e fin
  | bl k => rw [Rp] at rp; subst rp; exact isinst_ok I r1 (.bl k) e fin
  | int k => rw [Rp] at rp; subst rp; exact isinst_ok I r1 (.int k) e fin
  | str k => rw [Rp] at rp; subst rp; exact isinst_ok I r1 (.str k) e fin
  | emp =>
    rw [Rp] at rp
    obtain ⟨a, rfl, h1⟩ := rp
    cases (show u = Value.ref a from r1)
    obtain ⟨_, ep, g1⟩ := rp_emp I h1
    exact PySem.W.kia_one PySem.W.kitx_dict I.kIn ⟨_, g1, rfl⟩ e (fun z => nomatch z) fin
  | tup ds =>
    rw [Rp] at rp
    obtain ⟨a, ws, rfl, h1, _⟩ := rp
    cases (show u = Value.ref a from r1)
    obtain ⟨its, _, ⟨o, g1, g2, _⟩, _⟩ := I.tuple h1
    exact PySem.W.kia_one PySem.W.kitx_tuple I.kIn ⟨o, g1, g2⟩ e (fun z => nomatch z) fin
  | lst ds =>
    rw [Rp] at rp
    obtain ⟨a, ws, rfl, h1, _⟩ := rp
    cases (show u = Value.ref a from r1)
    obtain ⟨its, _, ⟨o, n', g1, g2, _⟩, _⟩ := I.list (.inl h1)
    exact PySem.W.kia_one PySem.W.kitx_list I.kIn ⟨o, g1, g2⟩ e (fun z => nomatch z) fin
noncomputable def wIs (t : D → Bool) (f : WE) : WE := fun ρ M P => f ρ M fun d ρ1 M1 => P (.bl (t d)) ρ1 M1
private theorem j_is {t : D → Bool} {n : String} (hk : ∀ d, PySem.W.kitOne X.K (.type (tyN d)) (.type n) = some (t d)) (hh : ∀ {ta : TE}, PE X a ta → PE X e (tCB (rIs4 X.K) (tCons ta (tCons (tC (.ty n)) tNil)))) (ha : JE X a fa) : JE X e (wIs t fa) := ⟨imE (hh ha.h) fun σ H Q hh => ex5 hh fun Z F ρ M P ag hf k =>
  ⟨Z, F, ρ, M, _, ag, hf, fun v H1 F1 d ρ1 M1 s1 ag1 r1 h1 => ⟨d, v, n, _, rfl, r1.same ag1.m.sm, hk d, k _ H1 F1 _ ρ1 M1 s1 ag1 (by rw [Rp]) h1⟩⟩⟩
end
end L4
set_option Elab.async false
set_option linter.all false
set_option maxRecDepth 100000
namespace L4
open PySem PySem.Spec PyProof.Rows L2 L3
structure ItOk (K : PySem.W.Frag) (J : It) (F : Hp) (ds : List D) : Prop where
  go : ∀ i F' H, i < ds.length → Same F F' → Same F' H → J.go i H
  stop : ∀ F' H, Same F F' → Same F' H → J.stop ds.length H
  yld : ∀ (i : Nat) d F' H x H', ds[i]? = some d → Same F F' → Same F' H → J.yld i H x H' → ∃ F'', Gw F' H F'' H' ∧ Rp K F'' d x
noncomputable abbrev WI := Rho → Mm → (List D → Rho → Mm → Prop) → Prop
noncomputable def lfI (K : PySem.W.Frag) (f : WI) : TI := fun σ H R => ∃ Z F ρ M P, Ag K Z F M H ρ σ ∧ f ρ M P ∧ ∀ J H' F' ds ρ' M', Same F F' → Ag K Z F' M' H' ρ' σ → ItOk K J F' ds → P ds ρ' M' → R J H'
structure JI (X : Cx) (tg iter : Expr) (f : WI) : Prop where
  h : PI X tg iter (lfI X.K f)
private theorem imI {X : Cx} {tg iter : Expr} {t t' : TI} (h : PI X tg iter t) (k : ∀ σ H R, t' σ H R → t σ H R) : PI X tg iter t' := fun pins s σ H R I q => h pins s σ H R I (k σ H R q)
section
variable {X : Cx} {a b c e tg iter : Expr} {es rest : List Expr} {pos p : Pos} {fa fb fe : WE} {ft fu : WT} {fl : WA} {fn : WN} {st : Stmt} {sts : List Stmt} {fs gs : WS} {x : Str} {fi : WI} {fg : WG}
noncomputable def wIL (f : WE) : WI := fun ρ M P => f ρ M fun d ρ1 M1 => match d with
  | .lst ds => P ds ρ1 M1
  | _ => False
noncomputable def wIT (f : WE) : WI := fun ρ M P => f ρ M fun d ρ1 M1 => match d with
  | .tup ds => P ds ρ1 M1
  | _ => False
private theorem ji_list (ha : JE X a fa) : JI X tg a (wIL fa) := ⟨imI (pi_list ha.h) fun σ H R hh => ex5 hh fun Z F ρ M P ag hf k => ⟨Z, F, ρ, M, _, ag, hf, fun v H1 F1 d ρ1 M1 s1 ag1 r1 h1 => by
  split at h1
  · rename_i ds
    rw [Rp] at r1
    obtain ⟨q, vs, rfl, g1, g2⟩ := r1
    refine ⟨q, rfl, ⟨vs, .inl (rd_same ag1.m.sm g1)⟩, k _ H1 F1 ds ρ1 M1 s1 ag1 ⟨fun i F' H hi s s' => ?_, fun F' H s s' => ?_, fun i d F' H x H' hd s s' y => ?_⟩ h1⟩
    · exact ⟨vs, _, .inl (rd_same s' (rd_same s g1)), List.getElem?_eq_getElem (by rw [← g2.length]; exact hi)⟩
    · exact ⟨vs, .inl (rd_same s' (rd_same s g1)), by rw [g2.length]; exact Nat.le_refl _⟩
    · obtain ⟨rfl, y⟩ := y
      obtain ⟨w, h2, h3⟩ := g2.get hd
      have := y vs (.inl (rd_same s' (rd_same s g1)))
      rw [h2] at this
      cases this
      exact ⟨F', .rf, h3.same s⟩
  · exact h1.elim⟩⟩
private theorem ji_tup (ha : JE X a fa) : JI X tg a (wIT fa) := ⟨imI (pi_tup ha.h) fun σ H R hh => ex5 hh fun Z F ρ M P ag hf k => ⟨Z, F, ρ, M, _, ag, hf, fun v H1 F1 d ρ1 M1 s1 ag1 r1 h1 => by
  split at h1
  · rename_i ds
    rw [Rp] at r1
    obtain ⟨q, vs, rfl, g1, g2⟩ := r1
    refine ⟨q, rfl, ⟨vs, sqT_same ag1.m.sm g1⟩, k _ H1 F1 ds ρ1 M1 s1 ag1 ⟨fun i F' H hi s s' => ?_, fun F' H s s' => ?_, fun i d F' H x H' hd s s' y => ?_⟩ h1⟩
    · exact ⟨vs, _, sqT_same s' (sqT_same s g1), List.getElem?_eq_getElem (by rw [← g2.length]; exact hi)⟩
    · exact ⟨vs, sqT_same s' (sqT_same s g1), by rw [g2.length]; exact Nat.le_refl _⟩
    · obtain ⟨rfl, y⟩ := y
      obtain ⟨w, h2, h3⟩ := g2.get hd
      have := y vs (sqT_same s' (sqT_same s g1))
      rw [h2] at this
      cases this
      exact ⟨F', .rf, h3.same s⟩
  · exact h1.elim⟩⟩
noncomputable def rngD (lo : Int) (n : Nat) : List D := (List.range n).map fun (k : Nat) => D.int (lo + (k : Int))
private theorem it_rng {K : PySem.W.Frag} {F : Hp} (lo : Int) (n : Nat) : ItOk K (Itr lo n) F (rngD lo n) := by
  have hl : (rngD lo n).length = n := by unfold rngD; simp
  refine ⟨fun i F' H hi _ _ => ?_, fun F' H _ _ => ?_, fun i d F' H x H' hd s s' y => ?_⟩
  · show i < n
    omega
  · show n ≤ _
    omega
  · obtain ⟨rfl, rfl⟩ := y
    refine ⟨F', .rf, ?_⟩
    unfold rngD at hd
    rw [List.getElem?_map] at hd
    cases q : (List.range n)[i]? with
    | none => rw [q] at hd; cases hd
    | some j =>
      rw [q] at hd
      obtain ⟨hj, e⟩ := List.getElem?_eq_some_iff.mp q
      simp at e
      subst e
      simp at hd
      subst hd
      rw [Rp]
noncomputable def wIR1 (f : WA) : WI := fun ρ M P => f ρ M fun ds ρ1 M1 => match ds with
  | [.int j] => (-(2 ^ 62) ≤ j ∧ j < 2 ^ 62) ∧ P (rngD 0 j.toNat) ρ1 M1
  | _ => False
private theorem ji_rng1 (hg : Gl X "range") (hm : X.mg "range" = none) (ha : JA X [a] fl) (hs : starEach [a] X.env = [(false, eval a X.env)] := by rfl) : JI X tg (.Call (.Name "range" p) [a] [] pos) (wIR1 fl) := ⟨imI (pi_range1 hg hm ha.h hs) fun σ H R hh => ex5 hh fun Z F ρ M P ag hf k => ⟨Z, F, ρ, M, _, ag, hf, fun vs H1 F1 ds ρ1 M1 s1 ag1 r1 h1 => by
  split at h1
  · rename_i j
    obtain ⟨v, rfl, rv⟩ := rps1 r1
    rw [Rp] at rv
    subst rv
    exact ⟨j, rfl, h1.1.1, h1.1.2, k _ H1 F1 _ ρ1 M1 s1 ag1 (it_rng 0 _) h1.2⟩
  · exact h1.elim⟩⟩
noncomputable def gN (i : Nat) : WG := fun d ρ M P => P (ρ.set i (.sh d)) M
private theorem jg_name {i : Nat} (hN : X.N.Nodup) (hi : X.N[i]? = some x) (hx : Loc X.env.scope x) (hf : X.fn x = true ∨ X.env.scope.names.lookup x = some .local := by first | exact .inl rfl | exact .inr rfl | assumption) : JG X (.Name x pos) (gN i) := ⟨imG (pg_name hN hi hx hf) fun v σ H Q hh => ex6 hh fun Z F ρ M d P ag r hf k => k _ H F _ M (Same.refl _) (ag.set r) hf⟩
noncomputable def wPar (i j : Nat) (f : WA) : WS := fun E ρ M => f ρ M fun ds ρ1 M1 => match ds with
  | [d, e] => E.nx ((ρ1.set i (.sh d)).set j (.sh e)) M1
  | _ => False
private theorem js_par {i j : Nat} (hh : PS X st (tPar i j (lfA X.K fl))) : JS X st (wPar i j fl) := ⟨imS hh fun D' σ H hh => ex5 hh fun Z F ρ M E ag hf k =>
  ⟨Z, F, ρ, M, _, ag, hf, fun vs H1 F1 ds ρ1 M1 s1 ag1 r1 h1 => by
    split at h1
    · obtain ⟨v, u, rfl, rv, ru⟩ := rps2 r1
      exact ⟨v, u, rfl, k.nx _ H1 F1 _ M1 s1 ((ag1.set rv).set ru) h1⟩
    · exact h1.elim⟩⟩
noncomputable def wFor (f : WI) (g : WG) (b : WS) : WS := fun E ρ M => f ρ M fun ds ρ1 M1 => ∃ I : Nat → Rho → Mm → Prop, I 0 ρ1 M1 ∧ (∀ (i : Nat) d ρ2 M2, ds[i]? = some d → I i ρ2 M2 → g d ρ2 M2 fun ρ3 M3 => b ⟨I (i + 1), E.rt, E.nx, I (i + 1)⟩ ρ3 M3) ∧ ∀ ρ2 M2, I ds.length ρ2 M2 → E.nx ρ2 M2
private theorem js_for {body : List Stmt} (hp : PassesOwn (model X.prog X.w) X.A X.env X.xe) (hc : X.calm = true) (hi : JI X tg iter fi) (hg : JG X tg fg) (hb : JSs X body fs) (hs : ∀ x, foldedSetIterable iter X.env x = pure x := by intro _; rfl) : JS X (.For tg iter body [] pos) (wFor fi fg fs) := ⟨imS (ps_for hp hc hi.h hg.h hb.h hs) fun D' σ H hh => ex5 hh fun Z F ρ M E ag hf k => ⟨Z, F, ρ, M, _, ag, hf, fun J H1 F1 ds ρ1 M1 s1 ag1 it h1 => by
  obtain ⟨In, i0, step, fin⟩ := h1
  refine ⟨fun i m σ' H' => m = ds.length - i ∧ i ≤ ds.length ∧ ∃ F' ρ' M', Same F1 F' ∧ Ag X.K Z F' M' H' ρ' σ' ∧ In i ρ' M', ⟨_, rfl, Nat.zero_le _, F1, ρ1, M1, Same.refl _, ag1, i0⟩, ?_⟩
  rintro i m σ2 H2 ⟨rfl, hi, F2, ρ2, M2, s2, ag2, h2⟩
  by_cases hl : i < ds.length
  · have e : ds[i]? = some ds[i] := List.getElem?_eq_getElem hl
    refine .inr ⟨it.go i F2 H2 hl s2 ag2.m.sm, fun σ' H' => ∃ F' ρ' M', Same F1 F' ∧ Ag X.K Z F' M' H' ρ' σ' ∧ In (i + 1) ρ' M', fun σ' H' q => ⟨ds.length - (i + 1), by omega, rfl, hl, q⟩, fun x H' y => ?_⟩
    obtain ⟨F3, gw, r3⟩ := it.yld i _ F2 H2 x H' e s2 ag2.m.sm y
    have s3 := gw.same ag2.m.sm
    refine ⟨Z, F3, ρ2, M2, _, _, gw.ag ag2, r3, step i _ ρ2 M2 e h2, fun σ4 H4 F4 ρ4 M4 s4 ag4 h4 => ⟨Z, F4, ρ4, M4, _, ag4, h4, ?_⟩⟩
    have s14 := s2.trans (s3.trans s4)
    refine ⟨fun σ' H' F' ρ' M' t a q => ⟨F', ρ', M', s14.trans t, a, q⟩, fun σ' H' F' ρ' M' t a q => k.nx σ' H' F' ρ' M' (s1.trans (s14.trans t)) a q, fun σ' H' F' ρ' M' t a q => ⟨F', ρ', M', s14.trans t, a, q⟩, fun v H' F' d M' t a r q => k.rt v H' F' d M' (s1.trans (s14.trans t)) a r q⟩
  · have : i = ds.length := by omega
    subst this
    exact .inl ⟨it.stop F2 H2 s2 ag2.m.sm, k.nx σ2 H2 F2 ρ2 M2 (s1.trans s2) ag2 (fin ρ2 M2 h2)⟩⟩⟩
noncomputable def wWhile (c : WT) (b : WS) : WS := fun E ρ M => ∃ W : Nat → Rho → Mm → Prop, (∃ m, W m ρ M) ∧ ∀ m ρ M, W m ρ M → c ρ M fun k ρ1 M1 => if k = true then b ⟨fun ρ2 M2 => ∃ m', m' < m ∧ W m' ρ2 M2, E.rt, E.nx, fun ρ2 M2 => ∃ m', m' < m ∧ W m' ρ2 M2⟩ ρ1 M1 else E.nx ρ1 M1
private theorem js_while {body : List Stmt} (hp : PassesOwn (model X.prog X.w) X.A X.env X.xe) (hc : JT X c ft) (hb : JSs X body fs) : JS X (.While c body [] pos) (wWhile ft fs) := ⟨imS (ps_while hp hc.h hb.h) fun D' σ H hh => ex5 hh fun Z F ρ M E ag hf k => by
  obtain ⟨W, ⟨m0, w0⟩, turn⟩ := hf
  refine ⟨fun m σ' H' => ∃ F' ρ' M', Same F F' ∧ Ag X.K Z F' M' H' ρ' σ' ∧ W m ρ' M', ⟨m0, F, ρ, M, Same.refl _, ag, w0⟩, ?_⟩
  rintro m σ1 H1 ⟨F1, ρ1, M1, s1, ag1, w1⟩
  refine ⟨Z, F1, ρ1, M1, _, ag1, turn m ρ1 M1 w1, fun b H2 F2 ρ2 M2 s2 ag2 h2 => ?_⟩
  cases b with
  | false => rw [if_neg Bool.false_ne_true] at h2 ⊢; exact k.nx σ1 H2 F2 ρ2 M2 (s1.trans s2) ag2 h2
  | true =>
    rw [if_pos rfl] at h2 ⊢
    refine ⟨fun σ' H' => ∃ m', m' < m ∧ ∃ F' ρ' M', Same F F' ∧ Ag X.K Z F' M' H' ρ' σ' ∧ W m' ρ' M', fun _ _ h => h, Z, F2, ρ2, M2, _, ag2, h2, ?_⟩
    have s02 := s1.trans s2
    exact ⟨fun σ' H' F' ρ' M' t a ⟨m', hm, q⟩ => ⟨m', hm, F', ρ', M', s02.trans t, a, q⟩, fun σ' H' F' ρ' M' t a q => k.nx σ' H' F' ρ' M' (s02.trans t) a q, fun σ' H' F' ρ' M' t a ⟨m', hm, q⟩ => ⟨m', hm, F', ρ', M', s02.trans t, a, q⟩, fun v H' F' d M' t a r q => k.rt v H' F' d M' (s02.trans t) a r q⟩⟩
end
noncomputable def iniR (src : List (Option Nat)) (ρ : Rho) : Rho := src.map fun o => match o with
  | none => .un
  | some j => (match ρ[j]? with
    | some (.sh d) => .sh d
    | some (.rf p) => .rf p
    | some (.ut u) => .ut u
    | _ => .un)
private theorem ag_ini {K : PySem.W.Frag} {Z F H : Hp} {M : Mm} {ρ : Rho} {σ : L2.St} (src : List (Option Nat)) (ag : Ag K Z F M H ρ σ) : Ag K (Zof F M H) F M H (iniR src ρ) (ini src σ) := by
  refine ⟨ag.m.inner, by unfold iniR ini; rw [List.length_map, List.length_map], fun i e h => ?_, fun i j ds es p n h1 h2 h3 => ?_⟩
  · unfold iniR at h
    rw [List.getElem?_map] at h
    unfold ini
    rw [List.getElem?_map]
    cases q : src[i]? with
    | none => rw [q] at h; cases h
    | some o =>
      rw [q] at h
      cases o with
      | none => cases h; trivial
      | some j =>
        simp only [Option.map_some, Option.some.injEq] at h
        simp only [Option.map_some, Option.bind_some, Option.join_some]
        cases q2 : ρ[j]? with
        | none => rw [q2] at h; subst h; trivial
        | some en =>
          rw [q2] at h
          have hen := ag.en j en q2
          cases en with
          | un => subst h; trivial
          | sh d => subst h; exact hen
          | rf p => subst h; exact hen
          | ut u => subst h; exact hen
          | ow ds => subst h; trivial
  · exfalso
    unfold iniR at h1
    rw [List.getElem?_map] at h1
    cases q : src[i]? with
    | none => rw [q] at h1; cases h1
    | some o =>
      rw [q] at h1
      cases o with
      | none => cases h1
      | some j =>
        simp only [Option.map_some, Option.some.injEq] at h1
        split at h1 <;> cases h1
noncomputable def clr (ρ : Rho) : Rho := ρ.map fun e => match e with
  | .ow _ => .un
  | e => e
private theorem ag_clr {K : PySem.W.Frag} {Z Z' F H : Hp} {M : Mm} {ρ : Rho} {σ : L2.St} (ag : Ag K Z F M H ρ σ) (m : AgM K Z' F M H) : Ag K Z' F M H (clr ρ) σ := by
  have key : ∀ {i : Nat} {e : Ent}, (clr ρ)[i]? = some e → (e = .un ∨ ρ[i]? = some e) ∧ ∀ ds, e ≠ .ow ds := fun {i e} h => by
    unfold clr at h
    rw [List.getElem?_map] at h
    cases q : ρ[i]? with
    | none => rw [q] at h; cases h
    | some en =>
      rw [q] at h
      cases en with
      | un => cases h; exact ⟨.inl rfl, fun _ z => nomatch z⟩
      | sh d => cases h; exact ⟨.inr rfl, fun _ z => nomatch z⟩
      | rf p => cases h; exact ⟨.inr rfl, fun _ z => nomatch z⟩
      | ut u => cases h; exact ⟨.inr rfl, fun _ z => nomatch z⟩
      | ow ds => cases h; exact ⟨.inl rfl, fun _ z => nomatch z⟩
  refine ⟨m, by unfold clr; rw [List.length_map]; exact ag.len, fun i e h => ?_, fun i j ds es p n h1 _ _ => absurd rfl ((key h1).2 ds)⟩
  obtain ⟨h1, h2⟩ := key h
  rcases h1 with rfl | h1
  · trivial
  · have := ag.en i e h1
    cases e with
    | un => trivial
    | sh d => exact this
    | rf p => exact this
    | ut u => exact this
    | ow ds => exact absurd rfl (h2 ds)
noncomputable def wComp (fi : WI) (g : WG) (c : WT) (f : WE) (src : List (Option Nat)) : WN := fun ρ M P => fi ρ M fun ds ρ1 M1 => ∃ I : Nat → List D → Rho → Mm → Prop, I 0 [] (iniR src ρ1) M1 ∧
  (∀ (i : Nat) d out ρ2 M2, ds[i]? = some d → I i out ρ2 M2 → g d ρ2 M2 fun ρ3 M3 => c ρ3 M3 fun b ρ4 M4 => if b = true then f ρ4 M4 fun y ρ5 M5 => out.length < sizeLine ∧ I (i + 1) (out ++ [y]) (clr ρ5) M5 else I (i + 1) out (clr ρ4) M4) ∧
  ∀ out ρ2 M2, I ds.length out ρ2 M2 → P out ρ1 M2
noncomputable def wYes : WT := fun ρ M P => P true ρ M
private theorem of_yes {K : PySem.W.Frag} : ∀ σ H Q, lfT K wYes σ H Q → tYes σ H Q := fun σ H Q hh => ex5 hh fun Z F ρ M P ag hf k => k true H F ρ M (Same.refl _) ag hf
noncomputable abbrev lfX {α : Type} (K : PySem.W.Frag) (R : Hp → α → V → Prop) (f : Rho → Mm → (α → Rho → Mm → Prop) → Prop) : TE := fun σ H Q => ∃ Z F ρ M P, Ag K Z F M H ρ σ ∧ f ρ M P ∧ ∀ v H' F' d ρ' M', Same F F' → Ag K Z F' M' H' ρ' σ → R F' d v → P d ρ' M' → Q v H'
noncomputable abbrev lfNX {α : Type} (K : PySem.W.Frag) (RL : Hp → List α → List V → Prop) (f : Rho → Mm → (List α → Rho → Mm → Prop) → Prop) : TE := fun σ H Q => ∃ Z F ρ M P, Ag K Z F M H ρ σ ∧ f ρ M P ∧ ∀ p vs H' F' ds ρ' M', Same F F' → Ag K Z F' M' H' ρ' σ → H' p = some (.lst vs) → F' p = none → M' p = none → Z p = none → (∀ (j : Nat) (es : List D), ρ'[j]? = some (.ow es) → σ[j]? ≠ some (some (.ref p))) → RL F' ds vs → P ds ρ' M' → Q (.ref p) H'
noncomputable abbrev wCompX {α : Type} (fi : WI) (g : WG) (c : WT) (f : Rho → Mm → (α → Rho → Mm → Prop) → Prop) (src : List (Option Nat)) : Rho → Mm → (List α → Rho → Mm → Prop) → Prop := fun ρ M P => fi ρ M fun ds ρ1 M1 => ∃ I : Nat → List α → Rho → Mm → Prop, I 0 [] (iniR src ρ1) M1 ∧
  (∀ (i : Nat) d out ρ2 M2, ds[i]? = some d → I i out ρ2 M2 → g d ρ2 M2 fun ρ3 M3 => c ρ3 M3 fun b ρ4 M4 => if b = true then f ρ4 M4 fun y ρ5 M5 => out.length < sizeLine ∧ I (i + 1) (out ++ [y]) (clr ρ5) M5 else I (i + 1) out (clr ρ4) M4) ∧
  ∀ out ρ2 M2, I ds.length out ρ2 M2 → P out ρ1 M2
private theorem of_compX {α : Type} {K : PySem.W.Frag} {R : Hp → α → V → Prop} {RL : Hp → List α → List V → Prop} (rn : ∀ F, RL F [] []) (rs : ∀ {F F' out ws}, Same F F' → RL F out ws → RL F' out ws) (rl : ∀ {F out ws}, RL F out ws → out.length = ws.length) (rc : ∀ {F out ws d v}, RL F out ws → R F d v → RL F (out ++ [d]) (ws ++ [v]))
    {fi : WI} {fg : WG} {fc : WT} {fe : Rho → Mm → (α → Rho → Mm → Prop) → Prop} {src : List (Option Nat)} {g : TG} {tc : TT} {te : TE} (hg : ∀ v σ H Q, lfG K fg v σ H Q → g v σ H Q) (hc : ∀ σ H Q, lfT K fc σ H Q → tc σ H Q) (he : ∀ σ H Q, lfX K R fe σ H Q → te σ H Q) :
    ∀ σ H Q, lfNX K RL (wCompX fi fg fc fe src) σ H Q → tComp (lfI K fi) g tc te src σ H Q := fun σ H Q hh => ex5 hh fun Z F ρ M P ag hf k => ⟨Z, F, ρ, M, _, ag, hf, fun J H1 F1 ds ρ1 M1 s1 ag1 it h1 D0 hD => by
  -- the new list at D0, the outer state as it was
  obtain ⟨In, i0, step, fin⟩ := h1
  obtain ⟨n1, n2, n3, n4, n5, n6, _⟩ := newN (ds := []) (vs := []) ag1 hD .nil
  refine ⟨fun i m σc Hc => m = ds.length - i ∧ i ≤ ds.length ∧ ∃ F' ρc M' out ws, Same F1 F' ∧ AgM K (Zof F1 M1 H1) F' M' Hc ∧ Hc D0 = some (.lst ws) ∧ F' D0 = none ∧ M' D0 = none ∧ RL F' out ws ∧
      Ag K (Zof F' M' Hc) F' M' Hc ρc σc ∧ In i out ρc M', ⟨_, rfl, Nat.zero_le _, F1, iniR src ρ1, M1, [], [], Same.refl _, ?_, n2, n3, n4, rn _, ?_, i0⟩, ?_⟩
  · refine ⟨n1.m.sm, fun p o h => ?_, n1.m.mo⟩
    obtain ⟨z1, z2, z3⟩ := zof_some h
    have : p ≠ D0 := fun z => by rw [z, hD] at z1; cases z1
    exact ⟨by rw [upd_ne this]; exact z1, z2, z3⟩
  · exact ag_ini src n1
  rintro i m σ2 H2 ⟨rfl, hi, F2, ρ2, M2, out, ws, s2, m2, d1, d2, d3, r2, ag2, h2⟩
  by_cases hl : i < ds.length
  · have e : ds[i]? = some ds[i] := List.getElem?_eq_getElem hl
    refine .inr ⟨it.go i F2 H2 hl s2 ag2.m.sm, fun σc Hc => ∃ F' ρc M' out ws, Same F1 F' ∧ AgM K (Zof F1 M1 H1) F' M' Hc ∧ Hc D0 = some (.lst ws) ∧ F' D0 = none ∧ M' D0 = none ∧ RL F' out ws ∧
      Ag K (Zof F' M' Hc) F' M' Hc ρc σc ∧ In (i + 1) out ρc M', fun σ' H' q => ⟨ds.length - (i + 1), by omega, rfl, hl, q⟩, fun x H' y => ?_⟩
    obtain ⟨F3, gw, r3⟩ := it.yld i _ F2 H2 x H' e s2 ag2.m.sm y
    have s3 := gw.same ag2.m.sm
    have zd : Zof F2 M2 H2 D0 = some (.lst ws) := zof_of d1 d2 d3
    refine hg _ _ _ _ ⟨Zof F2 M2 H2, F3, ρ2, M2, _, _, gw.ag ag2, r3, step i _ out ρ2 M2 e h2, fun σ4 H4 F4 ρ4 M4 s4 ag4 h4 => ?_⟩
    refine hc _ _ _ ⟨Zof F2 M2 H2, F4, ρ4, M4, _, ag4, h4, fun b H5 F5 ρ5 M5 s5 ag5 h5 => ?_⟩
    have s25 := s3.trans (s4.trans s5)
    dsimp only
    cases b with
    | false =>
      rw [if_neg Bool.false_ne_true] at h5 ⊢
      obtain ⟨z1, z2, z3⟩ := ag5.m.zz _ _ zd
      exact ⟨F5, clr ρ5, M5, out, ws, s2.trans s25, m2.back ag5.m, z1, z2, z3, rs s25 r2, ag_clr ag5 ag5.m.inner, h5⟩
    | true =>
      rw [if_pos rfl] at h5 ⊢
      refine he _ _ _ ⟨Zof F2 M2 H2, F5, ρ5, M5, _, ag5, h5, fun v H6 F6 d ρ6 M6 s6 ag6 r6 h6 => ?_⟩
      obtain ⟨z1, z2, z3⟩ := ag6.m.zz _ _ zd
      have s26 := s25.trans s6
      have m6 := m2.back ag6.m
      have ne : ∀ {q : Addr} {u : HO}, F6 q = some u → q ≠ D0 := fun e z => by rw [z, z2] at e; cases e
      have nz : Zof F1 M1 H1 D0 = none := by
        cases q : Zof F1 M1 H1 D0 with
        | none => rfl
        | some o => have := (zof_some q).1; rw [hD] at this; cases this
      have up : ∀ {Z' : Hp}, (∀ p o, Z' p = some o → p ≠ D0) → AgM K Z' F6 M6 H6 → AgM K Z' F6 M6 (upd H6 D0 (.lst (ws ++ [v]))) := fun {Z'} hz a => ⟨fun q u e => by rw [upd_ne (ne e)]; exact a.sm q u e, fun q o e => by
          obtain ⟨y1, y2, y3⟩ := a.zz q o e
          exact ⟨by rw [upd_ne (hz q o e)]; exact y1, y2, y3⟩, fun q o e => by
          obtain ⟨y1, y2⟩ := a.mo q o e
          have : q ≠ D0 := fun z => by rw [z, z3] at e; cases e
          exact ⟨y1, y2.same (Same.refl _) (upd_ne this)⟩⟩
      have a6 := up (Z' := Zof F1 M1 H1) (fun p o e z => by rw [z, nz] at e; cases e) m6
      refine ⟨ws, z1, by rw [← rl r2]; exact h6.1, F6, clr ρ6, M6, out ++ [d], ws ++ [v], s2.trans s26, a6, upd_same, z2, z3, rc (rs s26 r2) r6, ?_, h6.2⟩
      have b6 : Ag K (fun _ => none) F6 M6 H6 (clr ρ6) σ4 := ag_clr ag6 ⟨ag6.m.sm, fun p o e => (nomatch e), ag6.m.mo⟩
      have c6 : Ag K (fun _ => none) F6 M6 (upd H6 D0 (.lst (ws ++ [v]))) (clr ρ6) σ4 := by
        refine ⟨up (fun p o e => (nomatch e)) b6.m, b6.len, fun i e h => ?_, b6.di⟩
        have := b6.en i e h
        cases e with
        | un => trivial
        | sh d => exact this
        | rf p => exact this
        | ut u => exact this
        | ow ds' =>
          exfalso
          unfold clr at h
          rw [List.getElem?_map] at h
          cases q : ρ6[i]? with
          | none => rw [q] at h; cases h
          | some en => rw [q] at h; cases en <;> cases h
      have e6 := ag_clr c6 c6.m.inner
      have ce : clr (clr ρ6) = clr ρ6 := by
        unfold clr
        rw [List.map_map]
        congr 1
        funext en
        cases en <;> rfl
      rw [ce] at e6
      exact e6
  · have : i = ds.length := by omega
    subst this
    refine .inl ⟨it.stop F2 H2 s2 ag2.m.sm, ?_⟩
    have ag3 := ag1.back s2 m2
    refine k D0 ws H2 F2 out ρ1 M2 (s1.trans s2) ag3 d1 d2 d3 n5 n6 r2 (fin out ρ2 M2 h2)⟩
private theorem of_comp {K : PySem.W.Frag} {fi : WI} {fg : WG} {fc : WT} {fe : WE} {src : List (Option Nat)} {g : TG} {tc : TT} {te : TE} (hg : ∀ v σ H Q, lfG K fg v σ H Q → g v σ H Q) (hc : ∀ σ H Q, lfT K fc σ H Q → tc σ H Q) (he : ∀ σ H Q, lf K fe σ H Q → te σ H Q) :
    ∀ σ H Q, lfN K (wComp fi fg fc fe src) σ H Q → tComp (lfI K fi) g tc te src σ H Q :=
  of_compX (R := Rp K) (RL := Rps K) (fun _ => .nil) (fun s r => r.same s) (fun r => r.length) (fun r q => r.append (.cons q .nil)) hg hc he
section
variable {X : Cx} {tg elt iter : Expr} {pos : Pos} {fi : WI}
end
end L4
set_option Elab.async false
set_option linter.all false
set_option maxRecDepth 100000
namespace L4
open PySem PySem.Spec PyProof.Rows L2 L3
section
variable {X : Cx} {a b c e tg elt iter : Expr} {es ifs : List Expr} {pos cpos pos' p2 : Pos} {fa fb fe : WE} {fl : WA} {fn fm : WN} {fi : WI} {fg : WG} {fc : WT} {scope : Scope} {N : List Str} {src : List (Option Nat)} {x : Str} {k : Nat}
structure JC (X : Cx) (ifs : List Expr) (f : WT) : Prop where
  h : PIfs X ifs (lfT X.K f)
private theorem imC {t t' : TT} (h : PIfs X ifs t) (k : ∀ σ H Q, t' σ H Q → t σ H Q) : PIfs X ifs t' := fun pins s σ H Q I q => h pins s σ H Q I (k σ H Q q)
private theorem jc_nil : JC X [] wYes := ⟨imC ifs_nil of_yes⟩
private theorem jc_one (h : JT X c fc) : JC X [c] fc := ⟨ifs_one h.h⟩
private theorem jn_lc (N : List Str) (src : List (Option Nat)) (ok : CompOk X scope N src) (hcalm : X.calm = true) (hi : JI X tg iter fi)
    (hg : ∀ pins s2 H2 C fp, JG (cxComp X pins s2 H2 N scope C fp) tg fg) (hc : ∀ pins s2 H2 C fp, JC (cxComp X pins s2 H2 N scope C fp) ifs fc) (he : ∀ pins s2 H2 C fp, JE (cxComp X pins s2 H2 N scope C fp) elt fe)
    (hs : ∀ x, foldedSetIterable iter X.env x = pure x := by intro _; rfl) : JN X (.ListComp elt [⟨tg, iter, ifs, 0⟩] scope pos) (wComp fi fg fc fe src) :=
  ⟨imE (pe_comp N src ok hcalm hi.h (fun a b c d e => (hg a b c d e).h) (fun a b c d e => (hc a b c d e).h) (fun a b c d e => (he a b c d e).h) hs) (of_comp (fun _ _ _ _ h => h) (fun _ _ _ h => h) fun _ _ _ h => h)⟩
private theorem js_setC (hN : X.N.Nodup) (hk : X.N[k]? = some x) (hx : Loc X.env.scope x) (N : List Str) (src : List (Option Nat)) (ok : CompOk X scope N src) (hcalm : X.calm = true) (hi : JI X tg iter fi)
    (hg : ∀ pins s2 H2 C fp, JG (cxComp X pins s2 H2 N scope C fp) tg fg) (hc : ∀ pins s2 H2 C fp, JC (cxComp X pins s2 H2 N scope C fp) ifs fc) (he : ∀ pins s2 H2 C fp, JE (cxComp X pins s2 H2 N scope C fp) elt fe)
    (hsw : swapsWith (.ListComp elt [⟨tg, iter, ifs, 0⟩] scope cpos) (some (.Name x pos')) pos.line X.env = pure true := by rfl)
    (hs : ∀ x, foldedSetIterable iter X.env x = pure x := by intro _; rfl) (hfn : X.fn x = true ∨ X.env.scope.names.lookup x = some .local := by first | exact .inl rfl | exact .inr rfl | assumption) :
    JS X (.Assign [.Name x pos'] (.ListComp elt [⟨tg, iter, ifs, 0⟩] scope cpos) pos) (wSetN k (wComp fi fg fc fe src)) :=
  ⟨imS (ps_setComp hN hk hx N src ok hcalm hi.h (fun a b c d e => (hg a b c d e).h) (fun a b c d e => (hc a b c d e).h) (fun a b c d e => (he a b c d e).h) hsw hs hfn) fun D' σ H hh => ex5 hh fun Z F ρ M E ag hf k =>
    of_comp (fun _ _ _ _ h => h) (fun _ _ _ h => h) (fun _ _ _ h => h) σ H _ ⟨Z, F, ρ, M, _, ag, hf, fun p vs H' F' ds ρ' M' s' ag' n2 n3 n4 nz n5 r h => k.nx _ H' F' _ M' s' (ag'.setO n2 n3 n4 nz r n5) h⟩⟩
noncomputable def wList (fl : WA) : WN := fun ρ M P => fl ρ M fun ds ρ1 M1 => match ds with
  | [.lst xs] => P xs ρ1 M1
  | [.tup xs] => P xs ρ1 M1
  | _ => False
private theorem jn_list {p : Pos} (hg : Gl X "list") (hm : X.mg "list" = none) (ha : JA X [a] fl) (he : starEach [a] X.env = [(false, eval a X.env)] := by rfl) : JN X (.Call (.Name "list" p) [a] [] pos) (wList fl) := ⟨imE (pe_callTy call_list_of hg hm boot_list ha.h (by decide) (by decide) he rfl) fun σ H Q hh => ex5 hh fun Z F ρ M P ag hf k => ⟨Z, F, ρ, M, _, ag, hf, fun vs H1 F1 ds ρ1 M1 s1 ag1 r1 h1 => by
  split at h1
  · obtain ⟨v, rfl, rv⟩ := rps1 r1
    rw [Rp] at rv
    obtain ⟨q, ws, rfl, g1, g2⟩ := rv
    refine ⟨q, ws, rfl, .inl (.inl (rd_same ag1.m.sm g1)), fun p hp => ?_⟩
    obtain ⟨n1, n2, n3, n4, nz, n5, n6⟩ := newN ag1 hp g2
    exact k p ws _ F1 _ ρ1 M1 s1 n1 n2 n3 n4 nz n5 n6 h1
  · obtain ⟨v, rfl, rv⟩ := rps1 r1
    rw [Rp] at rv
    obtain ⟨q, ws, rfl, g1, g2⟩ := rv
    refine ⟨q, ws, rfl, .inr (sqT_same ag1.m.sm g1), fun p hp => ?_⟩
    obtain ⟨n1, n2, n3, n4, nz, n5, n6⟩ := newN ag1 hp g2
    exact k p ws _ F1 _ ρ1 M1 s1 n1 n2 n3 n4 nz n5 n6 h1
  · exact h1.elim⟩⟩
noncomputable def rCat4 : R2 := fun x y H Q => ∃ l b xs zs, x = .ref l ∧ y = .ref b ∧ Rd H l (.lst xs) ∧ Rd H b (.lst zs) ∧ xs.length + zs.length ≤ sizeLine ∧ ∀ p, H p = none → Q (.ref p) (upd H p (.lst (xs ++ zs)))
private theorem op_cat4 : OpR X (binaryOp .Add) rCat4 := by
  intro pins s σ H x y v u Q I rx ry h
  obtain ⟨l, b, xs, zs, rfl, rfl, hH, hB, hz, q⟩ := h
  cases rx
  cases ry
  obtain ⟨z, its, n, r, e⟩ := hH.ok I.hok
  obtain ⟨z2, its2, n2, r2, e2⟩ := hB.ok I.hok
  have hl := r.length
  have hl2 := r2.length
  refine PySem.P.add_list e e2 ?_ (by rw [List.size_toArray, List.size_toArray]; omega)
  have ea : its.toArray ++ its2.toArray = (its ++ its2).toArray := by simp
  rw [ea]
  exact ⟨.ref _, _, I.lnew (t' := s.toks) (r.append r2) (by rw [List.length_append]; omega), rfl, q _ I.fresh⟩
noncomputable def wCat (fa fb : WE) : WN := fun ρ M P => fa ρ M fun x ρ1 M1 => fb ρ1 M1 fun y ρ2 M2 => match x, y with
  | .lst xs, .lst ys => xs.length + ys.length ≤ sizeLine ∧ P (xs ++ ys) ρ2 M2
  | _, _ => False
private theorem jn_cat (ha : JE X a fa) (hb : JE X b fb) : JN X (.BinOp a .Add b pos) (wCat fa fb) := ⟨imE (pe_op op_cat4 ha.h hb.h) fun σ H Q hh => ex5 hh fun Z F ρ M P ag hf k => ⟨Z, F, ρ, M, _, ag, hf, fun v H1 F1 d ρ1 M1 s1 ag1 r1 h1 => ⟨Z, F1, ρ1, M1, _, ag1, h1, fun u H2 F2 d2 ρ2 M2 s2 ag2 r2 h2 => by
  split at h2
  · rename_i xs ys
    have r1 := r1.same s2
    rw [Rp] at r1 r2
    obtain ⟨q, ws, rfl, g1, g2⟩ := r1
    obtain ⟨q', us, rfl, g3, g4⟩ := r2
    refine ⟨q, q', ws, us, rfl, rfl, rd_same ag2.m.sm g1, rd_same ag2.m.sm g3, by rw [← g2.length, ← g4.length]; exact h2.1, fun p hp => ?_⟩
    obtain ⟨n1, n2, n3, n4, nz, n5, n6⟩ := newN ag2 hp (g2.append g4)
    exact k p _ _ F2 _ ρ2 M2 (s1.trans s2) n1 n2 n3 n4 nz n5 n6 h2.2
  · exact h2.elim⟩⟩⟩
noncomputable abbrev WO := Rho → Mm → (Option Int → Rho → Mm → Prop) → Prop
noncomputable def lfO (K : PySem.W.Frag) (f : WO) : TO := fun σ H Q => ∃ Z F ρ M P, Ag K Z F M H ρ σ ∧ f ρ M P ∧ ∀ o H' F' ρ' M', Same F F' → Ag K Z F' M' H' ρ' σ → P o ρ' M' → Q o H'
structure JO (X : Cx) (e : Option Expr) (f : WO) : Prop where
  h : PO X e (lfO X.K f)
noncomputable def wO0 : WO := fun ρ M P => P none ρ M
noncomputable def wO1 (f : WE) : WO := fun ρ M P => f ρ M fun d ρ1 M1 => match d with
  | .int i => P (some i) ρ1 M1
  | _ => False
private theorem imO {e : Option Expr} {t t' : TO} (h : PO X e t) (k : ∀ σ H Q, t' σ H Q → t σ H Q) : PO X e t' := fun pins s σ H Q I q => h pins s σ H Q I (k σ H Q q)
private theorem jo_none : JO X none wO0 := ⟨imO po_none fun σ H Q hh => ex5 hh fun Z F ρ M P ag hf k => k none H F ρ M (Same.refl _) ag hf⟩
private theorem jo_some (h : JE X e fe) : JO X (some e) (wO1 fe) := ⟨imO (po_some h.h) fun σ H Q hh => ex5 hh fun Z F ρ M P ag hf k => ⟨Z, F, ρ, M, _, ag, hf, fun v H1 F1 d ρ1 M1 s1 ag1 r1 h1 => by
  split at h1
  · rw [Rp] at r1
    exact ⟨_, r1, k _ H1 F1 ρ1 M1 s1 ag1 h1⟩
  · exact h1.elim⟩⟩
private theorem Rps.cut {K : PySem.W.Frag} {F : Hp} {ds : List D} {vs : List V} (lo hi : Option Int) (h : Rps K F ds vs) : Rps K F (L3.cutD ds lo hi) (cutV vs lo hi) := by
  unfold L3.cutD cutV
  rw [h.length]
  exact (h.drop _).take _
noncomputable def wSl (fa : WE) (fl fh : WO) : WN := fun ρ M P => fa ρ M fun x ρ1 M1 => fl ρ1 M1 fun lo ρ2 M2 => fh ρ2 M2 fun hi ρ3 M3 => match x with
  | .lst xs => P (L3.cutD xs lo hi) ρ3 M3
  | _ => False
private theorem jn_sl {lo hi : Option Expr} {fl fh : WO} (ha : JE X a fa) (hl : JO X lo fl) (hh : JO X hi fh) : JN X (.Subscript a (.Slice lo hi none p2) pos) (wSl fa fl fh) := ⟨imE (pe_slice sl_list ha.h hl.h hh.h) fun σ H Q hh => ex5 hh fun Z F ρ M P ag hf k => ⟨Z, F, ρ, M, _, ag, hf, fun v H1 F1 d ρ1 M1 s1 ag1 r1 h1 => ⟨Z, F1, ρ1, M1, _, ag1, h1, fun lo H2 F2 ρ2 M2 s2 ag2 h2 => ⟨Z, F2, ρ2, M2, _, ag2, h2, fun hi H3 F3 ρ3 M3 s3 ag3 h3 => by
  split at h3
  · rename_i xs
    have r1 := (r1.same s2).same s3
    rw [Rp] at r1
    obtain ⟨q, ws, rfl, g1, g2⟩ := r1
    refine ⟨q, ws, rfl, .inl (rd_same ag3.m.sm g1), fun p hp => ?_⟩
    obtain ⟨n1, n2, n3, n4, nz, n5, n6⟩ := newN ag3 hp (g2.cut lo hi)
    exact k p _ _ F3 _ ρ3 M3 (s1.trans (s2.trans s3)) n1 n2 n3 n4 nz n5 n6 h3
  · exact h3.elim⟩⟩⟩⟩
end
noncomputable def Sub (M' M : Mm) : Prop := ∀ p o, M' p = some o → M p = some o
private theorem AgM.sub {K : PySem.W.Frag} {Z F H : Hp} {M M' : Mm} (a : AgM K Z F M H) (s : Sub M' M) : AgM K Z F M' H := ⟨a.sm, fun p o h => by
  obtain ⟨z1, z2, z3⟩ := a.zz p o h
  refine ⟨z1, z2, ?_⟩
  cases q : M' p with
  | none => rfl
  | some o => exact absurd ((s p o q).symm.trans z3) (by simp), fun p o h => a.mo p o (s p o h)⟩
noncomputable def startR (N : List Str) (ds : List D) : Rho := ds.map Ent.sh ++ List.replicate (N.length - ds.length) .un
noncomputable def rtD (q : D → Mm → Prop) : U → Mm → Prop := fun u M => match u with
  | .d d => q d M
  | _ => False
noncomputable def endR (P : D → Mm → Prop) : WEnds := ⟨fun _ M' => ∃ M'', Sub M'' M' ∧ P .non M'', rtD fun d M' => ∃ M'', Sub M'' M' ∧ P d M'', fun _ _ => False, fun _ _ => False⟩
private theorem rtD_of {K : PySem.W.Frag} {F : Hp} {q : D → Mm → Prop} {u : U} {v : V} {M : Mm} (h : rtD q u M) (r : RU K F u v) : ∃ d, Rp K F d v ∧ q d M := by
  cases u with
  | d x => rw [RU] at r; exact ⟨x, r, h⟩
  | adr p => exact h.elim
  | ins C ns ds => exact h.elim
  | tup us => exact h.elim
private theorem ag_start {K : PySem.W.Frag} {Z F H : Hp} {M : Mm} {ds : List D} {vs : List V} (N : List Str) (m : AgM K Z F M H) (r : Rps K F ds vs) : Ag K Z F M H (startR N ds) (L2.start N vs) := by
  have hl := r.length
  refine ⟨m, by unfold startR L2.start; simp [hl], fun i e h => ?_, fun i j es fs p n h1 _ _ => ?_⟩
  · unfold startR at h
    by_cases hi : i < ds.length
    · rw [List.getElem?_append_left (by simpa using hi), List.getElem?_map] at h
      rw [List.getElem?_eq_getElem hi] at h
      cases h
      obtain ⟨v, h1, h2⟩ := r.get (List.getElem?_eq_getElem hi)
      refine ⟨v, ?_, h2⟩
      unfold L2.start
      rw [List.getElem?_append_left (by simpa [← hl] using hi), List.getElem?_map, h1]
      rfl
    · rw [List.getElem?_append_right (by simpa using hi), List.getElem?_replicate] at h
      split at h
      · cases h; trivial
      · cases h
  · unfold startR at h1
    by_cases hi : i < ds.length
    · rw [List.getElem?_append_left (by simpa using hi), List.getElem?_map, List.getElem?_eq_getElem hi] at h1
      cases h1
    · rw [List.getElem?_append_right (by simpa using hi), List.getElem?_replicate] at h1
      split at h1 <;> cases h1
private theorem _root_.L3.Def.hasW {P : Program} {w : World} {K : PySem.W.Frag} {mg : Str → Option Value} {base : Heap} {k : Nat} {x : Str} {st : Stmt} {N ps : List Str} {g : WF} (F : Def K mg x st ps) (sc : FnScope N ps (defScope st)) (len : ∀ ds M P, g ds M P → ds.length = ps.length)
    (hbody : ∀ (f : Addr) (cdv : Value) (A : Around) (outer : List Env) (s : Shared) (H : Hp) (E : XK), Room k (A.deeper (envOfC x (defScope st) s.heap.objs.size f cdv)) →
      ∃ G, JSs (cxOf CX0 P w K mg base N x (defScope st) f cdv A outer s H E).nox (defBody st) G ∧ ∀ ds M Q, g ds M Q → G (endR Q) (startR N ds) M) : Has P w K mg base CX0 (k + 1) x ps (spW K g) := by
  refine F.has sc (fun vs H Q E h => ?_) fun f cdv A outer s H vs Q E hr h => ?_
  · obtain ⟨Z, F', M, ds, P, m, r, hg, _⟩ := h
    rw [← r.length]
    exact len ds M P hg
  · obtain ⟨Z, F', M, ds, P', m, r, hg, kk⟩ := h
    obtain ⟨G, hG, hh⟩ := hbody f cdv A outer s H E hr
    refine ⟨_, hG.h, Z, F', startR N ds, M, endR P', ag_start N m r, hh ds M P' hg, ⟨fun σ' H' F2 ρ' M' s' ag' ⟨M2, hs, q⟩ => kk _ H' F2 _ M2 s' (ag'.m.sub hs) (by rw [Rp]) q, fun _ _ _ _ _ _ _ q => q.elim, fun _ _ _ _ _ _ _ q => q.elim, fun v H' F2 u M' s' m' r' q => by
      obtain ⟨d, r', M2, hs, q⟩ := rtD_of (q := fun d M' => ∃ M'', Sub M'' M' ∧ P' d M'') q r'
      exact kk v H' F2 d M2 s' (m'.sub hs) r' q⟩⟩
noncomputable def pur (g : List D → (D → Prop) → Prop) : WF := fun ds M P => g ds fun d => P d M
private theorem Sub.refl (M : Mm) : Sub M M := fun _ _ h => h
private theorem _root_.L3.Def.hasP {P : Program} {w : World} {K : PySem.W.Frag} {mg : Str → Option Value} {base : Heap} {k : Nat} {x : Str} {st : Stmt} {N ps : List Str} {g : List D → (D → Prop) → Prop} (F : Def K mg x st ps) (sc : FnScope N ps (defScope st)) (len : ∀ ds P, g ds P → ds.length = ps.length)
    (hbody : ∀ (f : Addr) (cdv : Value) (A : Around) (outer : List Env) (s : Shared) (H : Hp) (E : XK), Room k (A.deeper (envOfC x (defScope st) s.heap.objs.size f cdv)) →
      ∃ G, JSs (cxOf CX0 P w K mg base N x (defScope st) f cdv A outer s H E).nox (defBody st) G ∧ ∀ ds M Q, g ds (fun d => Q d M) → G (endR Q) (startR N ds) M) : Has P w K mg base CX0 (k + 1) x ps (spW K (pur g)) :=
  F.hasW sc (fun ds M P h => len ds _ h) hbody
end L4
set_option Elab.async false
set_option linter.all false
set_option maxRecDepth 100000
namespace L4
open PySem PySem.Spec PyProof.Rows L2 L3
section
variable {X : Cx} {a b c e o : Expr} {es : List Expr} {pos cpos apos np p : Pos} {fa fb fe fk : WE} {fl : WA} {x : Str}
noncomputable def wAtV (i : Nat) (fk : WE) : WE := fun ρ M P => match ρ[i]? with
  | some (.ow _) => wAtO i fk ρ M P
  | some (.sh d) => fk ρ M fun k ρ1 M1 => RIx d k fun z => P z ρ1 M1
  | _ => False
private theorem j_atV (i : Nat) (hk : JE X b fk) (hN : X.N[i]? = some x := by rfl) (hv : Vis X.env.scope x := by first | exact Or.inl rfl | exact Or.inr (Or.inl rfl) | exact Or.inr (Or.inr rfl)) (hs : PlainIx b := by intro _ _; rfl) (hd : (x == ("__debug__" : Str)) = false := by decide) (hcd : (x == ("__classdict__" : Str)) = false := by decide) :
    JE X (.Subscript (.Name x np) b pos) (wAtV i fk) := by
  have h1 := j_atO (fk := fk) (pe_ix (pos := pos) ix_seq (L2.pv (pos := np) i hN hv hd hcd) hk.h hs)
  have h2 := j_at (pos := pos) (jv (pos := np) i hN hv hd hcd) hk hs
  refine ⟨imE (pe_ix (pos := pos) ix_seq (L2.pv (pos := np) i hN hv hd hcd) hk.h hs) fun σ H Q hh => ex5 hh fun Z F ρ M P ag hf k => ?_⟩
  unfold wAtV at hf
  split at hf
  · obtain ⟨ho, hf⟩ := hf
    obtain ⟨ds0, ho⟩ := isOw_of ho
    obtain ⟨q, vs, e1, e2, e3, e4, e5, e6⟩ := ow_get ag ho
    refine ⟨.ref q, e1, Z, F, ρ, M, _, ag, hf, fun u H2 F2 dk ρ2 M2 s2 ag2 r2 h2 => ?_⟩
    split at h2
    · rename_i ds j hd
      rw [Rp] at r2
      split at h2
      · rename_i d hn
        obtain ⟨q', us, g1, g2, g3, g4, g5, g6⟩ := ow_get ag2 hd
        rw [e1] at g1
        cases g1
        obtain ⟨w, a1, a2⟩ := at_rps g6 hn
        exact .inl ⟨q, us, j, w, rfl, r2, SqL.of g2, a1, k w H2 F2 d ρ2 M2 s2 ag2 a2 h2⟩
      · exact h2.elim
    · exact h2.elim
  · rename_i d hd
    obtain ⟨v, g1, g2⟩ := ag.en i _ hd
    have g1' : σ[i]? = some (some v) := by
      cases q : σ[i]? with
      | none => rw [q] at g1; cases g1
      | some o => rw [q] at g1; simp at g1; rw [g1]
    refine ⟨v, g1', Z, F, ρ, M, _, ag, hf, fun u H2 F2 dk ρ2 M2 s2 ag2 r2 h2 => ?_⟩
    exact w_ix d dk v u F2 H2 Q _ ag2.m.sm (g2.same s2) r2 h2 fun z w F' H' g rp hp => k w H' F' z ρ2 M2 (s2.trans (g.same ag2.m.sm)) (g.ag ag2) rp hp
  · exact hf.elim
noncomputable def wLenV (i : Nat) : WE := fun ρ M P => match ρ[i]? with
  | some (.ow ds) => P (.int ds.length) ρ M
  | some (.sh (.lst ds)) => P (.int ds.length) ρ M
  | some (.sh (.tup ds)) => P (.int ds.length) ρ M
  | _ => False
private theorem j_lenV (i : Nat) (hg : Gl X "len") (hm : X.mg "len" = none) (hN : X.N[i]? = some x := by rfl) (hv : Vis X.env.scope x := by first | exact Or.inl rfl | exact Or.inr (Or.inl rfl) | exact Or.inr (Or.inr rfl)) (hd : (x == ("__debug__" : Str)) = false := by decide) (hcd : (x == ("__classdict__" : Str)) = false := by decide)
    (he : starEach [.Name x np] X.env = [(false, eval (.Name x np) X.env)] := by rfl) : JE X (.Call (.Name "len" p) [.Name x np] [] pos) (wLenV i) := by
  refine ⟨imE (pe_callB (pos := pos) (p := p) call_len_seq hg hm boot_len (pa_cons (L2.pv (pos := np) i hN hv hd hcd) pa_nil he) (by decide) (by decide) he rfl) fun σ H Q hh => ex5 hh fun Z F ρ M P ag hf k => ?_⟩
  have sl : ∀ {v : V}, (σ[i]?).join = some v → σ[i]? = some (some v) := fun {v} g1 => by
    cases q : σ[i]? with
    | none => rw [q] at g1; cases g1
    | some o => rw [q] at g1; simp at g1; rw [g1]
  unfold wLenV at hf
  split at hf
  · rename_i ds hd
    obtain ⟨q, vs, e1, e2, e3, e4, e5, e6⟩ := ow_get ag hd
    refine ⟨.ref q, e1, q, vs, rfl, .inl (SqL.of e2), k _ H F _ ρ M (Same.refl _) ag ?_ hf⟩
    rw [Rp, e6.length]
  · rename_i ds hd
    obtain ⟨v, g1, g2⟩ := ag.en i _ hd
    rw [Rp] at g2
    obtain ⟨q, vs, rfl, g2, g3⟩ := g2
    refine ⟨.ref q, sl g1, q, vs, rfl, .inl (.inl (rd_same ag.m.sm g2)), k _ H F _ ρ M (Same.refl _) ag ?_ hf⟩
    rw [Rp, g3.length]
  · rename_i ds hd
    obtain ⟨v, g1, g2⟩ := ag.en i _ hd
    rw [Rp] at g2
    obtain ⟨q, vs, rfl, g2, g3⟩ := g2
    refine ⟨.ref q, sl g1, q, vs, rfl, .inr (sqT_same ag.m.sm g2), k _ H F _ ρ M (Same.refl _) ag ?_ hf⟩
    rw [Rp, g3.length]
  · exact hf.elim
private theorem j_len (hg : Gl X "len") (hm : X.mg "len" = none) (ha : JA X [a] fl) (he : starEach [a] X.env = [(false, eval a X.env)] := by rfl) : JE X (.Call (.Name "len" p) [a] [] pos) (wCall RLen fl) := j_callB call_len_seq w_len hg hm boot_len ha (by decide) (by decide) he rfl
private theorem j_abs (hg : Gl X "abs") (hm : X.mg "abs" = none) (ha : JA X [a] fl) (he : starEach [a] X.env = [(false, eval a X.env)] := by rfl) : JE X (.Call (.Name "abs" p) [a] [] pos) (wCall RAbs fl) := j_callB call_abs w_abs hg hm boot_abs ha (by decide) (by decide) he rfl
private theorem j_intc (hg : Gl X "int") (hm : X.mg "int" = none) (ha : JA X [a] fl) (he : starEach [a] X.env = [(false, eval a X.env)] := by rfl) : JE X (.Call (.Name "int" p) [a] [] pos) (wCall RInt fl) := j_callTy call_int1 w_int hg hm boot_int ha (by decide) (by decide) he rfl
private theorem j_isW {T : String} {y : Str} (t : D → Bool) (hk : ∀ d, PySem.W.kitOne X.K (.type (tyN d)) (.type T) = some (t d)) (hg : Gl X "isinstance") (hm : X.mg "isinstance" = none) (hgT : Gl X y) (hmT : X.mg y = none) (hb : bootBuiltins y = some (.type T)) (ha : JE X a fa) (hn : y ≠ "__name__" := by decide) (hdb : (y == ("__debug__" : Str)) = false := by decide)
    (he : starEach [a, .Name y np] X.env = [(false, eval a X.env), (false, eval (.Name y np) X.env)] := by rfl) (he2 : starEach [.Name y np] X.env = [(false, eval (.Name y np) X.env)] := by rfl) : JE X (.Call (.Name "isinstance" p) [a, .Name y np] [] pos) (wIs t fa) :=
  j_is (n := T) hk (fun {ta} hta => pe_callB (pos := pos) (p := p) call_is4 hg hm boot_isinstance (pa_cons hta (pa_cons (pe_bltn (v := .ty T) hgT hmT hb rfl hn hdb) pa_nil he2) (by rw [he, he2])) (by decide) (by decide) (by rw [he, he2]) (by rw [he2]; rfl)) ha
private theorem js_appW (i : Nat) (he : JE X e fe) (hN : X.N[i]? = some x := by rfl) (hv : Vis X.env.scope x := by first | exact Or.inl rfl | exact Or.inr (Or.inl rfl) | exact Or.inr (Or.inr rfl)) (hd : (x == ("__debug__" : Str)) = false := by decide) (hcd : (x == ("__classdict__" : Str)) = false := by decide)
    (hbase : attributeBase (.Name x np) "append" X.env (eval (.Name x np) X.env) = eval (.Name x np) X.env := by rfl)
    (hfew : ((backTo cpos (starEach [e] X.env)).all (fun x => !x.1) && (backToKw cpos (keywordEach [] X.env)).all (fun x => x.1.isSome) && decide ([e].length + ([] : List Keyword).length + (if ([] : List Keyword).isEmpty then 0 else 1) < 30)) = true := by rfl)
    (hline : (apos.endLine == cpos.line) = true := by rfl) (hs : starEach [e] X.env = [(false, eval e X.env)] := by rfl) (hplain : (backTo cpos (starEach [] X.env)).any (·.1) = false := by rfl)
    (hsw : swapsWith (.Call (.Attribute (.Name x np) "append" apos) [e] [] cpos) none pos.line X.env = pure false := by rfl) : JS X (.Expr (.Call (.Attribute (.Name x np) "append" apos) [e] [] cpos) pos) (wApp i fe) :=
  js_app (ps_expr (pe_bm PySem.F.plainAttrs_list PySem.F.slot_list_append PySem.F.type_list_append mt_append (L2.pv i hN hv hd hcd) (ja_cons he ja_nil hs).h hbase hfew hline hs hplain) hsw)
private theorem js_setIxW (i : Nat) {k : Expr} {spos : Pos} (he : JE X e fe) (hk : JE X k fk) (hN : X.N[i]? = some x := by rfl) (hv : Vis X.env.scope x := by first | exact Or.inl rfl | exact Or.inr (Or.inl rfl) | exact Or.inr (Or.inr rfl)) (hd : (x == ("__debug__" : Str)) = false := by decide) (hcd : (x == ("__classdict__" : Str)) = false := by decide)
    (ha : ∀ v, assign (.Subscript (.Name x np) k spos) X.env v = (do
      let ov ← holding [v] (eval (.Name x np) X.env)
      let iv ← holding [v, ov] (eval k X.env)
      standAt spos
      holding [v, ov, iv] (setItem ov iv v)
      release [v, ov, iv] []) := by intro _; rfl)
    (hs : swapsWithSole [.Subscript (.Name x np) k spos] e pos.line X.env = pure false := by rfl) (hw : swappedStores [.Subscript (.Name x np) k spos] e X.env = pure none := by rfl) (h1 : (assignEach [.Subscript (.Name x np) k spos] X.env).map (·.2) = [assign (.Subscript (.Name x np) k spos) X.env] := by rfl) :
    JS X (.Assign [.Subscript (.Name x np) k spos] e pos) (wSetIx i fk fe) := js_setIx (ps_asg he.h (pg_sub (L2.pv i hN hv hd hcd) hk.h set_list ha) hs hw h1)
end
end L4
set_option Elab.async false
set_option linter.all false
set_option maxRecDepth 100000
namespace L4
open PySem PySem.Spec PyProof.Rows L2 L3
section
variable {X : Cx} {a : Expr} {ta : TA} {p pos tpos : Pos} {elts : List Expr} {k : Nat} {fl : WA}
end
end L4
set_option Elab.async false
set_option linter.all false
set_option maxRecDepth 100000
namespace L4
open PySem PySem.Spec PyProof.Rows L2 L3
noncomputable abbrev Pool := Mm → Addr → Prop
noncomputable def spD (K : PySem.W.Frag) (Pl : Pool) (g : List D → (D → Prop) → Prop) : Sp := fun vs H Q _ => ∃ Z F M p vs' ds P, vs = .ref p :: vs' ∧ AgM K Z F M H ∧ Pl M p ∧ Rps K F ds vs' ∧ g ds P ∧ ∀ v H' F' d, Same F F' → AgM K Z F' M H' → Rp K F' d v → P d → Q v H'
noncomputable def wDr (Pl : Pool) (i : Nat) (g : List D → (D → Prop) → Prop) (fl : WA) : WE := fun ρ M P => match ρ[i]? with
  | some (.rf p) => fl ρ M fun ds ρ1 M1 => Pl M1 p ∧ g ds fun d => P d ρ1 M1
  | _ => False
section
variable {X : Cx} {e : Expr} {es : List Expr} {pos np p : Pos} {fl : WA} {x y : Str} {Pl : Pool} {g : List D → (D → Prop) → Prop} {k : Nat} {ps : List Str}
private theorem j_hD (i : Nat) (F : Has X.prog X.w X.K X.mg X.base CX0 k x ps (spD X.K Pl g)) (hr : Room k X.A) (hg : Gl X x) (ha : JA X es fl) (hN : X.N[i]? = some y := by rfl) (hv : Vis X.env.scope y := by first | exact Or.inl rfl | exact Or.inr (Or.inl rfl) | exact Or.inr (Or.inr rfl)) (hd : (y == ("__debug__" : Str)) = false := by decide) (hcd : (y == ("__classdict__" : Str)) = false := by decide)
    (hdb : (x == ("__debug__" : Str)) = false := by decide) (he : starEach (.Name y np :: es) X.env = (false, eval (.Name y np) X.env) :: starEach es X.env := by rfl) (hpl : (backTo pos (starEach es X.env)).any (·.1) = false := by rfl) :
    JE X (.Call (.Name x p) (.Name y np :: es) [] pos) (wDr Pl i g fl) := ⟨imE (pe_h F hr hg pass0 (pa_cons (L2.pv i hN hv hd hcd) ha.h he) hdb he hpl) fun σ H Q hh => ex5 hh fun Z F ρ M P ag hf k => by
  unfold wDr at hf
  split at hf
  · rename_i q hq
    have h0 := ag.en i _ hq
    have hs : σ[i]? = some (some (.ref q)) := by
      have h0 : (σ[i]?).join = some (.ref q) := h0
      cases z : σ[i]? with
      | none => rw [z] at h0; cases h0
      | some o => rw [z] at h0; simp at h0; rw [h0]
    refine ⟨.ref q, hs, Z, F, ρ, M, _, ag, hf, fun vs H1 F1 ds ρ1 M1 s1 ag1 r1 h1 => ?_⟩
    show spD X.K Pl g ((.ref q :: vs) ++ []) H1 Q E0
    rw [List.append_nil]
    exact ⟨_, F1, M1, q, vs, ds, _, rfl, ag1.m.inner, h1.1, r1, h1.2, fun v H' F' d s' m' r h => k v H' F' d ρ1 M1 (s1.trans s') (ag1.back s' m') r h⟩
  · exact hf.elim⟩
end
noncomputable def startD (N : List Str) (p : Addr) (ds : List D) : Rho := .rf p :: (ds.map Ent.sh ++ List.replicate (N.length - (ds.length + 1)) .un)
private theorem ag_startD {K : PySem.W.Frag} {Z F H : Hp} {M : Mm} {p : Addr} {ds : List D} {vs : List V} (N : List Str) (m : AgM K Z F M H) (r : Rps K F ds vs) : Ag K Z F M H (startD N p ds) (L2.start N (.ref p :: vs)) := by
  have hl := r.length
  have ei : L2.start N (.ref p :: vs) = some (.ref p) :: (vs.map some ++ List.replicate (N.length - (vs.length + 1)) none) := by
    unfold L2.start
    simp
  rw [ei]
  have key : ∀ {i : Nat} {e : Ent}, (ds.map Ent.sh ++ List.replicate (N.length - (ds.length + 1)) Ent.un)[i]? = some e → (e = .un) ∨ ∃ d, e = .sh d ∧ ds[i]? = some d := fun {i e} h => by
    by_cases hi : i < ds.length
    · rw [List.getElem?_append_left (by simpa using hi), List.getElem?_map, List.getElem?_eq_getElem hi] at h
      cases h
      exact .inr ⟨_, rfl, List.getElem?_eq_getElem hi⟩
    · rw [List.getElem?_append_right (by simpa using hi), List.getElem?_replicate] at h
      split at h
      · cases h; exact .inl rfl
      · cases h
  refine ⟨m, by unfold startD; simp [hl], fun i e h => ?_, fun i j es fs q n h1 _ _ => ?_⟩
  · cases i with
    | zero => unfold startD at h; simp at h; subst h; rfl
    | succ i =>
      unfold startD at h
      rw [List.getElem?_cons_succ] at h
      rcases key h with rfl | ⟨d, rfl, hd⟩
      · trivial
      · obtain ⟨v, h1, h2⟩ := r.get hd
        refine ⟨v, ?_, h2⟩
        rw [List.getElem?_cons_succ, List.getElem?_append_left (by simp [← hl]; exact (List.getElem?_eq_some_iff.mp hd).1), List.getElem?_map, h1]
        rfl
  · cases i with
    | zero => unfold startD at h1; simp at h1
    | succ i =>
      unfold startD at h1
      rw [List.getElem?_cons_succ] at h1
      rcases key h1 with z | ⟨d, z, _⟩
      · cases z
      · cases z
private theorem _root_.L3.Def.hasD {P : Program} {w : World} {K : PySem.W.Frag} {mg : Str → Option Value} {base : Heap} {k : Nat} {x : Str} {st : Stmt} {N ps : List Str} {Pl : Pool} {g : List D → (D → Prop) → Prop} (F : Def K mg x st ps) (sc : FnScope N ps (defScope st)) (len : ∀ ds P, g ds P → ds.length + 1 = ps.length)
    (hbody : ∀ (f : Addr) (cdv : Value) (A : Around) (outer : List Env) (s : Shared) (H : Hp) (E : XK), Room k (A.deeper (envOfC x (defScope st) s.heap.objs.size f cdv)) →
      ∃ G, JSs (cxOf CX0 P w K mg base N x (defScope st) f cdv A outer s H E).nox (defBody st) G ∧ ∀ p ds M Q, Pl M p → g ds Q → G ⟨fun _ M' => Sub M M' ∧ Q .non, rtD fun d M' => Sub M M' ∧ Q d, fun _ _ => False, fun _ _ => False⟩ (startD N p ds) M) : Has P w K mg base CX0 (k + 1) x ps (spD K Pl g) := by
  refine F.has sc (fun vs H Q E h => ?_) fun f cdv A outer s H vs Q E hr h => ?_
  · obtain ⟨Z, F', M, p, vs', ds, P, rfl, m, hp, r, hg, _⟩ := h
    rw [List.length_cons, ← r.length]
    exact len ds P hg
  · obtain ⟨Z, F', M, p, vs', ds, P', rfl, m, hp, r, hg, kk⟩ := h
    obtain ⟨G, hG, hh⟩ := hbody f cdv A outer s H E hr
    refine ⟨_, hG.h, Z, F', startD N p ds, M, _, ag_startD N m r, hh p ds M P' hp hg, ⟨fun σ' H' F2 ρ' M' s' ag' ⟨hs, q⟩ => kk _ H' F2 _ s' (ag'.m.sub hs) (by rw [Rp]) q, fun _ _ _ _ _ _ _ q => q.elim, fun _ _ _ _ _ _ _ q => q.elim, fun v H' F2 u M' s' m' r' q => by
      obtain ⟨d, r', hs, q⟩ := rtD_of (q := fun d M' => Sub M M' ∧ P' d) q r'
      exact kk v H' F2 d s' (m'.sub hs) r' q⟩⟩
noncomputable def isCells : HO → Prop := fun o => ∃ ns : List Int, ns ≠ [] ∧ ns.length ≤ 63 ∧ o = .lst (ns.map V.int)
noncomputable def isDeck (c : Addr) : HO → Prop := fun o => ∃ f n : Int, o = .lst [.ref c, .int f, .int n]
noncomputable def Deck : Pool := fun M p => ∃ c, M p = some (.op (isDeck c)) ∧ M c = some (.op isCells)
noncomputable def gDraw : List D → (D → Prop) → Prop := fun ds P => ∃ many : Int, ds = [.int many] ∧ 0 < many ∧ many < 1073741824 ∧ ∀ r : Int, 0 ≤ r → r < many → P (.int r)
end L4
set_option Elab.async false
set_option linter.all false
set_option maxRecDepth 100000
namespace L4
open PySem PySem.Spec PyProof.Rows L2 L3
section
variable {X : Cx} {a b c e : Expr} {es : List Expr} {pos cpos apos np p p2 : Pos} {fa fb fe fk : WE} {fl : WA} {fn : WN} {x : Str}
noncomputable def bls : List D → Option (List Bool)
  | [] => some []
  | .bl b :: r => (bls r).map (b :: ·)
  | _ :: _ => none
private theorem bls_rps {K : PySem.W.Frag} {F : Hp} : ∀ {ds : List D} {bs : List Bool} {vs : List V}, bls ds = some bs → Rps K F ds vs → vs = bs.map V.bl
  | [], bs, vs, h, r => by rw [Rps] at r; subst r; cases h; rfl
  | .bl b :: ds, bs, vs, h, r => by
    rw [bls] at h
    cases q : bls ds with
    | none => rw [q] at h; cases h
    | some l =>
      rw [q] at h
      cases h
      rw [Rps] at r
      obtain ⟨v, w, rfl, h1, h2⟩ := r
      rw [Rp] at h1
      rw [h1, bls_rps q h2]
      rfl
  | .non :: _, _, _, h, _ => by cases h
  | .int _ :: _, _, _, h, _ => by cases h
  | .str _ :: _, _, _, h, _ => by cases h
  | .tup _ :: _, _, _, h, _ => by cases h
  | .lst _ :: _, _, _, h, _ => by cases h
noncomputable def RAll (g : List Bool → Bool) : List D → (D → Prop) → Prop := fun xs P => match xs with
  | [.lst ds] => (match bls ds with
    | some bs => P (.bl (g bs))
    | none => False)
  | _ => False
private theorem w_all {g : List Bool → Bool} : CaW X (fun xs H Q => ∃ (p : Addr) (bs : List Bool), xs = [.ref p] ∧ SqL X.K H p (bs.map V.bl) ∧ Q (.bl (g bs)) H) (RAll g) := by
  intro xs vs F H Q P sm rs h k
  unfold RAll at h
  split at h
  · rename_i ds
    split at h
    · rename_i bs hb
      obtain ⟨v, rfl, r⟩ := rps1 rs
      rw [Rp] at r
      obtain ⟨q, ws, rfl, h1, h2⟩ := r
      have := bls_rps hb h2
      subst this
      exact ⟨q, bs, rfl, .inl (rd_same sm h1), k _ _ F H .rf (by rw [Rp]) h⟩
    · exact h.elim
  · exact h.elim
private theorem j_all (hg : Gl X "all") (hm : X.mg "all" = none) (hc : X.calm = true) (ha : JA X [a] fl) (he : starEach [a] X.env = [(false, eval a X.env)] := by rfl) : JE X (.Call (.Name "all" p) [a] [] pos) (wCall (RAll fun bs => bs.all id) fl) := j_callB (call_all hc) w_all hg hm boot_all ha (by decide) (by decide) he rfl
end
end L4
set_option Elab.async false
set_option linter.all false
set_option maxRecDepth 100000
namespace L4
open PySem PySem.Spec PyProof.Rows L2 L3
section
variable {X : Cx} {e st : Expr} {pos p2 p3 p4 : Pos} {te : TE} {fe : WE}
private theorem vals_rev : ∀ {xs : List V} {us : List Value}, Vals xs us → Vals xs.reverse us.reverse
  | _, _, .nil => .nil
  | _, _, .cons r t => by rw [List.reverse_cons, List.reverse_cons]; exact (vals_rev t).append (.cons r .nil)
private theorem pe_m1 {k : Nat} : PE X (.UnaryOp .USub (.Constant (.int 1) k p4) p3) (tC (.int (-1))) := imE (pe_un un_neg pe_int) fun σ H Q q => ⟨1, rfl, q⟩
private theorem Rps.rev {K : PySem.W.Frag} {F : Hp} : ∀ {ds : List D} {vs : List V}, Rps K F ds vs → Rps K F ds.reverse vs.reverse
  | [], vs, h => by rw [Rps] at h; subst h; exact .nil
  | d :: ds, vs, h => by
    rw [Rps] at h
    obtain ⟨v, r, rfl, h1, h2⟩ := h
    rw [List.reverse_cons, List.reverse_cons]
    exact (Rps.rev h2).append (by rw [Rps]; exact ⟨_, _, rfl, h1, .nil⟩)
end
noncomputable def wCut (f : WS) : WS := fun E ρ M => ∃ I : Rho → Mm → Prop, f ⟨I, E.rt, E.bk, E.ct⟩ ρ M ∧ ∀ ρ1 M1, I ρ1 M1 → E.nx ρ1 M1
private theorem js_cut {X : Cx} {st : Stmt} {f : WS} (h : JS X st f) : JS X st (wCut f) := ⟨imS h.h fun D' σ H ⟨Z, F, ρ, M, E, ag, ⟨I, hf, hI⟩, k⟩ => ⟨Z, F, ρ, M, ⟨I, E.rt, E.bk, E.ct⟩, ag, hf, ⟨fun σ' H' F' ρ' M' s ag' i => k.nx σ' H' F' ρ' M' s ag' (hI ρ' M' i), k.bk, k.ct, k.rt⟩⟩⟩
private theorem rng_get {lo : Int} {n i : Nat} {d : D} (h : (rngD lo n)[i]? = some d) : d = .int (lo + (i : Int)) ∧ i < n := by
  have hi := (List.getElem?_eq_some_iff.mp h).1
  unfold rngD at h hi
  rw [List.length_map, List.length_range] at hi
  rw [List.getElem?_map, List.getElem?_range hi] at h
  exact ⟨(Option.some.inj h).symm, hi⟩
private theorem rng_len {lo : Int} {n : Nat} : (rngD lo n).length = n := by simp [rngD]
end L4
set_option Elab.async false
set_option linter.all false
set_option maxRecDepth 100000
namespace L4
open PySem PySem.Spec PyProof.Rows L2 L3
section
variable {X : Cx} {e : Expr} {es : List Expr} {pos np p : Pos} {fl : WA} {x y : Str} {φ : Int → HO → Prop} {c : Int} {g : List D → (D → Prop) → Prop} {k : Nat} {ps : List Str}
end
end L4
set_option Elab.async false
set_option linter.all false
set_option maxRecDepth 100000
namespace L4
open PySem PySem.Spec PyProof.Rows L2 L3
section
variable {K : PySem.W.Frag} {Z F G H : Hp} {M : Mm}
end
section
variable {M M1 M2 : Mm} {d : D} {u : U} {ds es : List D} {us ws : List U} {p : Addr}
end
end L4
set_option Elab.async false
set_option linter.all false
set_option maxRecDepth 100000
namespace L4
open PySem PySem.Spec PyProof.Rows L2 L3
section
variable {K : PySem.W.Frag} {Z F H : Hp} {M : Mm} {ρ : Rho} {σ : L2.St} {p : Addr}
end
section
variable {X : Cx} {a b c e : Expr} {es rest : List Expr} {pos p p2 : Pos} {fa fb fe : WE} {ft : WT} {fl : WA} {fn : WN} {ga gb ge : WU} {gl : WUA} {st : Stmt} {sts : List Stmt} {fs : WS} {x : Str}
section
variable {i : Nat} {pos' : Pos}
end
end
end L4
set_option Elab.async false
set_option linter.all false
set_option maxRecDepth 100000
namespace L4
open PySem PySem.Spec PyProof.Rows L2 L3
section
variable {X : Cx} {a b c e tg elt iter : Expr} {es ifs : List Expr} {pos cpos pos' p2 : Pos} {fi : WI} {fg : WG} {fc : WT} {fe : WU} {scope : Scope} {N : List Str} {src : List (Option Nat)} {x : Str} {k : Nat}
end
section
variable {X : Cx} {e : Expr} {es : List Expr} {pos p : Pos} {fl : WA} {x : Str} {g : List D → (D → Prop) → Prop} {k : Nat} {ps : List Str}
end
section
variable {K : PySem.W.Frag} {Z F H : Hp} {M : Mm} {A : List Addr}
end
section
variable {X : Cx} {e : Expr} {ft : WT} {i : Nat}
end
end L4
set_option Elab.async false
set_option linter.all false
set_option maxRecDepth 100000
namespace L4
open PySem PySem.Spec PyProof.Rows L2 L3
section
variable {X : Cx} {a b c e : Expr} {es rest : List Expr} {pos p p2 : Pos} {fa fb fe : WE} {ft : WT} {fl : WA} {ga gb ge : WU} {x : Str}
noncomputable def RTupC : List D → (D → Prop) → Prop := fun xs P => match xs with
  | [.lst ds] => P (.tup ds)
  | [.tup ds] => P (.tup ds)
  | _ => False
private theorem w_tupc : CaW X (fun xs H Q => ∃ p ys, xs = [.ref p] ∧ ((SqL X.K H p ys ∧ ∀ l, H l = none → Q (.ref l) (upd H l (.tup ys))) ∨ (SqT X.K H p ys ∧ Q (.ref p) H))) RTupC := by
  intro xs vs F H Q P sm rs h k
  unfold RTupC at h
  split at h
  · obtain ⟨v, rfl, r⟩ := rps1 rs
    rw [Rp] at r
    obtain ⟨q, ws, rfl, h1, h2⟩ := r
    refine ⟨q, ws, rfl, .inl ⟨.inl (rd_same sm h1), fun l hl => ?_⟩⟩
    have sn : Same F (upd F l (.tup ws)) := Same.new (sub_none sm hl)
    exact k _ _ _ _ (.nw hl) (by rw [Rp]; exact ⟨l, ws, rfl, SqT.of upd_same, h2.same sn⟩) h
  · obtain ⟨v, rfl, r⟩ := rps1 rs
    have r0 := r
    rw [Rp] at r
    obtain ⟨q, ws, rfl, h1, h2⟩ := r
    exact ⟨q, ws, rfl, .inr ⟨sqT_same sm h1, k _ _ F H .rf r0 h⟩⟩
  · exact h.elim
private theorem j_tupc (hg : Gl X "tuple") (hm : X.mg "tuple" = none) (ha : JA X [a] fl) (he : starEach [a] X.env = [(false, eval a X.env)] := by rfl) : JE X (.Call (.Name "tuple" p) [a] [] pos) (wCall RTupC fl) := j_callTy call_tuple_of w_tupc hg hm boot_tuple ha (by decide) (by decide) he rfl
noncomputable def RCatT : D → D → (D → Prop) → Prop := fun x y P => match x, y with
  | .tup xs, .tup ys => xs ≠ [] ∧ ys ≠ [] ∧ xs.length + ys.length ≤ sizeLine ∧ P (.tup (xs ++ ys))
  | _, _ => False
private theorem w_catT : OpW X (rCatT X.K) RCatT := by
  intro x y v u F H Q P sm rx ry h k
  unfold RCatT at h
  split at h
  · rw [Rp] at rx ry
    obtain ⟨q, vs, rfl, g1, g2⟩ := rx
    obtain ⟨q', us, rfl, g3, g4⟩ := ry
    obtain ⟨n1, n2, n3, hp⟩ := h
    have m1 : vs ≠ [] := fun z => by subst z; have := g2.length; simp at this; exact n1 this
    have m2 : us ≠ [] := fun z => by subst z; have := g4.length; simp at this; exact n2 this
    refine ⟨q, q', vs, us, rfl, rfl, sqT_same sm g1, sqT_same sm g3, m1, by rw [← g2.length, ← g4.length]; exact n3, fun z => (m2 z).elim, fun _ l hl => ?_⟩
    have sn : Same F (upd F l (.tup (vs ++ us))) := Same.new (sub_none sm hl)
    exact k _ _ _ _ (.nw hl) (by rw [Rp]; exact ⟨l, _, rfl, SqT.of upd_same, (g2.append g4).same sn⟩) hp
  · exact h.elim
private theorem j_catT (ha : JE X a fa) (hb : JE X b fb) : JE X (.BinOp a .Add b pos) (wOp RCatT fa fb) := j_op op_catT w_catT ha hb
noncomputable def wSlT (fa : WE) (fl fh : WO) : WE := fun ρ M P => fa ρ M fun x ρ1 M1 => fl ρ1 M1 fun lo ρ2 M2 => fh ρ2 M2 fun hi ρ3 M3 => match x with
  | .tup xs => ¬ (HT.sIx xs.length 0 lo = 0 ∧ HT.sIx xs.length xs.length hi = xs.length) ∧ P (.tup (L3.cutD xs lo hi)) ρ3 M3
  | _ => False
private theorem j_slT {lo hi : Option Expr} {fl fh : WO} (ha : JE X a fa) (hl : JO X lo fl) (hh : JO X hi fh) : JE X (.Subscript a (.Slice lo hi none p2) pos) (wSlT fa fl fh) := ⟨imE (pe_slice sl_tup ha.h hl.h hh.h) fun σ H Q hh => ex5 hh fun Z F ρ M P ag hf k => ⟨Z, F, ρ, M, _, ag, hf, fun v H1 F1 d ρ1 M1 s1 ag1 r1 h1 => ⟨Z, F1, ρ1, M1, _, ag1, h1, fun lo H2 F2 ρ2 M2 s2 ag2 h2 => ⟨Z, F2, ρ2, M2, _, ag2, h2, fun hi H3 F3 ρ3 M3 s3 ag3 h3 => by
  split at h3
  · rename_i xs
    have r1 := (r1.same s2).same s3
    rw [Rp] at r1
    obtain ⟨q, ws, rfl, g1, g2⟩ := r1
    refine ⟨q, ws, rfl, sqT_same ag3.m.sm g1, by rw [← g2.length]; exact h3.1, fun p hp => ?_⟩
    have sn : Same F3 (upd F3 p (.tup (cutV ws lo hi))) := Same.new (sub_none ag3.m.sm hp)
    exact k _ _ (upd F3 p _) _ ρ3 M3 (s1.trans (s2.trans (s3.trans sn))) (ag3.new hp) (by rw [Rp]; exact ⟨p, _, rfl, SqT.of upd_same, (g2.cut lo hi).same sn⟩) h3.2
  · exact h3.elim⟩⟩⟩⟩
end
section
variable {K : PySem.W.Frag} {Z F H : Hp} {M : Mm} {ρ : Rho} {σ : L2.St} {p : Addr}
end
section
variable {X : Cx} {e : Expr} {es : List Expr} {pos np p cpos pos' : Pos} {fl : WA} {x y f : Str} {Pl : Pool} {gk : List D → Prop} {φ : HO → Prop} {k i : Nat} {ps : List Str}
end
end L4
set_option Elab.async false
set_option linter.all false
set_option maxRecDepth 100000
namespace L4
open PySem PySem.Spec PyProof.Rows L2 L3
section
variable {K : PySem.W.Frag}
end
section
variable {X : Cx} {a b c e : Expr} {es : List Expr} {pos np p cpos pos' spos : Pos} {fa fb fe fk : WE} {fl : WA} {ge : WU} {x y : Str}
end
end L4
set_option Elab.async false
set_option linter.all false
set_option maxRecDepth 100000
namespace L4
open PySem PySem.Spec PyProof.Rows L2 L3
section
variable {X : Cx} {e1 e2 e3 : Expr} {f1 f2 f3 : WE} {k1 k2 k3 : Str} {j1 j2 j3 : Nat} {pos p1 p2 p3 rpos : Pos}
end
section
variable {X : Cx} {es es2 : List Expr} {pos np p p2 cpos : Pos} {fl fl2 : WA} {x y f : Str} {Pl : Pool} {gk : List D → Prop} {φ : Int → HO → Prop} {g : List D → (D → Prop) → Prop} {k k' : Nat} {b c : Int} {ps ps' : List Str}
end
end L4
set_option Elab.async false
set_option linter.all false
set_option maxRecDepth 100000
namespace L4
open PySem PySem.Spec PyProof.Rows L2 L3
section
variable {K : PySem.W.Frag} {F : Hp} {A : List Addr}
end
section
variable {K : PySem.W.Frag} {Z F F' H H' : Hp} {M M' : Mm} {ρ : Rho} {σ : L2.St} {A : List Addr} {d d' : D} {u u' : U} {v : V}
private theorem none_of (a : AgM K Z F M H) {p : Addr} (h : H p = none) : F p = none ∧ M p = none ∧ Z p = none := by
  refine ⟨sub_none a.sm h, ?_, ?_⟩
  · cases q : M p with
    | none => rfl
    | some o =>
      obtain ⟨_, k⟩ := a.mo p o q
      obtain ⟨u, hu⟩ := k.there
      rw [h] at hu; cases hu
  · cases q : Z p with
    | none => rfl
    | some o => have := (a.zz p o q).1; rw [h] at this; cases this
end
section
variable {X : Cx} {e : Expr} {es : List Expr} {pos p : Pos} {fl : WA} {x : Str} {g : List D → (D → Prop) → Prop} {k i : Nat} {ps : List Str}
end
section
variable {X : Cx} {a b c e tg elt iter : Expr} {es ifs : List Expr} {pos cpos pos' p2 : Pos} {fe : WE} {fi : WI} {fg : WG} {fc : WT} {scope : Scope} {N : List Str} {src : List (Option Nat)} {x : Str} {k : Nat}
end
section
variable {K : PySem.W.Frag} {Z F G H : Hp} {M : Mm}
end
end L4
set_option Elab.async false
set_option linter.all false
set_option maxRecDepth 100000
namespace L4
open PySem PySem.Spec PyProof.Rows L2 L3
section
variable {X : Cx} {pins : List (Addr × Obj)} {σ : L2.St} {H : Hp} {s : Shared}
end
section
variable {K : PySem.W.Frag} {Z F H : Hp} {M : Mm} {ρ : Rho} {σ : L2.St} {p : Addr}
end
section
variable {X : Cx} {a b c e f : Expr} {es : List Expr} {pos np p apos cpos pos' dpos : Pos} {fl : WA} {x y : Str} {i : Nat}
end
end L4
set_option Elab.async false
set_option linter.all false
set_option maxRecDepth 100000
namespace L4
open PySem PySem.Spec PyProof.Rows L2 L3
section
variable {X : Cx} {a b c e tg : Expr} {es : List Expr} {pos np p p2 pos2 apos cpos : Pos} {fl : WA} {fn : WN} {x : Str}
end
end L4
set_option Elab.async false
set_option linter.all false
set_option maxRecDepth 100000
namespace L4
open PySem PySem.Spec PyProof.Rows L2 L3 PySem.SeqAt
section
variable {X : Cx} {e : Expr} {es : List Expr} {fl : WA} {fs : WS} {x n f S : Str} {i j : Nat} {g : List D → (Option D → Prop) → Prop} {k : Nat} {ps : List Str} {b0 : Stmt} {suite : List Stmt} {pos pos' p cpos np hpos tpos : Pos} {C Sa : Addr}
end
section
variable {X : Cx} {a b e : Expr} {pos np p np2 : Pos} {x y : Str}
end
open Classical in
private theorem in_deep {X : Cx} {pins : List (Addr × Obj)} {σ : L2.St} {H : Hp} {s : Shared} (I : Inv X pins σ H s) {A : Around} (hu : A.units + 60 < cLine) {d : D} {x : V} {u : Value} (rx : Rp X.K H d x) (ru : RelV x u) {es : List D} {vs : List V} {us : List Value} (re : Rps X.K H es vs) (rv : Vals vs us) (hd : ∀ e ∈ es, dep e ≤ 50) :
    ∃ e : Value → Bool, (∀ y, y ∈ us.toArray → EqAt A.in1 s y u (e y)) ∧ us.toArray.any e = es.any fun e => peq e d := by
  have uniq : ∀ (i j : Nat) (a b : D) (y : Value), es[i]? = some a → es[j]? = some b → us[i]? = some y → us[j]? = some y → a = b := fun i j a b y h1 h2 h3 h4 => by
    obtain ⟨v1, g1, g2⟩ := re.get h1
    obtain ⟨v2, g3, g4⟩ := re.get h2
    obtain ⟨w1, f1, f2⟩ := rv.get g1
    obtain ⟨w2, f3, f4⟩ := rv.get g3
    rw [h3] at f1
    rw [h4] at f3
    cases f1
    cases f3
    have := RelV.inj f2 f4
    subst this
    exact Rp.inj I g2 g4
  let e : Value → Bool := fun y => decide (∃ (i : Nat) (a : D), es[i]? = some a ∧ us[i]? = some y ∧ peq a d = true)
  have ev : ∀ (i : Nat) (a : D) (y : Value), es[i]? = some a → us[i]? = some y → e y = peq a d := fun i a y h1 h2 => by
    show decide _ = _
    by_cases c : peq a d = true
    · rw [c]; exact decide_eq_true ⟨i, a, h1, h2, c⟩
    · rw [Bool.not_eq_true] at c
      rw [c]
      refine decide_eq_false ?_
      rintro ⟨j, b, h3, h4, h5⟩
      rw [uniq j i b a y h3 h1 h4 h2, c] at h5
      cases h5
  have ll : es.length = us.length := re.length.trans rv.length
  refine ⟨e, fun y hy => ?_, ?_⟩
  · have hy : y ∈ us := by simpa using hy
    obtain ⟨i, hi⟩ := List.mem_iff_getElem?.mp hy
    have hil : i < es.length := by rw [ll]; exact (List.getElem?_eq_some_iff.mp hi).1
    have ha : es[i]? = some es[i] := List.getElem?_eq_getElem hil
    obtain ⟨v1, g1, g2⟩ := re.get ha
    obtain ⟨w1, f1, f2⟩ := rv.get g1
    rw [hi] at f1
    cases f1
    rw [ev i _ y ha hi]
    exact (deep4 I A.in1 _ d v1 x y u (hd _ (List.getElem_mem hil)) (by rw [in1_units]; omega) g2 rx f2 ru).1
  · rw [← Array.any_toList]
    show us.any e = _
    rw [Bool.eq_iff_iff, List.any_eq_true, List.any_eq_true]
    constructor
    · rintro ⟨y, hy, h⟩
      obtain ⟨i, hi⟩ := List.mem_iff_getElem?.mp hy
      have hil : i < es.length := by rw [ll]; exact (List.getElem?_eq_some_iff.mp hi).1
      have ha : es[i]? = some es[i] := List.getElem?_eq_getElem hil
      rw [ev i _ y ha hi] at h
      exact ⟨_, List.getElem_mem hil, h⟩
    · rintro ⟨a, ha, h⟩
      obtain ⟨i, hi⟩ := List.mem_iff_getElem?.mp ha
      have hil : i < us.length := by rw [← ll]; exact (List.getElem?_eq_some_iff.mp hi).1
      have hy : us[i]? = some us[i] := List.getElem?_eq_getElem hil
      exact ⟨_, List.getElem_mem hil, by rw [ev i a _ hi hy]; exact h⟩
noncomputable def rInD (K : PySem.W.Frag) (f : Bool → Bool) : R2 := fun x y H Q => ∃ d l es vs, Rp K H d x ∧ y = .ref l ∧ Rd H l (.lst vs) ∧ Rps K H es vs ∧ (∀ e ∈ es, dep e ≤ 50) ∧ Q (.bl (f (es.any fun e => peq e d))) H
private theorem op_notInD {X : Cx} (hu : X.A.units + 60 < cLine) : OpR X (compareOp .NotIn) (rInD X.K not) := by
  intro pins s σ H x y u v Q I rx ry h
  obtain ⟨d, l, es, vs, hd, rfl, hl, re, dd, q⟩ := h
  cases ry
  obtain ⟨its, rv, pl, hz⟩ := I.list (.inl hl)
  obtain ⟨e, h1, h2⟩ := in_deep I hu hd rx re rv dd
  refine notIn_listAt e pl.isList h1 ?_
  rw [h2]
  exact ⟨.bl _, H, I, rfl, q⟩
noncomputable def RIn (f : Bool → Bool) : D → D → (D → Prop) → Prop := fun x y P => match y with
  | .lst es => (∀ e ∈ es, dep e ≤ 50) ∧ P (.bl (f (es.any fun e => peq e x)))
  | _ => False
private theorem w_in {X : Cx} (f : Bool → Bool) : OpW X (rInD X.K f) (RIn f) := fun x y v u F H Q P sm rx ry h k => by
  unfold RIn at h
  split at h
  · rename_i es
    rw [Rp] at ry
    obtain ⟨q, vs, rfl, g1, g2⟩ := ry
    exact ⟨x, q, es, vs, rx.same sm, rfl, rd_same sm g1, g2.same sm, h.1, k _ _ F H .rf (by rw [Rp]) h.2⟩
  · exact h.elim
section
variable {X : Cx} {a b : Expr} {pos : Pos} {fa fb : WE}
private theorem j_notIn {k : Nat} (hr : Room k X.A) (ha : JE X a fa) (hb : JE X b fb) (hm : behindInMarks .NotIn b = false := by with_unfolding_all rfl) : JE X (.Compare a [.NotIn] [b] pos) (wOp (RIn not) fa fb) := j_cmp (op_notInD (Room.u60 hr)) (w_in not) ha hb hm
end
end L4
set_option Elab.async false
set_option linter.all false
set_option maxRecDepth 100000
namespace L4
open PySem PySem.Spec PySem.Calls PyProof.Rows L2 L3
section
variable {P : Program} {w : World} {K : PySem.W.Frag} {mg : Str → Option Value} {base : Heap} {k : Nat} {x : Str} {st : Stmt} {N ps : List Str} {g : WFU}
end
section
variable {X : Cx} {a e : Expr} {es : List Expr} {pos p apos : Pos} {gl : WUA} {ga ge : WU} {fe : WE} {fl : WA} {x f : Str} {k : Nat} {ps : List Str}
end
section
variable {K : PySem.W.Frag} {Z F H H' : Hp} {M : Mm} {ρ : Rho} {σ : L2.St} {P : Addr} {lpos : Pos} {q : Str}
end
section
variable {X : Cx} {e : Expr} {fe : WE} {i j : Nat} {x y fld : Str} {c P cy C : Addr} {params : Arguments} {scope : Scope} {p pos lpos kp1 kp2 np p1 p2 p3 p4 : Pos} {ns : List Str}
end
end L4
set_option Elab.async false
set_option linter.all false
set_option maxRecDepth 100000
namespace L4
open PySem PySem.Spec PySem.Calls PyProof.Rows L2 L3
section
variable {X : Cx} {a b : Expr} {pos : Pos} {fa fb : WE}
end
private theorem len1 {α : Type} : ∀ {l : List α}, l.length = 1 → ∃ a, l = [a]
  | [a], _ => ⟨a, rfl⟩
private theorem len2 {α : Type} : ∀ {l : List α}, l.length = 2 → ∃ a b, l = [a, b] := fun {l} h => match l with
  | a :: l => let ⟨b, e⟩ := len1 (l := l) (Nat.succ.inj h); ⟨a, b, congrArg _ e⟩
private theorem len3 {α : Type} : ∀ {l : List α}, l.length = 3 → ∃ a b c, l = [a, b, c] := fun {l} h => match l with
  | a :: l => let ⟨b, c, e⟩ := len2 (l := l) (Nat.succ.inj h); ⟨a, b, c, congrArg _ e⟩
end L4
set_option Elab.async false
set_option linter.all false
set_option maxRecDepth 100000
set_option maxHeartbeats 4000000
namespace M
open PySem PySem.Spec PyProof.Rows L2 L3 L4
noncomputable def top (i : Nat) : Stmt := PySem.Challenge.pw_shimright_k06_what_is_a_plan.main.body.getD i (.Pass ⟨0, 0, 0, 0⟩)
section
variable {P : Program} {w : World} {K : PySem.W.Frag} {mg : Str → Option Value} {base : Heap}
/-! ### fractions, over trees -/
noncomputable abbrev s_common_divisor : Stmt := top 4
private theorem sc_common_divisor : FnScope ["one", "other", "larger", "smaller", "rest"] ["one", "other"] (defScope s_common_divisor) := ⟨rfl, rfl, rfl, by decide +kernel, rfl, by decide +kernel, by decide +kernel⟩
noncomputable def gGcd : List D → (D → Prop) → Prop := fun ds P => ∃ a b : Int, ds = [.int a, .int b] ∧ P (.int (Int.gcd a b : Int))
private theorem abs_gcd (a b : Int) : Int.gcd (if a < 0 then -a else a) (if b < 0 then -b else b) = Int.gcd a b := by
  split <;> split <;> simp [Int.gcd_neg, Int.neg_gcd]
private theorem h_common_divisor (B : Bl mg) (F : Def K mg "common_divisor" s_common_divisor ["one", "other"]) : Has P w K mg base CX0 1 "common_divisor" ["one", "other"] (spW K (pur gGcd)) := by
  refine F.hasP sc_common_divisor (fun ds P h => by obtain ⟨a, b, rfl, _⟩ := h; rfl) fun f cdv A outer s H E hr => ?_
  have nd := sc_common_divisor.nd
  refine ⟨_, (jss_cons (js_set (i := 2) nd rfl (Or.inl rfl) (j_abs rfl B.abs (ja_cons (jv 0) ja_nil)))
    (jss_cons (js_set (i := 3) nd rfl (Or.inl rfl) (j_abs rfl B.abs (ja_cons (jv 1) ja_nil)))
    (jss_cons (js_while PassesOwn.never (jt_ne hr (jv 3) j_int) (jss_cons (js_set (i := 4) nd rfl (Or.inl rfl) (j_mod (jv 2) (jv 3)))
    (jss_cons (js_set (i := 2) nd rfl (Or.inl rfl) (jv 3))
    (jss_one (js_set (i := 3) nd rfl (Or.inl rfl) (jv 4))))))
    (jss_one (js_ret (jv 2)))))), ?_⟩
  rintro ds M Q ⟨a, b, rfl, q⟩
  refine ⟨fun m ρ M' => M' = M ∧ ∃ (l k : Int) (r : Ent), ρ = [.sh (.int a), .sh (.int b), .sh (.int l), .sh (.int k), r] ∧ m = k.natAbs ∧ 0 ≤ l ∧ 0 ≤ k ∧ Int.gcd l k = Int.gcd a b, ⟨_, rfl, _, _, _, rfl, rfl, ?_, ?_, abs_gcd a b⟩, ?_⟩
  · split <;> omega
  · split <;> omega
  rintro m ρ M' ⟨rfl, l, k, r, rfl, rfl, hl, hk, e⟩
  refine ⟨by show 0 ≤ 60; decide, ?_⟩
  show if (!(k == 0)) = true then _ else _
  refine iteB (fun c => ?_) (fun c => ?_)
  · have c' : k ≠ 0 := by simpa using c
    exact ⟨c', _, fmod_small (a := l) c', rfl, _, _, _, rfl, rfl, hk, Int.fmod_nonneg hl hk, by rw [gcd_step, e]⟩
  · have c' : k = 0 := by simpa using c
    subst c'
    have e2 : l = (Int.gcd a b : Int) := by
      rw [← e, Int.gcd_zero_right]
      omega
    exact ⟨_, Sub.refl _, by rw [e2]; exact q⟩

/-! ### the deck -/
noncomputable abbrev s_law_deck : Stmt := top 13
private theorem sc_law_deck : FnScope ["script", "cells"] ["script"] (defScope s_law_deck) := ⟨rfl, rfl, rfl, by decide +kernel, rfl, by decide +kernel, by decide +kernel⟩
noncomputable def spDeck (K : PySem.W.Frag) : Sp := fun vs H Q _ => ∃ (a : Addr) (ns : List Int), vs = [.ref a] ∧ SqL K H a (ns.map V.int) ∧ ns.length ≤ 63 ∧ ∀ d c H', Same H H' → DeckAt H' d c → Q (.ref d) H'
private theorem cut63 {ns : List Int} : cutV (ns.map V.int) none (some 63) = (ns.take 63).map V.int := by
  unfold cutV HT.sIx
  simp [List.map_take]
private theorem h__law_deck (B : Bl mg) (F : Def K mg "_law_deck" s_law_deck ["script"]) : Has P w K mg base CX0 1 "_law_deck" ["script"] (spDeck K) := by
  refine F.has sc_law_deck (fun vs H Q E h => by obtain ⟨a, ns, rfl, _⟩ := h; rfl) (fun f cdv A outer s H vs Q E hr h => ?_)
  obtain ⟨a, ns, rfl, hS, h63, q⟩ := h
  have nd := sc_law_deck.nd
  refine ⟨_, (pss_cons (ps_set (i := 1) nd rfl (Or.inl rfl) (pe_callTy call_list_of rfl B.list boot_list (pa_cons (pe_slice sl_list (pv 0) po_none (po_some pe_int)) pa_nil)))
    (pss_cons (ps_if (pt_cmpR (op_eqD (Room.u60 hr)) (pv 1) (pe_lst pa_nil) (nomark _)) (pss_one (ps_set (i := 1) nd rfl (Or.inl rfl) (pe_lst (pa_cons pe_int pa_nil)))) pss_nil)
    (pss_one (ps_ret (pe_lst (pa_cons (pv 1) (pa_cons (pe_op op_mod (pe_callB call_len_seq rfl B.len boot_len (pa_cons (pv 0) pa_nil)) pe_int) (pa_cons pe_int pa_nil)))))))), ?_⟩
  refine ⟨_, rfl, _, rfl, a, _, rfl, hS, fun p hp => ?_⟩
  rw [cut63]
  refine ⟨p, _, rfl, .inl (SqL.of upd_same), fun c hc => ?_⟩
  refine ⟨_, rfl, (by show 0 ≤ sizeLine; decide), fun e he => ?_⟩
  have g1 := Same.new (o := .lst ((ns.take 63).map V.int)) hp
  have g2 := Same.new (o := .lst ((ns.take 63).map V.int)) hc
  have g3 := Same.new (o := .lst []) he
  have l63 : (ns.take 63).length ≤ 63 := by rw [List.length_take]; omega
  have rc := Rep.lst (H := upd (upd (upd H p (.lst ((ns.take 63).map V.int))) c (.lst ((ns.take 63).map V.int))) e (.lst [])) (g3 _ _ upd_same) (Reps.ints (ns.take 63))
  refine ⟨_, _, rc, Rep.nil upd_same, by rw [dep, deps_ints]; decide, _, rfl, ?_⟩
  rw [peq_nil]
  have fin : ∀ (c' : Addr) (H' : Hp) (cs : List Int), Same H H' → H' c' = some (.lst (cs.map V.int)) → cs ≠ [] → cs.length ≤ 63 → ∀ d, H' d = none → Q (.ref d) (upd H' d (.lst [.ref c', .int ((((ns.map V.int).length : Nat) : Int) % 2), .int 0])) := by
    intro c' H' cs g h1 h2 h3 d hd
    exact q d c' _ (g.trans (Same.new hd)) ⟨_, _, cs, upd_same, upd_get hd h1, h2, h3⟩
  refine iteB (fun cc => ?_) (fun cc => ?_)
  · refine ⟨(by show 1 ≤ sizeLine; decide), fun c' hc' => ?_⟩
    have g4 := Same.new (o := .lst [.int 0]) hc'
    refine ⟨_, rfl, _, rfl, a, _, rfl, .inl ((g1.trans (g2.trans (g3.trans g4))).seq hS), _, _, rfl, rfl, (show (0 : Int) < 2 by decide), (by show 3 ≤ sizeLine; decide), fun d hd => ?_⟩
    exact fin c' _ [0] (g1.trans (g2.trans (g3.trans g4))) upd_same (by simp) (by decide) d hd
  · refine ⟨_, rfl, _, rfl, a, _, rfl, .inl ((g1.trans (g2.trans g3)).seq hS), _, _, rfl, rfl, (show (0 : Int) < 2 by decide), (by show 3 ≤ sizeLine; decide), fun d hd => ?_⟩
    exact fin c _ (ns.take 63) (g1.trans (g2.trans g3)) (g3 _ _ upd_same) (by intro z; rw [z] at cc; simp at cc) l63 d hd

noncomputable abbrev s_law_draw : Stmt := top 14
private theorem sc_law_draw : FnScope ["deck", "many", "at", "found", "number"] ["deck", "many"] (defScope s_law_draw) := ⟨rfl, rfl, rfl, by decide +kernel, rfl, by decide +kernel, by decide +kernel⟩
noncomputable def spDraw : Sp := fun vs H Q _ => ∃ (d c : Addr) (many : Int), vs = [.ref d, .int many] ∧ DeckAt H d c ∧ 0 < many ∧ many < 1073741824 ∧ ∀ r H', 0 ≤ r → r < many → DeckAt H' d c → Kept [d, c] H H' → Q (.int r) H'
private theorem h__law_draw (B : Bl mg) (F : Def K mg "_law_draw" s_law_draw ["deck", "many"]) : Has P w K mg base CX0 1 "_law_draw" ["deck", "many"] spDraw := by
  refine F.has sc_law_draw (fun vs H Q E h => by obtain ⟨d, c, m, rfl, _⟩ := h; rfl) (fun f cdv A outer s H vs Q E hr h => ?_)
  obtain ⟨d, c, many, rfl, hD, m0, m1, q⟩ := h
  have cd := hD.ne
  obtain ⟨fl, n, ns, hd, hc, hne, h63⟩ := hD
  have nd := sc_law_draw.nd
  have lp : 0 < ns.length := List.length_pos_iff.mpr hne
  refine ⟨_, (pss_cons (ps_set (i := 2) nd rfl (Or.inl rfl) (pe_op op_mod (pe_ix ix_list (pv 0) pe_int (fun _ _ => rfl)) (pe_callB call_len_seq rfl B.len boot_len (pa_cons (pe_ix ix_list (pv 0) pe_int (fun _ _ => rfl)) pa_nil))))
    (pss_cons (ps_asg (pe_op op_add (pe_ix ix_list (pv 0) pe_int (fun _ _ => rfl)) pe_int) (pg_sub (pv 0) pe_int set_list))
    (pss_cons (ps_if (pt_cmpR op_eq (pe_ix ix_list (pv 0) pe_int (fun _ _ => rfl)) pe_int (nomark _)) (pss_cons (ps_set (i := 3) nd rfl (Or.inl rfl) (pe_op op_mod (pe_ix ix_list (pe_ix ix_list (pv 0) pe_int (fun _ _ => rfl)) (pv 2) (fun _ _ => rfl)) (pv 1)))
    (pss_cons (ps_asg (pe_op op_fdiv (pe_ix ix_list (pe_ix ix_list (pv 0) pe_int (fun _ _ => rfl)) (pv 2) (fun _ _ => rfl)) (pv 1)) (pg_sub (pe_ix ix_list (pv 0) pe_int (fun _ _ => rfl)) (pv 2) set_list))
    (pss_one (ps_ret (pv 3))))) pss_nil)
    (pss_cons (ps_set (i := 4) nd rfl (Or.inl rfl) (pe_op op_mod (pe_op op_add (pe_op op_mul (pe_op op_mod (pe_ix ix_list (pe_ix ix_list (pv 0) pe_int (fun _ _ => rfl)) (pv 2) (fun _ _ => rfl)) pe_int) pe_int) (pe_op op_mul (pe_ix ix_list (pv 0) pe_int (fun _ _ => rfl)) pe_int)) pe_int))
    (pss_cons (ps_set (i := 4) nd rfl (Or.inl rfl) (pe_op op_mod (pe_op op_mul (pv 4) (pv 4)) pe_int))
    (pss_one (ps_ret (pe_op op_mod (pe_op op_fdiv (pe_op op_mod (pe_op op_add (pe_op op_mul (pv 4) pe_int) (pe_ix ix_list (pv 0) pe_int (fun _ _ => rfl))) pe_int) pe_int) (pv 1))))))))), ?_⟩
  refine ⟨_, rfl, d, _, _, _, rfl, rfl, SqL.of hd, rfl, _, rfl, d, _, _, _, rfl, rfl, SqL.of hd, rfl, c, _, rfl, .inl (SqL.of hc), _, _, rfl, rfl, ?_, ?_⟩
  · rw [List.length_map]; omega
  have e0 : (0 : Int) ≤ n % (((ns.map V.int).length : Nat) : Int) := Int.emod_nonneg _ (by rw [List.length_map]; omega)
  have e1 : n % (((ns.map V.int).length : Nat) : Int) < (ns.length : Int) := by
    have := Int.emod_lt_of_pos n (b := (((ns.map V.int).length : Nat) : Int)) (by rw [List.length_map]; omega)
    rw [List.length_map] at this ⊢
    exact this
  have e1m : n % (((ns.map V.int).length : Nat) : Int) < (((ns.map V.int).length : Nat) : Int) := Int.emod_lt_of_pos n (by rw [List.length_map]; omega)
  obtain ⟨v, hv, hv2⟩ := at_ints e0 e1
  refine ⟨_, rfl, d, _, _, _, rfl, rfl, SqL.of hd, rfl, _, _, rfl, rfl, ?_⟩
  refine ⟨_, rfl, d, _, _, _, rfl, rfl, hd, rfl, ?_⟩
  have hd1 : upd H d (.lst [.ref c, .int fl, .int (n + 1)]) d = some (.lst [.ref c, .int fl, .int (n + 1)]) := upd_same
  have hc1 : upd H d (.lst [.ref c, .int fl, .int (n + 1)]) c = some (.lst (ns.map V.int)) := by rw [upd_ne cd]; exact hc
  have k1 : Kept [d, c] H (upd H d (.lst [.ref c, .int fl, .int (n + 1)])) := Kept.upd (by simp)
  refine ⟨_, rfl, d, _, _, _, rfl, rfl, SqL.of hd1, rfl, rfl, _, rfl, ?_⟩
  refine iteB (fun cc => ?_) (fun cc => ?_)
  · refine ⟨_, rfl, d, _, _, _, rfl, rfl, SqL.of hd1, rfl, _, rfl, c, _, _, _, rfl, rfl, SqL.of hc1, hv, _, rfl, _, _, rfl, rfl, m0, ?_⟩
    refine ⟨_, rfl, d, _, _, _, rfl, rfl, SqL.of hd1, rfl, _, rfl, c, _, _, _, rfl, rfl, SqL.of hc1, hv, _, rfl, _, _, rfl, rfl, ⟨m0, m1⟩, ?_⟩
    refine ⟨_, rfl, d, _, _, _, rfl, rfl, SqL.of hd1, rfl, _, rfl, c, _, _, _, rfl, rfl, hc1, ixN_in e0 e1m, ?_⟩
    rw [set_ints]
    refine ⟨_, rfl, ?_⟩
    refine q _ _ (Int.emod_nonneg _ (by omega)) (Int.emod_lt_of_pos _ m0) ⟨fl, n + 1, _, ?_, upd_same, ?_, ?_⟩ (k1.trans (Kept.upd (by simp)))
    · rw [upd_ne (Ne.symm cd)]; exact hd1
    · intro z
      have := congrArg List.length z
      rw [List.length_set, List.length_nil] at this
      omega
    · rw [List.length_set]; exact h63
  · refine ⟨_, rfl, d, _, _, _, rfl, rfl, SqL.of hd1, rfl, _, rfl, c, _, _, _, rfl, rfl, SqL.of hc1, hv, _, _, rfl, rfl, (show (0 : Int) < 1000000021 by decide), _, _, rfl, rfl, .inr ⟨by decide, by decide⟩, ?_⟩
    refine ⟨_, rfl, d, _, _, _, rfl, rfl, SqL.of hd1, rfl, _, _, rfl, rfl, .inr ⟨by decide, by decide⟩, _, _, rfl, rfl, _, _, rfl, rfl, (show (0 : Int) < 1000000033 by decide), ?_⟩
    have x0 : 0 ≤ (v % 1000000021 * 6563 + (n + 1) * 130363) % 1000000033 := Int.emod_nonneg _ (by decide)
    have x1 : (v % 1000000021 * 6563 + (n + 1) * 130363) % 1000000033 < 1000000033 := Int.emod_lt_of_pos _ (by decide)
    have x2 : CMul ((v % 1000000021 * 6563 + (n + 1) * 130363) % 1000000033) ((v % 1000000021 * 6563 + (n + 1) * 130363) % 1000000033) := .inl ⟨by omega, by omega⟩
    refine ⟨_, rfl, _, rfl, _, _, rfl, rfl, x2, _, _, rfl, rfl, (show (0 : Int) < 469762049 by decide), ?_⟩
    refine ⟨_, rfl, _, _, rfl, rfl, .inr ⟨by decide, by decide⟩, _, rfl, d, _, _, _, rfl, rfl, SqL.of hd1, rfl, _, _, rfl, rfl, _, _, rfl, rfl, (show (0 : Int) < 167772161 by decide), _, _, rfl, rfl, ⟨by decide, by decide⟩, _, rfl, _, _, rfl, rfl, m0, ?_⟩
    exact q _ _ (Int.emod_nonneg _ (by omega)) (Int.emod_lt_of_pos _ m0) ⟨fl, n + 1, ns, hd1, hc1, hne, h63⟩ k1

/-! ### draws, over trees -/
private theorem draw4 {k : Nat} (h : Has P w K mg base CX0 k "_law_draw" ["deck", "many"] spDraw) : Has P w K mg base CX0 k "_law_draw" ["deck", "many"] (spD K Deck gDraw) := by
  obtain ⟨f, fd, F, b, kp, m⟩ := h.ex
  refine ⟨f, fd, F.imp ?_, b, kp, m⟩
  rintro vs H Q E ⟨Z, F', M, p, vs', ds, P, rfl, ag, ⟨c, h1, h2⟩, r, ⟨many, rfl, m0, m1, q⟩, kk⟩
  obtain ⟨v, rfl, rv⟩ := rps1 r
  rw [Rp] at rv
  subst rv
  obtain ⟨f1, o1, ho1, fl, n, rfl⟩ := ag.mo p _ h1
  obtain ⟨f2, o2, ho2, ns, ne, l63, rfl⟩ := ag.mo c _ h2
  have nin : ∀ b, b ≠ p → b ≠ c → b ∉ [p, c] := fun b h1 h2 z => by
    rcases List.mem_cons.mp z with e | z
    · exact h1 e
    · rcases List.mem_cons.mp z with e | z
      · exact h2 e
      · cases z
  refine ⟨p, c, many, rfl, ⟨fl, n, ns, ho1, ho2, ne, l63⟩, m0, m1, fun r H' r0 r1 hD kp => kk (.int r) H' F' (.int r) (Same.refl _) ⟨fun b o e => ?_, fun b o e => ?_, fun b o e => ?_⟩ (by rw [Rp]) (q r r0 r1)⟩
  · exact kp b o (nin b (fun z => by rw [z, f1] at e; cases e) (fun z => by rw [z, f2] at e; cases e)) (ag.sm b o e)
  · obtain ⟨a1, a2, a3⟩ := ag.zz b o e
    exact ⟨kp b o (nin b (fun z => by rw [z, h1] at a3; cases a3) (fun z => by rw [z, h2] at a3; cases a3)) a1, a2, a3⟩
  · obtain ⟨fl', n', ns', g1, g2, g3, g4⟩ := hD
    by_cases e1 : b = p
    · subst e1
      rw [h1] at e
      cases e
      exact ⟨f1, _, g1, fl', n', rfl⟩
    · by_cases e2 : b = c
      · subst e2
        rw [h2] at e
        cases e
        exact ⟨f2, _, g2, ns', g3, g4, rfl⟩
      · obtain ⟨a1, a2⟩ := ag.mo b o e
        obtain ⟨u, hu⟩ := a2.there
        exact ⟨a1, MOk.same (Same.refl _) ((kp b u (nin b e1 e2) hu).trans hu.symm) a2⟩
noncomputable def deckM (d c : Addr) : Mm := mset (mset (fun _ => none) c (.op isCells)) d (.op (isDeck c))
private theorem deck_start {H : Hp} {d c : Addr} {ρ : Rho} {σ : L2.St} (hD : DeckAt H d c) (hl : ρ.length = σ.length) (he : ∀ (j : Nat) (e : Ent), ρ[j]? = some e → e = .un ∨ (e = .rf d ∧ σ[j]? = some (some (.ref d)))) : Ag K (fun _ => none) (fun _ => none) (deckM d c) H ρ σ ∧ Deck (deckM d c) d := by
  have cd := hD.ne
  obtain ⟨fl, n, ns, g1, g2, g3, g4⟩ := hD
  refine ⟨⟨⟨fun _ _ e => (nomatch e), fun _ _ e => (nomatch e), fun b o e => ?_⟩, hl, fun j e h => ?_, fun i j ds es p _ h1 => ?_⟩, c, mset_same, ?_⟩
  · unfold deckM at e
    by_cases e1 : b = d
    · subst e1
      rw [mset_same] at e
      cases e
      exact ⟨rfl, _, g1, fl, n, rfl⟩
    · rw [mset_ne e1] at e
      by_cases e2 : b = c
      · subst e2
        rw [mset_same] at e
        cases e
        exact ⟨rfl, _, g2, ns, g3, g4, rfl⟩
      · rw [mset_ne e2] at e; cases e
  · rcases he j e h with rfl | ⟨rfl, hs⟩
    · trivial
    · show (σ[j]?).join = some (.ref d)
      rw [hs]; rfl
  · rcases he i _ h1 with e | ⟨e, _⟩ <;> cases e
  · unfold deckM
    rw [mset_ne cd, mset_same]

/-! ### of lists -/
private theorem all_snoc {α : Type} {l : List α} {x : α} {p : α → Prop} (h : ∀ y ∈ l, p y) (k : p x) : ∀ y ∈ l ++ [x], p y := fun y hy => by
  rcases List.mem_append.mp hy with z | z
  · exact h y z
  · rw [List.mem_singleton] at z; subst z; exact k
private theorem ixN_ok {n k : Nat} (h : k < n) : ixN n (k : Int) = some k := by
  unfold ixN
  rw [if_pos (by omega), if_pos (by omega)]
  rfl
private theorem at_nat {α : Type} {ds : List α} {k : Nat} {d : α} (h : ds[k]? = some d) : atI ds (k : Int) = some d := by
  have := (List.getElem?_eq_some_iff.mp h).1
  unfold atI
  rw [ixN_ok this]; exact h
private theorem RIx.get {ds : List D} {k : Nat} {d : D} {P : D → Prop} (h : ds[k]? = some d) (p : P d) : RIx (.lst ds) (.int (k : Int)) P := by
  show match atI ds (k : Int) with | some d => P d | none => False
  rw [at_nat h]; exact p
private theorem rng_get0 {n i : Nat} {d : D} (h : (rngD 0 n)[i]? = some d) : d = .int (i : Int) ∧ i < n := by
  obtain ⟨h1, h2⟩ := rng_get h
  rw [Int.zero_add] at h1
  exact ⟨h1, h2⟩
private theorem at_mem {ds : List D} {i : Int} (h0 : 0 ≤ i) (h1 : i < ds.length) : ∃ d, d ∈ ds ∧ atI ds i = some d := by
  have hi : i.toNat < ds.length := by omega
  refine ⟨ds[i.toNat], List.getElem_mem hi, ?_⟩
  unfold atI ixN
  rw [if_pos (by omega), if_pos (by omega)]
  exact List.getElem?_eq_getElem hi
private theorem RIx.lst {ds : List D} {i : Int} {P : D → Prop} (h0 : 0 ≤ i) (h1 : i < ds.length) (k : ∀ d, d ∈ ds → P d) : RIx (.lst ds) (.int i) P := by
  obtain ⟨d, h2, h3⟩ := at_mem h0 h1
  show match atI ds i with | some d => P d | none => False
  rw [h3]; exact k d h2
private theorem take_map' {α : Type} {f : α → D} {l : List α} {i : Nat} {x : α} (h : l[i]? = some x) : (l.take i).map f ++ [f x] = (l.take (i + 1)).map f := by
  rw [List.take_add_one, h, List.map_append]; rfl

/-! ### k06's numbers -/
noncomputable def gFr : List D → (D → Prop) → Prop := fun ds P => ∃ a b : Int, ds = [.int a, .int b] ∧ b ≠ 0 ∧ Sm 9000 b ∧ P (frD (Rat.divInt a b))
/-! ### the law's own numbers, over trees -/
noncomputable abbrev s_law_divisor : Stmt := top 15
private theorem sc_law_divisor : FnScope ["one", "other"] ["one", "other"] (defScope s_law_divisor) := ⟨rfl, rfl, rfl, by decide +kernel, rfl, by decide +kernel, by decide +kernel⟩
private theorem h__law_divisor (B : Bl mg) (F : Def K mg "_law_divisor" s_law_divisor ["one", "other"]) : Has P w K mg base CX0 1 "_law_divisor" ["one", "other"] (spW K (pur gGcd)) := by
  refine F.hasP sc_law_divisor (fun ds P h => by obtain ⟨a, b, rfl, _⟩ := h; rfl) fun f cdv A outer s H E hr => ?_
  have nd := sc_law_divisor.nd
  refine ⟨_, (jss_cons (js_while PassesOwn.never (jt_ne hr (jv 1) j_int) (jss_one (js_par (ps_par (i := 0) (j := 1) rfl nd rfl rfl (by decide) rfl rfl (JA.h (ja_cons (jv 1) (ja_cons (j_mod (jv 0) (jv 1)) ja_nil))) rfl))))
    (jss_one (js_ret (j_abs rfl B.abs (ja_cons (jv 0) ja_nil))))), ?_⟩
  rintro ds M Q ⟨a, b, rfl, q⟩
  refine ⟨fun m ρ M' => M' = M ∧ ∃ (l k : Int), ρ = [.sh (.int l), .sh (.int k)] ∧ m = k.natAbs ∧ Int.gcd l k = Int.gcd a b, ⟨_, rfl, _, _, rfl, rfl, rfl⟩, ?_⟩
  rintro m ρ M' ⟨rfl, l, k, rfl, rfl, e⟩
  refine ⟨by show 0 ≤ 60; decide, ?_⟩
  show if (!(k == 0)) = true then _ else _
  refine iteB (fun c => ?_) (fun c => ?_)
  · have c' : k ≠ 0 := by simpa using c
    exact ⟨c', _, fmod_small (a := l) c', rfl, _, _, rfl, rfl, by rw [gcd_step, e]⟩
  · have c' : k = 0 := by simpa using c
    subst c'
    have e2 : (if l < 0 then -l else l) = (Int.gcd a b : Int) := by
      rw [← e, Int.gcd_zero_right]
      split <;> omega
    exact ⟨_, Sub.refl _, by rw [e2]; exact q⟩
noncomputable abbrev s_law_low : Stmt := top 16
private theorem sc_law_low : FnScope ["top", "bottom", "many"] ["top", "bottom"] (defScope s_law_low) := ⟨rfl, rfl, rfl, by decide +kernel, rfl, by decide +kernel, by decide +kernel⟩
private theorem h__law_low (B : Bl mg) (F : Def K mg "_law_low" s_law_low ["top", "bottom"]) (F__law_divisor : Has P w K mg base CX0 1 "_law_divisor" ["one", "other"] (spW K (pur gGcd))) : Has P w K mg base CX0 2 "_law_low" ["top", "bottom"] (spW K (pur gFr)) := by
  refine F.hasP sc_law_low (fun ds P h => by obtain ⟨a, b, rfl, _⟩ := h; rfl) fun f cdv A outer s H E hr => ?_
  have nd := sc_law_low.nd
  refine ⟨_, (jss_cons (js_set (i := 2) nd rfl (Or.inl rfl) (j_h F__law_divisor (hr.mono (by decide)) rfl (ja_cons (jv 0) (ja_cons (jv 1) ja_nil))))
    (jss_cons (js_if (jt_lt (jv 1) j_int) (jss_one (js_set (i := 2) nd rfl (Or.inl rfl) (j_sub j_int (jv 2)))) jss_nil)
    (jss_one (js_ret (j_tup (ja_cons (j_fdiv (jv 0) (jv 2)) (ja_cons (j_fdiv (jv 1) (jv 2)) ja_nil))))))), ?_⟩
  rintro ds M Q ⟨a, b, rfl, hb, hs, q⟩
  refine ⟨a, b, rfl, ?_⟩
  have gs : Sm 9000 (Int.gcd a b : Int) := gcd_sm hb hs
  have gp := gcd_pos (a := a) hb
  have fin : ∀ g : Int, g = (if b < 0 then -(Int.gcd a b : Int) else (Int.gcd a b : Int)) → CDivS a g ∧ CDivS b g ∧ frD (Rat.divInt a b) = .tup [.int (a.fdiv g), .int (b.fdiv g)] := by
    intro g e
    have h1 : g ≠ 0 := by rw [e]; split <;> omega
    have h2 : Sm 9000 g := by
      rw [e]; split
      · exact gs.neg
      · exact gs
    refine ⟨⟨h1, h2⟩, ⟨h1, h2⟩, ?_⟩
    unfold frD
    rw [e, ← fr_num hb, ← fr_den hb]
  show if decide (b < 0) = true then _ else _
  refine iteB (fun c => ?_) (fun c => ?_)
  · have c' : b < 0 := by simpa using c
    obtain ⟨g0, g1, g2⟩ := fin (0 - (Int.gcd a b : Int)) (by rw [if_pos c']; omega)
    exact ⟨g0, g1, by show 2 ≤ sizeLine; decide, _, Sub.refl _, by rw [← g2]; exact q⟩
  · have c' : ¬ b < 0 := by simpa using c
    obtain ⟨g0, g1, g2⟩ := fin (Int.gcd a b : Int) (by rw [if_neg c'])
    exact ⟨g0, g1, by show 2 ≤ sizeLine; decide, _, Sub.refl _, by rw [← g2]; exact q⟩
noncomputable abbrev hLow (P : Program) (w : World) (K : PySem.W.Frag) (mg : Str → Option Value) (base : Heap) : Prop := Has P w K mg base CX0 2 "_law_low" ["top", "bottom"] (spW K (pur gFr))
noncomputable abbrev hDraw (P : Program) (w : World) (K : PySem.W.Frag) (mg : Str → Option Value) (base : Heap) : Prop := Has P w K mg base CX0 1 "_law_draw" ["deck", "many"] (spD K Deck gDraw)
noncomputable def gSmall : List D → (D → Prop) → Prop := fun ds P => ds = [] ∧ ∀ q : Rat, SmR 4 q → P (frD q)
private theorem sm4 {i : Int} (h1 : -16 < i) (h2 : i < 16) : Sm 4 i := by unfold Sm; omega
noncomputable abbrev s_law_small : Stmt := top 18
private theorem sc_law_small : FnScope ["deck"] ["deck"] (defScope s_law_small) := ⟨rfl, rfl, rfl, by decide +kernel, rfl, by decide +kernel, by decide +kernel⟩
private theorem h__law_small (B : Bl mg) (F : Def K mg "_law_small" s_law_small ["deck"]) (F__law_low : hLow P w K mg base) (F__law_draw : hDraw P w K mg base) : Has P w K mg base CX0 3 "_law_small" ["deck"] (spD K Deck gSmall) := by
  refine F.hasD sc_law_small (fun ds P h => by obtain ⟨rfl, _⟩ := h; rfl) fun f cdv A outer s H E hr => ?_
  have nd := sc_law_small.nd
  refine ⟨_, (jss_one (js_ret (j_h F__law_low (hr.mono (by decide)) rfl (ja_cons (j_sub (j_hD 0 F__law_draw (hr.mono (by decide)) rfl (ja_cons j_int ja_nil)) j_int) (ja_cons (j_add j_int (j_hD 0 F__law_draw (hr.mono (by decide)) rfl (ja_cons j_int ja_nil))) ja_nil))))), ?_⟩
  rintro p ds M Q hD ⟨rfl, q⟩
  refine ⟨hD, 13, rfl, by decide, by decide, fun r r0 r1 => ⟨hD, 4, rfl, by decide, by decide, fun r' r0' r1' => ?_⟩⟩
  have hb : (1 + r' : Int) ≠ 0 := by omega
  refine ⟨_, _, rfl, hb, (sm4 (by omega) (by omega)).mono (by decide), Sub.refl _, q _ (fr_sm hb (sm4 (by omega) (by omega)) (sm4 (by omega) (by omega)))⟩

private theorem step_le (q : Rat) {s : Int} (h : 0 ≤ s) : q ≤ Rat.divInt (q.num + s) (q.den : Int) := by
  have e := Rat.num_divInt_den q
  rw [Rat.divInt_eq_div] at *
  rw [Rat.intCast_add]
  have d0 : (0 : Rat) < ((q.den : Int) : Rat) := by
    have := q.den_pos
    have h2 : ((0 : Int) : Rat) < ((q.den : Int) : Rat) := Rat.intCast_lt_intCast.mpr (by omega)
    exact h2
  have s0 : (0 : Rat) ≤ (s : Rat) := by
    have h2 : ((0 : Int) : Rat) ≤ (s : Rat) := Rat.intCast_le_intCast.mpr h
    exact h2
  refine Rat.not_lt.mp fun c => ?_
  have c2 := (Rat.mul_lt_mul_right d0).mpr c
  have a : ((q.num : Rat) + (s : Rat)) / ((q.den : Int) : Rat) * ((q.den : Int) : Rat) = (q.num : Rat) + (s : Rat) := by grind
  have b : q * ((q.den : Int) : Rat) = (q.num : Rat) := by grind
  rw [a, b] at c2
  grind
noncomputable def gFar : List D → (D → Prop) → Prop := fun ds P => ds = [] ∧ ∀ r : Int, Sm 150 r → P (.int r)
noncomputable abbrev s_law_far : Stmt := top 17
private theorem sc_law_far : FnScope ["deck", "found", "k"] ["deck"] (defScope s_law_far) := ⟨rfl, rfl, rfl, by decide +kernel, rfl, by decide +kernel, by decide +kernel⟩
private theorem h__law_far (B : Bl mg) (F : Def K mg "_law_far" s_law_far ["deck"]) (F__law_draw : hDraw P w K mg base) : Has P w K mg base CX0 2 "_law_far" ["deck"] (spD K Deck gFar) := by
  refine F.hasD sc_law_far (fun ds P h => by obtain ⟨rfl, _⟩ := h; rfl) fun f cdv A outer s H E hr => ?_
  have nd := sc_law_far.nd
  refine ⟨_, (jss_cons (js_set (i := 1) nd rfl (Or.inl rfl) j_int)
    (jss_cons (js_for PassesOwn.never rfl (ji_rng1 rfl B.range (ja_cons j_int ja_nil)) (jg_name (i := 2) nd rfl (Or.inl rfl))
    (jss_one (js_set (i := 1) nd rfl (Or.inl rfl) (j_add (j_add (j_mul (jv 1) (j_pow j_int j_int)) (j_mul (j_hD 0 F__law_draw (hr.mono (by decide)) rfl (ja_cons (j_pow j_int j_int) ja_nil)) (j_pow j_int j_int))) (j_hD 0 F__law_draw (hr.mono (by decide)) rfl (ja_cons (j_pow j_int j_int) ja_nil))))))
    (jss_one (js_ret (j_mul (jv 1) (j_at (j_fz (jn_lst (ja_cons j_int (ja_cons (j_neg j_int) ja_nil)))) (j_hD 0 F__law_draw (hr.mono (by decide)) rfl (ja_cons j_int ja_nil)))))))), ?_⟩
  rintro p ds M Q hD ⟨rfl, q⟩
  refine ⟨⟨by decide, by decide⟩, fun i ρ M' => M' = M ∧ ∃ (r : Int) (o : Ent), ρ = [.rf p, .sh (.int r), o] ∧ Sm (45 * i + 1) r, ⟨rfl, 0, _, rfl, by unfold Sm; decide⟩, ?_, ?_⟩
  · rintro i d ρ M' hd ⟨rfl, r, o, rfl, sr⟩
    obtain ⟨rfl, hi⟩ := rng_get0 hd
    have hi : i < 3 := hi
    have s12 : Sm 40 (10 ^ Int.toNat 12 : Int) := by unfold Sm; decide
    have e6 : (10 ^ Int.toNat 6 : Int) = 1000000 := by decide
    have pw : ∀ {j : Int}, 0 ≤ j → j ≤ 100 → CPow 10 j := fun h1 h2 => ⟨h1, by omega, by decide⟩
    refine ⟨pw (by decide) (by decide), .inr ⟨45 * i + 1, 40, by omega, sr, s12⟩, pw (by decide) (by decide), hD, _, rfl, by decide, by decide, fun a a0 a1 => ?_⟩
    rw [e6] at a1
    refine ⟨pw (by decide) (by decide), .inl (.inl ⟨by omega, by omega⟩), pw (by decide) (by decide), hD, _, rfl, by decide, by decide, fun b b0 b1 => ⟨rfl, _, _, rfl, ?_⟩⟩
    rw [e6] at b1
    have s1 : Sm (45 * i + 41) (a * (10 ^ Int.toNat 6 : Int)) := by rw [e6]; exact (sm_of (n := 41) (by omega) (by omega)).mono (by omega)
    have s2 : Sm (45 * i + 42) b := (sm_of (n := 42) (by omega) (by omega)).mono (by omega)
    exact ((((sr.mul s12).mono (show _ ≤ 45 * i + 41 by omega)).add s1).add s2).mono (by omega)
  · rintro ρ M' ⟨rfl, r, o, rfl, sr⟩
    rw [rng_len] at sr
    refine ⟨by show 2 ≤ sizeLine; decide, hD, 2, rfl, by decide, by decide, fun t t0 t1 => RIx.lst t0 t1 fun d hd => ?_⟩
    obtain ⟨z, rfl, sz⟩ : ∃ z : Int, d = .int z ∧ Sm 1 z := by
      simp only [List.mem_cons, List.not_mem_nil, or_false] at hd
      rcases hd with rfl | rfl
      · exact ⟨1, rfl, by unfold Sm; decide⟩
      · exact ⟨-1, rfl, by unfold Sm; decide⟩
    exact ⟨.inr ⟨136, 1, by decide, sr, sz⟩, Sub.refl _, q _ ((sr.mul sz).mono (by decide))⟩
noncomputable def gAny : List D → (D → Prop) → Prop := fun ds P => ∃ b : Bool, ds = [.bl b] ∧ ∀ q : Rat, SmR 160 q → P (frD q)
noncomputable abbrev s_law_any : Stmt := top 19
private theorem sc_law_any : FnScope ["deck", "far"] ["deck", "far"] (defScope s_law_any) := ⟨rfl, rfl, rfl, by decide +kernel, rfl, by decide +kernel, by decide +kernel⟩
private theorem h__law_any (B : Bl mg) (F : Def K mg "_law_any" s_law_any ["deck", "far"]) (F__law_draw : hDraw P w K mg base) (F__law_far : Has P w K mg base CX0 2 "_law_far" ["deck"] (spD K Deck gFar)) (F__law_low : hLow P w K mg base) (F__law_small : Has P w K mg base CX0 3 "_law_small" ["deck"] (spD K Deck gSmall)) : Has P w K mg base CX0 4 "_law_any" ["deck", "far"] (spD K Deck gAny) := by
  refine F.hasD sc_law_any (fun ds P h => by obtain ⟨_, rfl, _⟩ := h; rfl) fun f cdv A outer s H E hr => ?_
  have nd := sc_law_any.nd
  refine ⟨_, (jss_cons (js_if (JW.jt (jw_and (jt (jv 1)) (jw_and1 (jt_eq hr (j_hD 0 F__law_draw (hr.mono (by decide)) rfl (ja_cons j_int ja_nil)) j_int)))) (jss_one (js_ret (j_h F__law_low (hr.mono (by decide)) rfl (ja_cons (j_hD 0 F__law_far (hr.mono (by decide)) rfl ja_nil) (ja_cons (j_add j_int (j_abs rfl B.abs (ja_cons (j_hD 0 F__law_far (hr.mono (by decide)) rfl ja_nil) ja_nil))) ja_nil))))) jss_nil)
    (jss_one (js_ret (j_hD 0 F__law_small (hr.mono (by decide)) rfl ja_nil)))), ?_⟩
  rintro p ds M Q hD ⟨b, rfl, q⟩
  have sml : Deck M p ∧ gSmall [] fun d => Sub M M ∧ Q d := ⟨hD, rfl, fun x sx => ⟨Sub.refl _, q x (sx.mono (by decide))⟩⟩
  cases b with
  | false => exact sml
  | true =>
    refine ⟨hD, 5, rfl, by decide, by decide, fun r r0 r1 => ⟨by show 0 ≤ 60; decide, ?_⟩⟩
    show if (r == 0) = true then _ else _
    refine iteB (fun _ => ?_) (fun _ => sml)
    refine ⟨hD, rfl, fun a sa => ⟨hD, rfl, fun c sc => ?_⟩⟩
    have s1 : Sm 160 (1 + (if c < 0 then -c else c)) := by
      have : Sm 150 (if c < 0 then -c else c) := by
        split
        · exact sc.neg
        · exact sc
      exact ((show Sm 150 (1 : Int) from (by unfold Sm; decide : Sm 1 (1 : Int)).mono (by decide)).add this).mono (by decide)
    have hb : (1 + (if c < 0 then -c else c) : Int) ≠ 0 := by split <;> omega
    exact ⟨_, _, rfl, hb, s1.mono (by decide), Sub.refl _, q _ (fr_sm hb (sa.mono (by decide)) s1)⟩
noncomputable abbrev ZR := List Rat × List Rat × Rat
noncomputable def frL (l : List Rat) : D := .lst (l.map frD)
noncomputable def bQ (x : Rat × Rat) : D := .tup [frD x.1, frD x.2]
noncomputable def zQ (z : ZR) : D := .tup [frL z.1, frL z.2.1, frD z.2.2]
noncomputable def planQ (S T : List (Rat × Rat)) (Z : List ZR) : D := .tup [.lst (S.map bQ), .lst (T.map bQ), .lst (Z.map zQ)]
noncomputable def okB (x : Rat × Rat) : Prop := SmR 400 x.1 ∧ SmR 400 x.2 ∧ x.1 ≤ x.2
noncomputable def gBn6 : List D → (D → Prop) → Prop := fun ds P => ∃ m : Int, ds = [.int m, .bl true] ∧ 0 ≤ m ∧ m ≤ 12 ∧ ∀ xs : List (Rat × Rat), xs.length = m.toNat → (∀ x ∈ xs, okB x) → P (.lst (xs.map bQ))
noncomputable abbrev s_law_bounds : Stmt := top 20
private theorem sc_law_bounds : FnScope ["deck", "many", "far", "found", "k", "low", "some", "step"] ["deck", "many", "far"] (defScope s_law_bounds) := ⟨rfl, rfl, rfl, by decide +kernel, rfl, by decide +kernel, by decide +kernel⟩
private theorem h__law_bounds (B : Bl mg) (F : Def K mg "_law_bounds" s_law_bounds ["deck", "many", "far"]) (F__law_any : Has P w K mg base CX0 4 "_law_any" ["deck", "far"] (spD K Deck gAny)) (F__law_draw : hDraw P w K mg base) (F__law_low : hLow P w K mg base) : Has P w K mg base CX0 5 "_law_bounds" ["deck", "many", "far"] (spD K Deck gBn6) := by
  refine F.hasD sc_law_bounds (fun ds P h => by obtain ⟨_, rfl, _⟩ := h; rfl) fun f cdv A outer s H E hr => ?_
  have nd := sc_law_bounds.nd
  refine ⟨_, (jss_cons (js_setN (i := 3) nd rfl (Or.inl rfl) (jn_lst ja_nil))
    (jss_cons (js_for PassesOwn.never rfl (ji_rng1 rfl B.range (ja_cons (jv 1) ja_nil)) (jg_name (i := 4) nd rfl (Or.inl rfl))
    (jss_cons (js_set (i := 5) nd rfl (Or.inl rfl) (j_hD 0 F__law_any (hr.mono (by decide)) rfl (ja_cons (jv 2) ja_nil)))
    (jss_cons (js_set (i := 6) nd rfl (Or.inl rfl) (j_fz (jn_lst (ja_cons j_int (ja_cons j_int (ja_cons (j_hD 0 F__law_draw (hr.mono (by decide)) rfl (ja_cons j_int ja_nil)) (ja_cons (j_mul (j_hD 0 F__law_draw (hr.mono (by decide)) rfl (ja_cons (j_pow j_int j_int) ja_nil)) (j_pow j_int j_int)) ja_nil)))))))
    (jss_cons (js_set (i := 7) nd rfl (Or.inl rfl) (j_atV 6 (j_at (j_fz (jn_lst (ja_cons j_int (ja_cons j_int (ja_cons j_int (ja_cons j_int (ja_cons j_int (ja_cons j_int ja_nil)))))))) (j_hD 0 F__law_draw (hr.mono (by decide)) rfl (ja_cons j_int ja_nil)))))
    (jss_cons (js_if (jt_not (jt (jv 2))) (jss_one (js_set (i := 7) nd rfl (Or.inl rfl) (j_mod (jv 7) j_int))) jss_nil)
    (jss_one (js_appW 3 (j_tup (ja_cons (jv 5) (ja_cons (j_h F__law_low (hr.mono (by decide)) rfl (ja_cons (j_add (j_atV 5 j_int) (jv 7)) (ja_cons (j_atV 5 j_int) ja_nil))) ja_nil))))))))))
    (jss_one (js_ret (jv 3))))), ?_⟩
  rintro p ds M Q hD ⟨m, rfl, m0, m1, q⟩
  refine ⟨by show 0 ≤ sizeLine; decide, ⟨by omega, by omega⟩, fun i ρ M' => M' = M ∧ ∃ (xs : List (Rat × Rat)) (o1 o2 o3 o4 : Ent), ρ = [.rf p, .sh (.int m), .sh (.bl true), .ow (xs.map bQ), o1, o2, o3, o4] ∧ xs.length = i ∧ ∀ x ∈ xs, okB x, ⟨rfl, [], _, _, _, _, rfl, rfl, by simp⟩, ?_, ?_⟩
  · rintro i d ρ M' hd ⟨rfl, xs, o1, o2, o3, o4, rfl, hl, hx⟩
    obtain ⟨rfl, hi⟩ := rng_get0 hd
    have pw : ∀ {j : Int}, 0 ≤ j → j ≤ 100 → CPow 10 j := fun h1 h2 => ⟨h1, by omega, by decide⟩
    have e9 : (10 ^ Int.toNat 9 : Int) = 1000000000 := by decide
    have s20 : Sm 70 (10 ^ Int.toNat 20 : Int) := by unfold Sm; decide
    refine ⟨hD, true, rfl, fun x sx => ?_⟩
    refine ⟨hD, 40, rfl, by decide, by decide, fun r r0 r1 => ⟨pw (by decide) (by decide), hD, _, rfl, by decide, by decide, fun t t0 t1 => ?_⟩⟩
    rw [e9] at t1
    refine ⟨pw (by decide) (by decide), .inl (.inl ⟨by omega, by omega⟩), by show 4 ≤ sizeLine; decide, by show 6 ≤ sizeLine; decide, hD, 6, rfl, by decide, by decide, fun u u0 u1 => RIx.lst u0 u1 fun d hd => ?_⟩
    obtain ⟨v, rfl, v0, v1⟩ : ∃ v : Int, d = .int v ∧ 0 ≤ v ∧ v < 4 := by
      simp only [List.mem_cons, List.not_mem_nil, or_false] at hd
      rcases hd with rfl | rfl | rfl | rfl | rfl | rfl <;> exact ⟨_, rfl, by decide, by decide⟩
    refine RIx.lst v0 v1 fun d hd => ?_
    have stp : ∃ z : Int, d = .int z ∧ 0 ≤ z ∧ Sm 200 z := by
      simp only [List.mem_cons, List.not_mem_nil, or_false] at hd
      rcases hd with rfl | rfl | rfl | rfl
      · exact ⟨0, rfl, by decide, (by unfold Sm; decide : Sm 1 (0 : Int)).mono (by decide)⟩
      · exact ⟨1, rfl, by decide, (by unfold Sm; decide : Sm 1 (1 : Int)).mono (by decide)⟩
      · exact ⟨r, rfl, r0, (sm_of (n := 10) (by omega) (by omega)).mono (by decide)⟩
      · exact ⟨_, rfl, Int.mul_nonneg t0 (by decide), ((sm_of (n := 40) (i := t) (by omega) (by omega)).mul s20).mono (by decide)⟩
    obtain ⟨z, rfl, z0, sz⟩ := stp
    have dn : ((x.den : Nat) : Int) ≠ 0 := by have := x.den_pos; omega
    have s1 : Sm 400 (x.num + z) := ((sx.1.mono (show 160 ≤ 200 by decide)).add sz).mono (by decide)
    refine ⟨trivial, _, _, rfl, dn, sx.2.mono (by decide), by show 2 ≤ sizeLine; decide, by rw [List.length_map, hl]; exact small1000 (by omega), rfl, xs ++ [(x, Rat.divInt (x.num + z) (x.den : Int))], _, _, _, _, by rw [List.map_append]; rfl, by rw [List.length_append, hl]; rfl, all_snoc hx ⟨sx.mono (by decide), fr_sm dn s1 (sx.2.mono (by decide)), step_le x z0⟩⟩
  · rintro ρ M' ⟨rfl, xs, o1, o2, o3, o4, rfl, hl, hx⟩
    rw [rng_len] at hl
    exact ⟨Sub.refl _, q xs hl hx⟩
structure Pl6 (S T : List (Rat × Rat)) (Z : List ZR) : Prop where
  s1 : 1 ≤ S.length
  s : S.length ≤ 6
  t : T.length ≤ 4
  z : Z.length ≤ 8
  bs : ∀ x ∈ S, okB x
  bt : ∀ x ∈ T, okB x
  zs : ∀ z ∈ Z, z.1.length = S.length ∧ z.2.1.length = T.length ∧ (∀ q ∈ z.1, SmR 400 q) ∧ (∀ q ∈ z.2.1, SmR 400 q) ∧ SmR 400 z.2.2
noncomputable def gPlan6 : List D → (D → Prop) → Prop := fun ds P => ds = [.bl true] ∧ ∀ S T Z, Pl6 S T Z → P (planQ S T Z)
noncomputable abbrev s_law_plan : Stmt := top 21
private theorem sc_law_plan : FnScope ["deck", "far", "sizes", "shims", "demands", "k", "a", "b"] ["deck", "far"] (defScope s_law_plan) := ⟨rfl, rfl, rfl, by decide +kernel, rfl, by decide +kernel, by decide +kernel⟩
private theorem h__law_plan (B : Bl mg) (F : Def K mg "_law_plan" s_law_plan ["deck", "far"]) (F__law_bounds : Has P w K mg base CX0 5 "_law_bounds" ["deck", "many", "far"] (spD K Deck gBn6)) (F__law_draw : hDraw P w K mg base) (F__law_any : Has P w K mg base CX0 4 "_law_any" ["deck", "far"] (spD K Deck gAny)) : Has P w K mg base CX0 6 "_law_plan" ["deck", "far"] (spD K Deck gPlan6) := by
  refine F.hasD sc_law_plan (fun ds P h => by obtain ⟨rfl, _⟩ := h; rfl) fun f cdv A outer s H E hr => ?_
  have nd := sc_law_plan.nd
  refine ⟨_, (jss_cons (js_set (i := 2) nd rfl (Or.inl rfl) (j_hD 0 F__law_bounds (hr.mono (by decide)) rfl (ja_cons (j_add j_int (j_hD 0 F__law_draw (hr.mono (by decide)) rfl (ja_cons j_int ja_nil))) (ja_cons (jv 1) ja_nil))))
    (jss_cons (js_set (i := 3) nd rfl (Or.inl rfl) (j_hD 0 F__law_bounds (hr.mono (by decide)) rfl (ja_cons (j_hD 0 F__law_draw (hr.mono (by decide)) rfl (ja_cons j_int ja_nil)) (ja_cons (jv 1) ja_nil))))
    (jss_cons (js_setN (i := 4) nd rfl (Or.inl rfl) (jn_lst ja_nil))
    (jss_cons (js_for PassesOwn.never rfl (ji_rng1 rfl B.range (ja_cons (j_hD 0 F__law_draw (hr.mono (by decide)) rfl (ja_cons j_int ja_nil)) ja_nil)) (jg_name (i := 5) nd rfl (Or.inl rfl))
    (jss_cons (js_setC (k := 6) nd rfl (Or.inl rfl) ["size", "deck", "far"] [none, some 0, some 1] ⟨rfl, by decide +kernel, by decide +kernel, rfl, rfl, free_of rfl⟩ rfl (ji_list (jv 2)) (fun _ _ _ _ _ => (jg_name (i := 0) (show List.Nodup [("size" : Str), ("deck" : Str), ("far" : Str)] by decide +kernel) rfl (Or.inl rfl))) (fun _ _ _ _ _ => jc_nil) (fun _ _ _ _ _ => (j_hD 1 F__law_any (hr.mono (by decide)) rfl (ja_cons (jv 2) ja_nil))))
    (jss_cons (js_setC (k := 7) nd rfl (Or.inl rfl) ["shim", "deck", "far"] [none, some 0, some 1] ⟨rfl, by decide +kernel, by decide +kernel, rfl, rfl, free_of rfl⟩ rfl (ji_list (jv 3)) (fun _ _ _ _ _ => (jg_name (i := 0) (show List.Nodup [("shim" : Str), ("deck" : Str), ("far" : Str)] by decide +kernel) rfl (Or.inl rfl))) (fun _ _ _ _ _ => jc_nil) (fun _ _ _ _ _ => (j_hD 1 F__law_any (hr.mono (by decide)) rfl (ja_cons (jv 2) ja_nil))))
    (jss_one (js_appW 4 (j_tup (ja_cons (jv 6) (ja_cons (jv 7) (ja_cons (j_hD 0 F__law_any (hr.mono (by decide)) rfl (ja_cons (jv 1) ja_nil)) ja_nil)))))))))
    (jss_one (js_ret (j_tup (ja_cons (jv 2) (ja_cons (jv 3) (ja_cons (jv 4) ja_nil)))))))))), ?_⟩
  rintro p ds M Q hD ⟨rfl, q⟩
  refine ⟨hD, 6, rfl, by decide, by decide, fun r r0 r1 => ⟨hD, _, rfl, by omega, by omega, fun S lS oS => ?_⟩⟩
  refine ⟨hD, 5, rfl, by decide, by decide, fun t t0 t1 => ⟨hD, _, rfl, by omega, by omega, fun T lT oT => ?_⟩⟩
  refine ⟨by show 0 ≤ sizeLine; decide, hD, 9, rfl, by decide, by decide, fun n n0 n1 => ⟨⟨by omega, by omega⟩, fun i ρ M' => M' = M ∧ ∃ (Z : List ZR) (o1 o2 o3 : Ent), ρ = [.rf p, .sh (.bl true), .sh (.lst (S.map bQ)), .sh (.lst (T.map bQ)), .ow (Z.map zQ), o1, o2, o3] ∧ Z.length = i ∧ ∀ z ∈ Z, z.1.length = S.length ∧ z.2.1.length = T.length ∧ (∀ q ∈ z.1, SmR 400 q) ∧ (∀ q ∈ z.2.1, SmR 400 q) ∧ SmR 400 z.2.2, ⟨rfl, [], _, _, _, rfl, rfl, by simp⟩, ?_, ?_⟩⟩
  · rintro i d ρ M' hd ⟨rfl, Z, o1, o2, o3, rfl, lZ, hZ⟩
    obtain ⟨rfl, hi⟩ := rng_get0 hd
    refine ⟨fun j out ρ M2 => M2 = M' ∧ ∃ (qs : List Rat) (o : Ent), out = qs.map frD ∧ qs.length = j ∧ (∀ q ∈ qs, SmR 400 q) ∧ ρ = [o, .rf p, .sh (.bl true)], ⟨rfl, [], _, rfl, rfl, by simp, rfl⟩, ?_, ?_⟩
    · rintro j d out ρ M2 hd ⟨rfl, qs, o, rfl, lq, sq, rfl⟩
      have hj := (List.getElem?_eq_some_iff.mp hd).1
      rw [List.length_map] at hj
      exact ⟨hD, true, rfl, fun y sy => ⟨by rw [List.length_map, lq]; exact small1000 (by omega), rfl, qs ++ [y], _, by rw [List.map_append]; rfl, by rw [List.length_append, lq]; rfl, all_snoc sq (sy.mono (by decide)), rfl⟩⟩
    rintro out ρ M2 ⟨rfl, as, o, rfl, la, sa, rfl⟩
    rw [List.length_map] at la
    refine ⟨fun j out ρ M3 => M3 = M2 ∧ ∃ (qs : List Rat) (o : Ent), out = qs.map frD ∧ qs.length = j ∧ (∀ q ∈ qs, SmR 400 q) ∧ ρ = [o, .rf p, .sh (.bl true)], ⟨rfl, [], _, rfl, rfl, by simp, rfl⟩, ?_, ?_⟩
    · rintro j d out ρ M2 hd ⟨rfl, qs, o, rfl, lq, sq, rfl⟩
      have hj := (List.getElem?_eq_some_iff.mp hd).1
      rw [List.length_map] at hj
      exact ⟨hD, true, rfl, fun y sy => ⟨by rw [List.length_map, lq]; exact small1000 (by omega), rfl, qs ++ [y], _, by rw [List.map_append]; rfl, by rw [List.length_append, lq]; rfl, all_snoc sq (sy.mono (by decide)), rfl⟩⟩
    rintro out ρ M3 ⟨rfl, bs, o, rfl, lb, sb, rfl⟩
    rw [List.length_map] at lb
    exact ⟨trivial, hD, true, rfl, fun c sc => ⟨by show 3 ≤ sizeLine; decide, by rw [List.length_map, lZ]; exact small1000 (by omega), rfl, Z ++ [(as, bs, c)], _, _, _, by rw [List.map_append]; rfl, by rw [List.length_append, lZ]; rfl, all_snoc hZ ⟨la, lb, sa, sb, sc.mono (by decide)⟩⟩⟩
  · rintro ρ M' ⟨rfl, Z, o1, o2, o3, rfl, lZ, hZ⟩
    rw [rng_len] at lZ
    exact ⟨by show 3 ≤ sizeLine; decide, Sub.refl _, q S T Z ⟨by omega, by omega, by omega, by omega, oS, oT, hZ⟩⟩

/-! ### whole numbers; tuples of a length -/
noncomputable def wholeD : D → Bool
  | .int _ => true
  | _ => false
noncomputable def gWhole : List D → (D → Prop) → Prop := fun ds P => ∃ d, ds = [d] ∧ P (.bl (wholeD d))
noncomputable abbrev s_is_whole : Stmt := top 1
private theorem sc_is_whole : FnScope ["thing"] ["thing"] (defScope s_is_whole) := ⟨rfl, rfl, rfl, by decide +kernel, rfl, by decide +kernel, by decide +kernel⟩
private theorem h_is_whole (B : Bl mg) (F : Def K mg "is_whole" s_is_whole ["thing"]) : Has P w K mg base CX0 1 "is_whole" ["thing"] (spW K (pur gWhole)) := by
  refine F.hasP sc_is_whole (fun ds P h => by obtain ⟨_, rfl, _⟩ := h; rfl) fun f cdv A outer s H E hr => ?_
  have nd := sc_is_whole.nd
  refine ⟨_, (jss_one (js_ret (j_and (j_isW (T := "int") isInt kitInt rfl B.isinstance rfl B.int boot_int (jv 0)) (j_one (j_not (j_isW (T := "bool") isBl kitBl rfl B.isinstance rfl B.bool boot_bool (jv 0))))))), ?_⟩
  rintro ds M Q ⟨d, rfl, q⟩
  cases d <;> exact ⟨_, Sub.refl _, q⟩
noncomputable def tupOf : D → Int → Bool
  | .tup ds, n => (ds.length : Int) == n
  | _, _ => false
noncomputable def gTupOf : List D → (D → Prop) → Prop := fun ds P => ∃ d n, ds = [d, .int n] ∧ P (.bl (tupOf d n))
noncomputable abbrev s_is_tuple_of : Stmt := top 2
private theorem sc_is_tuple_of : FnScope ["thing", "length"] ["thing", "length"] (defScope s_is_tuple_of) := ⟨rfl, rfl, rfl, by decide +kernel, rfl, by decide +kernel, by decide +kernel⟩
private theorem h_is_tuple_of (B : Bl mg) (F : Def K mg "is_tuple_of" s_is_tuple_of ["thing", "length"]) : Has P w K mg base CX0 1 "is_tuple_of" ["thing", "length"] (spW K (pur gTupOf)) := by
  refine F.hasP sc_is_tuple_of (fun ds P h => by obtain ⟨_, _, rfl, _⟩ := h; rfl) fun f cdv A outer s H E hr => ?_
  have nd := sc_is_tuple_of.nd
  refine ⟨_, (jss_one (js_ret (j_and (j_isW (T := "tuple") isTup kitTup rfl B.isinstance rfl B.tuple boot_tuple (jv 0)) (j_one (j_eq hr (j_lenV 0 rfl B.len) (jv 1)))))), ?_⟩
  rintro ds M Q ⟨d, n, rfl, q⟩
  cases d with
  | tup xs => exact ⟨by show 0 ≤ 60; decide, _, Sub.refl _, q⟩
  | _ => exact ⟨_, Sub.refl _, q⟩

/-! ### k06: what is a plan, of any tree -/
mutual
noncomputable def Fine (L : Nat) : D → Prop
  | .int i => Sm 1000 i
  | .tup ds => ds.length ≤ L ∧ Fines L ds
  | .lst ds => ds.length ≤ L ∧ Fines L ds
  | .non => True
  | .bl _ => True
  | .str _ => True
  | .emp => True
noncomputable def Fines (L : Nat) : List D → Prop
  | [] => True
  | d :: ds => Fine L d ∧ Fines L ds
end
private theorem fines_iff {L : Nat} : ∀ {ds : List D}, Fines L ds ↔ ∀ d ∈ ds, Fine L d
  | [] => by rw [Fines]; exact ⟨fun _ d h => (nomatch h), fun _ => trivial⟩
  | d :: ds => by
    rw [Fines, fines_iff]
    constructor
    · rintro ⟨h1, h2⟩ x hx
      rcases List.mem_cons.mp hx with rfl | hx
      · exact h1
      · exact h2 x hx
    · intro h
      exact ⟨h d (.head _), fun x hx => h x (.tail _ hx)⟩
private theorem Fine.tup {L : Nat} {ds : List D} (h : Fine L (.tup ds)) : ds.length ≤ L ∧ ∀ d ∈ ds, Fine L d := by rw [Fine, fines_iff] at h; exact h
private theorem Fine.lst {L : Nat} {ds : List D} (h : Fine L (.lst ds)) : ds.length ≤ L ∧ ∀ d ∈ ds, Fine L d := by rw [Fine, fines_iff] at h; exact h
private theorem Fine.mkT {L : Nat} {ds : List D} (h : ds.length ≤ L) (k : ∀ d ∈ ds, Fine L d) : Fine L (.tup ds) := by rw [Fine, fines_iff]; exact ⟨h, k⟩
private theorem Fine.mkL {L : Nat} {ds : List D} (h : ds.length ≤ L) (k : ∀ d ∈ ds, Fine L d) : Fine L (.lst ds) := by rw [Fine, fines_iff]; exact ⟨h, k⟩
private theorem Fine.int {L : Nat} {i : Int} (h : Fine L (.int i)) : Sm 1000 i := by rw [Fine] at h; exact h
private theorem fine_cm {L : Nat} {i j : Int} (h : Fine L (.int i)) (k : Fine L (.int j)) : CM i j := .inr ⟨1000, 1000, by decide, h.int, k.int⟩
noncomputable def frB : D → Bool
  | .tup [.int a, .int b] => decide (1 ≤ b) && ((Int.gcd a b : Int) == 1)
  | _ => false
private theorem tup_two {t : D} (h : tupOf t 2 = true) : ∃ x y, t = .tup [x, y] := by
  cases t with
  | tup xs =>
    have h : ((xs.length : Nat) : Int) = 2 := eq_of_beq h
    rcases xs with _ | ⟨x, _ | ⟨y, _ | ⟨z, r⟩⟩⟩
    · cases h
    · simp at h
    · exact ⟨x, y, rfl⟩
    · simp only [List.length_cons] at h; omega
  | _ => cases h
private theorem tup_three {t : D} (h : tupOf t 3 = true) : ∃ x y z, t = .tup [x, y, z] := by
  cases t with
  | tup xs =>
    have h : ((xs.length : Nat) : Int) = 3 := eq_of_beq h
    rcases xs with _ | ⟨x, _ | ⟨y, _ | ⟨z, _ | ⟨u, r⟩⟩⟩⟩
    · cases h
    · simp at h
    · simp at h
    · exact ⟨x, y, z, rfl⟩
    · simp only [List.length_cons] at h; omega
  | _ => cases h
private theorem frB_tup {t : D} (h : tupOf t 2 = false) : frB t = false := by
  cases c : frB t with
  | false => rfl
  | true =>
    unfold frB at c
    split at c
    · cases h
    · cases c
private theorem frB_whole {x y : D} (h : wholeD x = false ∨ wholeD y = false) : frB (.tup [x, y]) = false := by
  cases c : frB (.tup [x, y]) with
  | false => rfl
  | true =>
    unfold frB at c
    split at c
    · rename_i a b e
      cases e
      rcases h with h | h <;> cases h
    · cases c
noncomputable def gFrB : List D → (D → Prop) → Prop := fun ds P => ∃ d, ds = [d] ∧ P (.bl (frB d))
noncomputable abbrev s_is_fraction : Stmt := top 3
private theorem sc_is_fraction : FnScope ["thing"] ["thing"] (defScope s_is_fraction) := ⟨rfl, rfl, rfl, by decide +kernel, rfl, by decide +kernel, by decide +kernel⟩
private theorem h_is_fraction (B : Bl mg) (F : Def K mg "is_fraction" s_is_fraction ["thing"]) (F_is_tuple_of : Has P w K mg base CX0 1 "is_tuple_of" ["thing", "length"] (spW K (pur gTupOf))) (F_is_whole : Has P w K mg base CX0 1 "is_whole" ["thing"] (spW K (pur gWhole))) (F_common_divisor : Has P w K mg base CX0 1 "common_divisor" ["one", "other"] (spW K (pur gGcd))) : Has P w K mg base CX0 2 "is_fraction" ["thing"] (spW K (pur gFrB)) := by
  refine F.hasP sc_is_fraction (fun ds P h => by obtain ⟨_, rfl, _⟩ := h; rfl) fun f cdv A outer s H E hr => ?_
  have nd := sc_is_fraction.nd
  refine ⟨_, (jss_cons (js_if (jt_not (jt (j_h F_is_tuple_of (hr.mono (by decide)) rfl (ja_cons (jv 0) (ja_cons j_int ja_nil))))) (jss_one (js_ret j_bl)) jss_nil)
    (jss_cons (js_if (JW.jt (jw_or (jt_not (jt (j_h F_is_whole (hr.mono (by decide)) rfl (ja_cons (j_atV 0 j_int) ja_nil)))) (jw_or1 (jt_not (jt (j_h F_is_whole (hr.mono (by decide)) rfl (ja_cons (j_atV 0 j_int) ja_nil))))))) (jss_one (js_ret j_bl)) jss_nil)
    (jss_one (js_ret (j_and (j_ge (j_atV 0 j_int) j_int) (j_one (j_eq hr (j_h F_common_divisor (hr.mono (by decide)) rfl (ja_cons (j_atV 0 j_int) (ja_cons (j_atV 0 j_int) ja_nil))) j_int))))))), ?_⟩
  rintro ds M Q ⟨t, rfl, q⟩
  have q : Q (.bl (frB t)) M := q
  refine ⟨t, 2, rfl, ?_⟩
  show if (!tupOf t 2) = true then _ else _
  refine iteB (fun c => ⟨_, Sub.refl _, ?_⟩) (fun c => ?_)
  · rw [frB_tup (by simpa using c)] at q; exact q
  obtain ⟨x, y, rfl⟩ := tup_two (t := t) (by simpa using c)
  have nw : (wholeD x = false ∨ wholeD y = false) → ∃ M2, Sub M2 M ∧ Q (.bl false) M2 := fun h => ⟨M, Sub.refl _, by rw [frB_whole h] at q; exact q⟩
  refine ⟨x, rfl, ?_⟩
  show if (!wholeD x) = true then _ else _
  refine iteB (fun c => nw (.inl (by simpa using c))) (fun c => ⟨y, rfl, ?_⟩)
  show if (!wholeD y) = true then _ else _
  refine iteB (fun c2 => nw (.inr (by simpa using c2))) (fun c2 => ?_)
  obtain ⟨a, rfl⟩ : ∃ a, x = .int a := by cases x <;> first | exact ⟨_, rfl⟩ | cases c
  obtain ⟨b, rfl⟩ : ∃ b, y = .int b := by cases y <;> first | exact ⟨_, rfl⟩ | cases c2
  show if decide (1 ≤ b) = true then _ else _
  refine iteB (fun c3 => ?_) (fun c3 => ⟨_, Sub.refl _, ?_⟩)
  · refine ⟨a, b, rfl, by show 0 ≤ 60; decide, _, Sub.refl _, ?_⟩
    show Q (.bl ((Int.gcd a b : Int) == 1)) M
    have e : frB (.tup [.int a, .int b]) = ((Int.gcd a b : Int) == 1) := by show (decide (1 ≤ b) && _) = _; rw [c3, Bool.true_and]
    rw [e] at q; exact q
  · have e : frB (.tup [.int a, .int b]) = false := by show (decide (1 ≤ b) && _) = _; rw [c3, Bool.false_and]
    rw [e] at q; exact q
noncomputable def gBel : List D → (D → Prop) → Prop := fun ds P => ∃ a b c d : Int, ds = [.tup [.int a, .int b], .tup [.int c, .int d]] ∧ CM a d ∧ CM c b ∧ P (.bl (decide (a * d < c * b)))
noncomputable abbrev s_below : Stmt := top 5
private theorem sc_below : FnScope ["q", "r"] ["q", "r"] (defScope s_below) := ⟨rfl, rfl, rfl, by decide +kernel, rfl, by decide +kernel, by decide +kernel⟩
private theorem h_below (B : Bl mg) (F : Def K mg "below" s_below ["q", "r"]) : Has P w K mg base CX0 1 "below" ["q", "r"] (spW K (pur gBel)) := by
  refine F.hasP sc_below (fun ds P h => by obtain ⟨_, _, _, _, rfl, _⟩ := h; rfl) fun f cdv A outer s H E hr => ?_
  have nd := sc_below.nd
  refine ⟨_, (jss_one (js_ret (j_lt (j_mul (j_atV 0 j_int) (j_atV 1 j_int)) (j_mul (j_atV 1 j_int) (j_atV 0 j_int))))), ?_⟩
  rintro ds M Q ⟨a, b, c, d, rfl, m1, m2, q⟩
  exact ⟨m1, m2, _, Sub.refl _, q⟩
noncomputable def leB : D → D → Bool
  | .tup [.int a, .int b], .tup [.int c, .int d] => !decide (c * b < a * d)
  | _, _ => false
noncomputable def bdB : D → Bool
  | .tup [x, y] => frB x && frB y && leB x y
  | _ => false
private theorem bdB_tup {t : D} (h : tupOf t 2 = false) : bdB t = false := by
  cases c : bdB t with
  | false => rfl
  | true =>
    unfold bdB at c
    split at c
    · cases h
    · cases c
private theorem frB_is {x : D} (h : frB x = true) : ∃ a b : Int, x = .tup [.int a, .int b] := by
  unfold frB at h
  split at h
  · exact ⟨_, _, rfl⟩
  · cases h
noncomputable def gBdB : List D → (D → Prop) → Prop := fun ds P => ∃ t, ds = [t] ∧ Fine 1000 t ∧ P (.bl (bdB t))
noncomputable abbrev s_is_bounds : Stmt := top 7
private theorem sc_is_bounds : FnScope ["thing"] ["thing"] (defScope s_is_bounds) := ⟨rfl, rfl, rfl, by decide +kernel, rfl, by decide +kernel, by decide +kernel⟩
private theorem h_is_bounds (B : Bl mg) (F : Def K mg "is_bounds" s_is_bounds ["thing"]) (F_is_tuple_of : Has P w K mg base CX0 1 "is_tuple_of" ["thing", "length"] (spW K (pur gTupOf))) (F_is_fraction : Has P w K mg base CX0 2 "is_fraction" ["thing"] (spW K (pur gFrB))) (F_below : Has P w K mg base CX0 1 "below" ["q", "r"] (spW K (pur gBel))) : Has P w K mg base CX0 3 "is_bounds" ["thing"] (spW K (pur gBdB)) := by
  refine F.hasP sc_is_bounds (fun ds P h => by obtain ⟨_, rfl, _⟩ := h; rfl) fun f cdv A outer s H E hr => ?_
  have nd := sc_is_bounds.nd
  refine ⟨_, (jss_cons (js_if (jt_not (jt (j_h F_is_tuple_of (hr.mono (by decide)) rfl (ja_cons (jv 0) (ja_cons j_int ja_nil))))) (jss_one (js_ret j_bl)) jss_nil)
    (jss_cons (js_if (JW.jt (jw_or (jt_not (jt (j_h F_is_fraction (hr.mono (by decide)) rfl (ja_cons (j_atV 0 j_int) ja_nil)))) (jw_or1 (jt_not (jt (j_h F_is_fraction (hr.mono (by decide)) rfl (ja_cons (j_atV 0 j_int) ja_nil))))))) (jss_one (js_ret j_bl)) jss_nil)
    (jss_one (js_ret (j_not (j_h F_below (hr.mono (by decide)) rfl (ja_cons (j_atV 0 j_int) (ja_cons (j_atV 0 j_int) ja_nil)))))))), ?_⟩
  rintro ds M Q ⟨t, rfl, ft, q⟩
  have q : Q (.bl (bdB t)) M := q
  refine ⟨t, 2, rfl, ?_⟩
  show if (!tupOf t 2) = true then _ else _
  refine iteB (fun c => ⟨_, Sub.refl _, ?_⟩) (fun c => ?_)
  · rw [bdB_tup (by simpa using c)] at q; exact q
  obtain ⟨x, y, rfl⟩ := tup_two (t := t) (by simpa using c)
  have e : bdB (.tup [x, y]) = (frB x && frB y && leB x y) := rfl
  rw [e] at q
  refine ⟨x, rfl, ?_⟩
  show if (!frB x) = true then _ else _
  refine iteB (fun c1 => ⟨_, Sub.refl _, ?_⟩) (fun c1 => ⟨y, rfl, ?_⟩)
  · have c1 : frB x = false := by simpa using c1
    rw [c1] at q; exact q
  show if (!frB y) = true then _ else _
  refine iteB (fun c2 => ⟨_, Sub.refl _, ?_⟩) (fun c2 => ?_)
  · have c2 : frB y = false := by simpa using c2
    rw [c2, Bool.and_false, Bool.false_and] at q; exact q
  have c1 : frB x = true := by simpa using c1
  have c2 : frB y = true := by simpa using c2
  rw [c1, c2] at q
  obtain ⟨a, b, rfl⟩ := frB_is c1
  obtain ⟨c', d, rfl⟩ := frB_is c2
  have f1 := (ft.tup.2 _ (.head _)).tup.2
  have f2 := (ft.tup.2 _ (.tail _ (.head _))).tup.2
  exact ⟨c', d, a, b, rfl, fine_cm (f2 _ (.head _)) (f1 _ (.tail _ (.head _))), fine_cm (f1 _ (.head _)) (f2 _ (.tail _ (.head _))), _, Sub.refl _, q⟩
private theorem bl_all {α : Type} (f : α → Bool) : ∀ l : List α, bls (l.map fun x => D.bl (f x)) = some (l.map f)
  | [] => rfl
  | x :: l => by
    have := bl_all f l
    simp only [List.map_cons, bls, this]; rfl
private theorem all_id {α : Type} (f : α → Bool) (l : List α) : (l.map f).all id = l.all f := by rw [List.all_map]; rfl
noncomputable def lsB (f : D → Bool) : D → Bool
  | .lst ds => ds.all f
  | _ => false
noncomputable def gBlB : List D → (D → Prop) → Prop := fun ds P => ∃ t, ds = [t] ∧ Fine 1000 t ∧ P (.bl (lsB bdB t))
noncomputable abbrev s_is_bounds_list : Stmt := top 8
private theorem sc_is_bounds_list : FnScope ["thing"] ["thing"] (defScope s_is_bounds_list) := ⟨rfl, rfl, rfl, by decide +kernel, rfl, by decide +kernel, by decide +kernel⟩
private theorem h_is_bounds_list (B : Bl mg) (F : Def K mg "is_bounds_list" s_is_bounds_list ["thing"]) (F_is_bounds : Has P w K mg base CX0 3 "is_bounds" ["thing"] (spW K (pur gBdB))) : Has P w K mg base CX0 4 "is_bounds_list" ["thing"] (spW K (pur gBlB)) := by
  refine F.hasP sc_is_bounds_list (fun ds P h => by obtain ⟨_, rfl, _⟩ := h; rfl) fun f cdv A outer s H E hr => ?_
  have nd := sc_is_bounds_list.nd
  refine ⟨_, (jss_one (js_ret (j_and (j_isW (T := "list") isLst kitLst rfl B.isinstance rfl B.list boot_list (jv 0)) (j_one (j_all rfl B.all rfl (ja_cons (j_fz (jn_lc ["pair"] [none] ⟨rfl, by decide +kernel, by decide +kernel, rfl, rfl, by intro i x j _ h; exact absurd h (by rcases i with _ | _ | _ | i <;> simp)⟩ rfl (ji_list (jv 0)) (fun _ _ _ _ _ => (jg_name (i := 0) (show List.Nodup [("pair" : Str)] by decide +kernel) rfl (Or.inl rfl))) (fun _ _ _ _ _ => jc_nil) (fun _ _ _ _ _ => (j_h F_is_bounds (hr.mono (by decide)) rfl (ja_cons (jv 0) ja_nil))))) ja_nil)))))), ?_⟩
  rintro ds M Q ⟨t, rfl, ft, q⟩
  cases t with
  | lst xs =>
    obtain ⟨l, fx⟩ := ft.lst
    refine ⟨fun i out ρ M' => M' = M ∧ out = (xs.take i).map (fun t => D.bl (bdB t)) ∧ ∃ o, ρ = [o], ⟨rfl, rfl, _, rfl⟩, ?_, ?_⟩
    · rintro i t out ρ M' hd ⟨rfl, rfl, o, rfl⟩
      have hi := (List.getElem?_eq_some_iff.mp hd).1
      exact ⟨t, rfl, fx t (List.mem_of_getElem? hd), by rw [List.length_map, List.length_take]; exact small1000 (by omega), rfl, take_map' (f := fun t => D.bl (bdB t)) hd, _, rfl⟩
    rintro out ρ M' ⟨rfl, rfl, o, rfl⟩
    rw [List.take_length]
    show match bls (xs.map fun t => D.bl (bdB t)) with | some bs => _ | none => False
    rw [bl_all]
    refine ⟨_, Sub.refl _, ?_⟩
    show Q (.bl ((xs.map bdB).all id)) M'
    rw [all_id]; exact q
  | _ => exact ⟨_, Sub.refl _, q⟩
noncomputable def flB (n : Nat) : D → Bool
  | .lst ds => (ds.length == n) && ds.all frB
  | _ => false
noncomputable def gFlB : List D → (D → Prop) → Prop := fun ds P => ∃ (t : D) (n : Nat), ds = [t, .int (n : Nat)] ∧ Fine 1000 t ∧ P (.bl (flB n t))
noncomputable abbrev s_is_fraction_list : Stmt := top 9
private theorem sc_is_fraction_list : FnScope ["thing", "length"] ["thing", "length"] (defScope s_is_fraction_list) := ⟨rfl, rfl, rfl, by decide +kernel, rfl, by decide +kernel, by decide +kernel⟩
private theorem h_is_fraction_list (B : Bl mg) (F : Def K mg "is_fraction_list" s_is_fraction_list ["thing", "length"]) (F_is_fraction : Has P w K mg base CX0 2 "is_fraction" ["thing"] (spW K (pur gFrB))) : Has P w K mg base CX0 3 "is_fraction_list" ["thing", "length"] (spW K (pur gFlB)) := by
  refine F.hasP sc_is_fraction_list (fun ds P h => by obtain ⟨_, _, rfl, _⟩ := h; rfl) fun f cdv A outer s H E hr => ?_
  have nd := sc_is_fraction_list.nd
  refine ⟨_, (jss_cons (js_if (JW.jt (jw_or (jt_not (jt (j_isW (T := "list") isLst kitLst rfl B.isinstance rfl B.list boot_list (jv 0)))) (jw_or1 (jt_ne hr (j_lenV 0 rfl B.len) (jv 1))))) (jss_one (js_ret j_bl)) jss_nil)
    (jss_one (js_ret (j_all rfl B.all rfl (ja_cons (j_fz (jn_lc ["q"] [none] ⟨rfl, by decide +kernel, by decide +kernel, rfl, rfl, by intro i x j _ h; exact absurd h (by rcases i with _ | _ | _ | i <;> simp)⟩ rfl (ji_list (jv 0)) (fun _ _ _ _ _ => (jg_name (i := 0) (show List.Nodup [("q" : Str)] by decide +kernel) rfl (Or.inl rfl))) (fun _ _ _ _ _ => jc_nil) (fun _ _ _ _ _ => (j_h F_is_fraction (hr.mono (by decide)) rfl (ja_cons (jv 0) ja_nil))))) ja_nil))))), ?_⟩
  rintro ds M Q ⟨t, n, rfl, ft, q⟩
  cases t with
  | lst xs =>
    obtain ⟨l, fx⟩ := ft.lst
    have q : Q (.bl ((xs.length == n) && xs.all frB)) M := q
    refine ⟨by show 0 ≤ 60; decide, ?_⟩
    show if (!(((xs.length : Nat) : Int) == ((n : Nat) : Int))) = true then _ else _
    refine iteB (fun c => ⟨_, Sub.refl _, ?_⟩) (fun c => ?_)
    · have c : ((xs.length : Nat) : Int) ≠ ((n : Nat) : Int) := by simpa using c
      rw [show (xs.length == n) = false by rw [beq_eq_false_iff_ne]; omega] at q
      exact q
    have c : ((xs.length : Nat) : Int) = ((n : Nat) : Int) := by simpa using c
    rw [show (xs.length == n) = true by rw [beq_iff_eq]; omega, Bool.true_and] at q
    refine ⟨fun i out ρ M' => M' = M ∧ out = (xs.take i).map (fun t => D.bl (frB t)) ∧ ∃ o, ρ = [o], ⟨rfl, rfl, _, rfl⟩, ?_, ?_⟩
    · rintro i t out ρ M' hd ⟨rfl, rfl, o, rfl⟩
      have hi := (List.getElem?_eq_some_iff.mp hd).1
      exact ⟨t, rfl, by rw [List.length_map, List.length_take]; exact small1000 (by omega), rfl, take_map' (f := fun t => D.bl (frB t)) hd, _, rfl⟩
    rintro out ρ M' ⟨rfl, rfl, o, rfl⟩
    rw [List.take_length]
    show match bls (xs.map fun t => D.bl (frB t)) with | some bs => _ | none => False
    rw [bl_all]
    refine ⟨_, Sub.refl _, ?_⟩
    show Q (.bl ((xs.map frB).all id)) M'
    rw [all_id]; exact q
  | _ => exact ⟨_, Sub.refl _, q⟩
noncomputable def deB (m n : Nat) : D → Bool
  | .tup [a, b, c] => flB m a && flB n b && frB c
  | _ => false
private theorem deB_tup {m n : Nat} {t : D} (h : tupOf t 3 = false) : deB m n t = false := by
  cases c : deB m n t with
  | false => rfl
  | true =>
    unfold deB at c
    split at c
    · cases h
    · cases c
noncomputable def gDeB : List D → (D → Prop) → Prop := fun ds P => ∃ (t : D) (m n : Nat), ds = [t, .int (m : Nat), .int (n : Nat)] ∧ Fine 1000 t ∧ P (.bl (deB m n t))
noncomputable abbrev s_is_demand : Stmt := top 10
private theorem sc_is_demand : FnScope ["thing", "size_count", "shim_count"] ["thing", "size_count", "shim_count"] (defScope s_is_demand) := ⟨rfl, rfl, rfl, by decide +kernel, rfl, by decide +kernel, by decide +kernel⟩
private theorem h_is_demand (B : Bl mg) (F : Def K mg "is_demand" s_is_demand ["thing", "size_count", "shim_count"]) (F_is_tuple_of : Has P w K mg base CX0 1 "is_tuple_of" ["thing", "length"] (spW K (pur gTupOf))) (F_is_fraction_list : Has P w K mg base CX0 3 "is_fraction_list" ["thing", "length"] (spW K (pur gFlB))) (F_is_fraction : Has P w K mg base CX0 2 "is_fraction" ["thing"] (spW K (pur gFrB))) : Has P w K mg base CX0 4 "is_demand" ["thing", "size_count", "shim_count"] (spW K (pur gDeB)) := by
  refine F.hasP sc_is_demand (fun ds P h => by obtain ⟨_, _, _, rfl, _⟩ := h; rfl) fun f cdv A outer s H E hr => ?_
  have nd := sc_is_demand.nd
  refine ⟨_, (jss_cons (js_if (jt_not (jt (j_h F_is_tuple_of (hr.mono (by decide)) rfl (ja_cons (jv 0) (ja_cons j_int ja_nil))))) (jss_one (js_ret j_bl)) jss_nil)
    (jss_cons (js_if (JW.jt (jw_or (jt_not (jt (j_h F_is_fraction_list (hr.mono (by decide)) rfl (ja_cons (j_atV 0 j_int) (ja_cons (jv 1) ja_nil))))) (jw_or1 (jt_not (jt (j_h F_is_fraction_list (hr.mono (by decide)) rfl (ja_cons (j_atV 0 j_int) (ja_cons (jv 2) ja_nil)))))))) (jss_one (js_ret j_bl)) jss_nil)
    (jss_one (js_ret (j_h F_is_fraction (hr.mono (by decide)) rfl (ja_cons (j_atV 0 j_int) ja_nil)))))), ?_⟩
  rintro ds M Q ⟨t, m, n, rfl, ft, q⟩
  have q : Q (.bl (deB m n t)) M := q
  refine ⟨t, 3, rfl, ?_⟩
  show if (!tupOf t 3) = true then _ else _
  refine iteB (fun c => ⟨_, Sub.refl _, ?_⟩) (fun c => ?_)
  · rw [deB_tup (by simpa using c)] at q; exact q
  obtain ⟨x, y, z, rfl⟩ := tup_three (t := t) (by simpa using c)
  have fx := ft.tup.2
  have q : Q (.bl (flB m x && flB n y && frB z)) M := q
  refine ⟨x, m, rfl, fx x (by simp), ?_⟩
  show if (!flB m x) = true then _ else _
  refine iteB (fun c1 => ⟨_, Sub.refl _, ?_⟩) (fun c1 => ⟨y, n, rfl, fx y (by simp), ?_⟩)
  · have c1 : flB m x = false := by simpa using c1
    rw [c1] at q; exact q
  show if (!flB n y) = true then _ else _
  refine iteB (fun c2 => ⟨_, Sub.refl _, ?_⟩) (fun c2 => ?_)
  · have c2 : flB n y = false := by simpa using c2
    rw [c2, Bool.and_false, Bool.false_and] at q; exact q
  have c1 : flB m x = true := by simpa using c1
  have c2 : flB n y = true := by simpa using c2
  rw [c1, c2] at q
  exact ⟨z, rfl, _, Sub.refl _, q⟩
noncomputable def plB : D → Bool
  | .tup [.lst S, .lst T, .lst Z] => S.all bdB && T.all bdB && !S.isEmpty && Z.all (deB S.length T.length)
  | _ => false
private theorem plB_tup {t : D} (h : tupOf t 3 = false) : plB t = false := by
  cases c : plB t with
  | false => rfl
  | true =>
    unfold plB at c
    split at c
    · cases h
    · cases c
noncomputable def gPlB : List D → (D → Prop) → Prop := fun ds P => ∃ t, ds = [t] ∧ Fine 1000 t ∧ P (.bl (plB t))
noncomputable abbrev s_is_plan : Stmt := top 11
private theorem sc_is_plan : FnScope ["thing", "size_count", "shim_count"] ["thing"] (defScope s_is_plan) := ⟨rfl, rfl, rfl, by decide +kernel, rfl, by decide +kernel, by decide +kernel⟩
private theorem h_is_plan (B : Bl mg) (F : Def K mg "is_plan" s_is_plan ["thing"]) (F_is_tuple_of : Has P w K mg base CX0 1 "is_tuple_of" ["thing", "length"] (spW K (pur gTupOf))) (F_is_bounds_list : Has P w K mg base CX0 4 "is_bounds_list" ["thing"] (spW K (pur gBlB))) (F_is_demand : Has P w K mg base CX0 4 "is_demand" ["thing", "size_count", "shim_count"] (spW K (pur gDeB))) : Has P w K mg base CX0 5 "is_plan" ["thing"] (spW K (pur gPlB)) := by
  refine F.hasP sc_is_plan (fun ds P h => by obtain ⟨_, rfl, _⟩ := h; rfl) fun f cdv A outer s H E hr => ?_
  have nd := sc_is_plan.nd
  refine ⟨_, (jss_cons (js_if (jt_not (jt (j_h F_is_tuple_of (hr.mono (by decide)) rfl (ja_cons (jv 0) (ja_cons j_int ja_nil))))) (jss_one (js_ret j_bl)) jss_nil)
    (jss_cons (js_if (JW.jt (jw_or (jt_not (jt (j_h F_is_bounds_list (hr.mono (by decide)) rfl (ja_cons (j_atV 0 j_int) ja_nil)))) (jw_or1 (jt_not (jt (j_h F_is_bounds_list (hr.mono (by decide)) rfl (ja_cons (j_atV 0 j_int) ja_nil))))))) (jss_one (js_ret j_bl)) jss_nil)
    (jss_cons (js_if (JW.jt (jw_or (jt_eq hr (j_len rfl B.len (ja_cons (j_atV 0 j_int) ja_nil)) j_int) (jw_or1 (jt_not (jt (j_isW (T := "list") isLst kitLst rfl B.isinstance rfl B.list boot_list (j_atV 0 j_int))))))) (jss_one (js_ret j_bl)) jss_nil)
    (jss_cons (js_set (i := 1) nd rfl (Or.inr rfl) (j_len rfl B.len (ja_cons (j_atV 0 j_int) ja_nil)))
    (jss_cons (js_set (i := 2) nd rfl (Or.inr rfl) (j_len rfl B.len (ja_cons (j_atV 0 j_int) ja_nil)))
    (jss_one (js_ret (j_all rfl B.all rfl (ja_cons (j_fz (jn_lc ["demand", "size_count", "shim_count"] [none, some 1, some 2] ⟨rfl, by decide +kernel, by decide +kernel, rfl, rfl, free_of rfl⟩ rfl (ji_list (j_atV 0 j_int)) (fun _ _ _ _ _ => (jg_name (i := 0) (show List.Nodup [("demand" : Str), ("size_count" : Str), ("shim_count" : Str)] by decide +kernel) rfl (Or.inl rfl))) (fun _ _ _ _ _ => jc_nil) (fun _ _ _ _ _ => (j_h F_is_demand (hr.mono (by decide)) rfl (ja_cons (jv 0) (ja_cons (jv 1) (ja_cons (jv 2) ja_nil))))))) ja_nil))))))))), ?_⟩
  rintro ds M Q ⟨t, rfl, ft, q⟩
  have q : Q (.bl (plB t)) M := q
  refine ⟨t, 3, rfl, ?_⟩
  show if (!tupOf t 3) = true then _ else _
  refine iteB (fun c => ⟨_, Sub.refl _, ?_⟩) (fun c => ?_)
  · rw [plB_tup (by simpa using c)] at q; exact q
  obtain ⟨x, y, z, rfl⟩ := tup_three (t := t) (by simpa using c)
  have fx := ft.tup.2
  have no : plB (.tup [x, y, z]) = false → ∃ M2, Sub M2 M ∧ Q (.bl false) M2 := fun h => ⟨M, Sub.refl _, by rw [h] at q; exact q⟩
  have pl : plB (.tup [x, y, z]) = true → lsB bdB x = true ∧ lsB bdB y = true ∧ isLst z = true := fun h => by
    unfold plB at h
    split at h
    · rename_i S T Z e
      cases e
      simp only [Bool.and_eq_true] at h
      exact ⟨h.1.1.1, h.1.1.2, rfl⟩
    · cases h
  refine ⟨x, rfl, fx x (by simp), ?_⟩
  show if (!lsB bdB x) = true then _ else _
  refine iteB (fun c1 => no ?_) (fun c1 => ⟨y, rfl, fx y (by simp), ?_⟩)
  · cases h : plB (.tup [x, y, z]) with
    | false => rfl
    | true => rw [(pl h).1] at c1; cases c1
  show if (!lsB bdB y) = true then _ else _
  refine iteB (fun c2 => no ?_) (fun c2 => ?_)
  · cases h : plB (.tup [x, y, z]) with
    | false => rfl
    | true => rw [(pl h).2.1] at c2; cases c2
  obtain ⟨S, rfl⟩ : ∃ S, x = .lst S := by cases x <;> first | exact ⟨_, rfl⟩ | cases c1
  obtain ⟨T, rfl⟩ : ∃ T, y = .lst T := by cases y <;> first | exact ⟨_, rfl⟩ | cases c2
  have c1 : S.all bdB = true := by have : (!S.all bdB) = false := c1; simpa using this
  have c2 : T.all bdB = true := by have : (!T.all bdB) = false := c2; simpa using this
  refine ⟨by show 0 ≤ 60; decide, ?_⟩
  show if (((S.length : Nat) : Int) == 0) = true then _ else _
  refine iteB (fun c3 => no ?_) (fun c3 => ?_)
  · have c3 : ((S.length : Nat) : Int) = 0 := eq_of_beq c3
    have : S = [] := List.length_eq_zero_iff.mp (by omega)
    subst this
    cases z with
    | lst Z => simp [plB]
    | _ => rfl
  have c3 : S.isEmpty = false := by
    cases S with
    | nil => cases c3
    | cons _ _ => rfl
  show if (!isLst z) = true then _ else _
  refine iteB (fun c4 => no ?_) (fun c4 => ?_)
  · cases h : plB (.tup [.lst S, .lst T, z]) with
    | false => rfl
    | true => rw [(pl h).2.2] at c4; cases c4
  obtain ⟨Z, rfl⟩ : ∃ Z, z = .lst Z := by cases z <;> first | exact ⟨_, rfl⟩ | cases c4
  have q : Q (.bl (S.all bdB && T.all bdB && !S.isEmpty && Z.all (deB S.length T.length))) M := q
  rw [c1, c2, c3] at q
  have q : Q (.bl (Z.all (deB S.length T.length))) M := q
  obtain ⟨lZ, fZ⟩ := (fx (.lst Z) (by simp)).lst
  refine ⟨fun i out ρ M' => M' = M ∧ out = (Z.take i).map (fun t => D.bl (deB S.length T.length t)) ∧ ∃ o, ρ = [o, .sh (.int (S.length : Nat)), .sh (.int (T.length : Nat))], ⟨rfl, rfl, _, rfl⟩, ?_, ?_⟩
  · rintro i t out ρ M' hd ⟨rfl, rfl, o, rfl⟩
    have hi := (List.getElem?_eq_some_iff.mp hd).1
    exact ⟨t, S.length, T.length, rfl, fZ t (List.mem_of_getElem? hd), by rw [List.length_map, List.length_take]; exact small1000 (by omega), rfl, take_map' (f := fun t => D.bl (deB S.length T.length t)) hd, _, rfl⟩
  rintro out ρ M' ⟨rfl, rfl, o, rfl⟩
  rw [List.take_length]
  show match bls (Z.map fun t => D.bl (deB S.length T.length t)) with | some bs => _ | none => False
  rw [bl_all]
  refine ⟨_, Sub.refl _, ?_⟩
  show Q (.bl ((Z.map (deB S.length T.length)).all id)) M'
  rw [all_id]; exact q

/-! ### k06: what the law holds for a plan -/
noncomputable def badO : D → Bool := fun d => !isInt d || isBl d
private theorem bad_whole (d : D) : badO d = !wholeD d := by cases d <;> rfl
private theorem filt_one {α : Type} {p : α → Bool} {l : List α} {i : Nat} {x : α} (h : l[i]? = some x) : (l.take (i + 1)).filter p = (l.take i).filter p ++ (if p x = true then [x] else []) := by
  rw [List.take_add_one, h, List.filter_append]
  show _ ++ [x].filter p = _
  rw [List.filter_cons, List.filter_nil]
private theorem dep_at {d : D} {ds : List D} (h : d ∈ ds) : dep d ≤ deps ds := by
  obtain ⟨i, hi⟩ := List.getElem?_of_mem h
  exact dep_le hi
noncomputable def gFrL : List D → (D → Prop) → Prop := fun ds P => ∃ d, ds = [d] ∧ dep d ≤ 50 ∧ P (.bl (frB d))
noncomputable abbrev s_law_is_fraction : Stmt := top 22
private theorem sc_law_is_fraction : FnScope ["thing"] ["thing"] (defScope s_law_is_fraction) := ⟨rfl, rfl, rfl, by decide +kernel, rfl, by decide +kernel, by decide +kernel⟩
private theorem h__law_is_fraction (B : Bl mg) (F : Def K mg "_law_is_fraction" s_law_is_fraction ["thing"]) (F__law_divisor : Has P w K mg base CX0 1 "_law_divisor" ["one", "other"] (spW K (pur gGcd))) : Has P w K mg base CX0 2 "_law_is_fraction" ["thing"] (spW K (pur gFrL)) := by
  refine F.hasP sc_law_is_fraction (fun ds P h => by obtain ⟨_, rfl, _⟩ := h; rfl) fun f cdv A outer s H E hr => ?_
  have nd := sc_law_is_fraction.nd
  refine ⟨_, (jss_cons (js_if (JW.jt (jw_or (jt_not (jt (j_isW (T := "tuple") isTup kitTup rfl B.isinstance rfl B.tuple boot_tuple (jv 0)))) (jw_or1 (jt_ne hr (j_lenV 0 rfl B.len) j_int)))) (jss_one (js_ret j_bl)) jss_nil)
    (jss_cons (js_if (jt_ne hr (j_fz (jn_lc ["one"] [none] ⟨rfl, by decide +kernel, by decide +kernel, rfl, rfl, by intro i x j _ h; exact absurd h (by rcases i with _ | _ | _ | i <;> simp)⟩ rfl (ji_tup (jv 0)) (fun _ _ _ _ _ => (jg_name (i := 0) (show List.Nodup [("one" : Str)] by decide +kernel) rfl (Or.inl rfl))) (fun _ _ _ _ _ => (jc_one (JW.jt (jw_or (jt_not (jt (j_isW (T := "int") isInt kitInt rfl B.isinstance rfl B.int boot_int (jv 0)))) (jw_or1 (jt (j_isW (T := "bool") isBl kitBl rfl B.isinstance rfl B.bool boot_bool (jv 0)))))))) (fun _ _ _ _ _ => (jv 0)))) (j_fz (jn_lst ja_nil))) (jss_one (js_ret j_bl)) jss_nil)
    (jss_one (js_ret (j_and (j_gt (j_atV 0 j_int) j_int) (j_one (j_eq hr (j_h F__law_divisor (hr.mono (by decide)) rfl (ja_cons (j_atV 0 j_int) (ja_cons (j_atV 0 j_int) ja_nil))) j_int))))))), ?_⟩
  rintro ds M Q ⟨t, rfl, dt, q⟩
  have q : Q (.bl (frB t)) M := q
  cases t with
  | tup xs =>
    refine ⟨by show 0 ≤ 60; decide, ?_⟩
    show if (!(((xs.length : Nat) : Int) == 2)) = true then _ else _
    refine iteB (fun c => ⟨_, Sub.refl _, ?_⟩) (fun c => ?_)
    · rw [frB_tup (by show (((xs.length : Nat) : Int) == 2) = false; simpa using c)] at q; exact q
    obtain ⟨x, y, e⟩ := tup_two (t := .tup xs) (by show (((xs.length : Nat) : Int) == 2) = true; simpa using c)
    cases e
    refine ⟨fun i out ρ M' => M' = M ∧ out = ([x, y].take i).filter badO ∧ ∃ o, ρ = [o], ⟨rfl, rfl, _, rfl⟩, ?_, ?_⟩
    · rintro i d out ρ M' hd ⟨rfl, rfl, o, rfl⟩
      have fl := filt_one (p := badO) hd
      have ln : (([x, y].take i).filter badO).length < sizeLine := by
        have h1 := List.length_filter_le badO ([x, y].take i)
        have h2 : ([x, y].take i).length ≤ 2 := by rw [List.length_take]; exact Nat.min_le_right _ _
        exact small1000 (by omega)
      show if (!isInt d) = true then _ else _
      refine iteB (fun c1 => ⟨ln, rfl, ?_, _, rfl⟩) (fun c1 => ?_)
      · rw [fl, if_pos (by unfold badO; rw [c1, Bool.true_or])]
      show if isBl d = true then _ else _
      refine iteB (fun c2 => ⟨ln, rfl, ?_, _, rfl⟩) (fun c2 => ⟨rfl, ?_, _, rfl⟩)
      · rw [fl, if_pos (by unfold badO; rw [c2, Bool.or_true])]
      · rw [fl, if_neg (by unfold badO; rw [c1, c2]; decide), List.append_nil]
    rintro out ρ M' ⟨rfl, rfl, o, rfl⟩
    have e2 : ([x, y].take [x, y].length).filter badO = [x, y].filter badO := rfl
    rw [e2]
    have dd : dep (.lst ([x, y].filter badO)) ≤ 60 := by
      have h1 : ∀ d ∈ [x, y].filter badO, dep d ≤ 50 := fun d hd => by
        have := dep_at (List.mem_filter.mp hd).1
        rw [dep] at dt
        omega
      have h2 : deps ([x, y].filter badO) ≤ 50 := by
        generalize [x, y].filter badO = l at h1
        induction l with
        | nil => rw [deps]; exact Nat.zero_le _
        | cons a l ih => rw [deps]; exact Nat.max_le.mpr ⟨h1 a (.head _), ih fun d hd => h1 d (.tail _ hd)⟩
      rw [dep]; omega
    refine ⟨by show 0 ≤ sizeLine; decide, dd, ?_⟩
    show if (!peq (.lst ([x, y].filter badO)) (.lst [])) = true then _ else _
    have wx := bad_whole x
    have wy := bad_whole y
    have ef : peq (.lst ([x, y].filter badO)) (.lst []) = (wholeD x && wholeD y) := by
      rw [List.filter_cons, List.filter_cons, List.filter_nil, wx, wy]
      cases wholeD x <;> cases wholeD y <;> rfl
    rw [ef]
    refine iteB (fun c1 => ⟨_, Sub.refl _, ?_⟩) (fun c1 => ?_)
    · have : wholeD x = false ∨ wholeD y = false := by
        cases h1 : wholeD x
        · exact .inl rfl
        · cases h2 : wholeD y
          · exact .inr rfl
          · rw [h1, h2] at c1; cases c1
      rw [frB_whole this] at q; exact q
    obtain ⟨a, rfl⟩ : ∃ a, x = .int a := by cases x <;> first | exact ⟨_, rfl⟩ | cases c1
    obtain ⟨b, rfl⟩ : ∃ b, y = .int b := by cases y <;> first | exact ⟨_, rfl⟩ | cases c1
    have e1 : decide (0 < b) = decide (1 ≤ b) := decide_eq_decide.mpr (by omega)
    show if decide (0 < b) = true then _ else _
    refine iteB (fun c3 => ?_) (fun c3 => ⟨_, Sub.refl _, ?_⟩)
    · refine ⟨a, b, rfl, by show 0 ≤ 60; decide, _, Sub.refl _, ?_⟩
      show Q (.bl ((Int.gcd a b : Int) == 1)) M'
      have e : frB (.tup [.int a, .int b]) = ((Int.gcd a b : Int) == 1) := by show (decide (1 ≤ b) && _) = _; rw [← e1, c3, Bool.true_and]
      rw [e] at q; exact q
    · have e : frB (.tup [.int a, .int b]) = false := by show (decide (1 ≤ b) && _) = _; rw [← e1, c3, Bool.false_and]
      rw [e] at q; exact q
  | _ => exact ⟨_, Sub.refl _, q⟩
private theorem none_false : ∀ xs : List D, (!((xs.map fun t => D.bl (frB t)).any fun e => peq e (.bl false))) = xs.all frB
  | [] => rfl
  | x :: xs => by
    rw [List.map_cons, List.any_cons, Bool.not_or, none_false xs, List.all_cons]
    cases frB x <;> rfl
noncomputable def gAreL : List D → (D → Prop) → Prop := fun ds P => ∃ (t : D) (n : Nat), ds = [t, .int (n : Nat)] ∧ dep t ≤ 50 ∧ Fine 1000 t ∧ P (.bl (flB n t))
noncomputable abbrev s_law_are : Stmt := top 23
private theorem sc_law_are : FnScope ["thing", "many"] ["thing", "many"] (defScope s_law_are) := ⟨rfl, rfl, rfl, by decide +kernel, rfl, by decide +kernel, by decide +kernel⟩
private theorem h__law_are (B : Bl mg) (F : Def K mg "_law_are" s_law_are ["thing", "many"]) (F__law_is_fraction : Has P w K mg base CX0 2 "_law_is_fraction" ["thing"] (spW K (pur gFrL))) : Has P w K mg base CX0 3 "_law_are" ["thing", "many"] (spW K (pur gAreL)) := by
  refine F.hasP sc_law_are (fun ds P h => by obtain ⟨_, _, rfl, _⟩ := h; rfl) fun f cdv A outer s H E hr => ?_
  have nd := sc_law_are.nd
  refine ⟨_, (jss_cons (js_if (JW.jt (jw_or (jt_not (jt (j_isW (T := "list") isLst kitLst rfl B.isinstance rfl B.list boot_list (jv 0)))) (jw_or1 (jt_ne hr (j_lenV 0 rfl B.len) (jv 1))))) (jss_one (js_ret j_bl)) jss_nil)
    (jss_one (js_ret (j_notIn hr j_bl (j_fz (jn_lc ["one"] [none] ⟨rfl, by decide +kernel, by decide +kernel, rfl, rfl, by intro i x j _ h; exact absurd h (by rcases i with _ | _ | _ | i <;> simp)⟩ rfl (ji_list (jv 0)) (fun _ _ _ _ _ => (jg_name (i := 0) (show List.Nodup [("one" : Str)] by decide +kernel) rfl (Or.inl rfl))) (fun _ _ _ _ _ => jc_nil) (fun _ _ _ _ _ => (j_h F__law_is_fraction (hr.mono (by decide)) rfl (ja_cons (jv 0) ja_nil))))))))), ?_⟩
  rintro ds M Q ⟨t, n, rfl, dt, ft, q⟩
  cases t with
  | lst xs =>
    obtain ⟨l, fx⟩ := ft.lst
    rw [dep] at dt
    have q : Q (.bl ((xs.length == n) && xs.all frB)) M := q
    refine ⟨by show 0 ≤ 60; decide, ?_⟩
    show if (!(((xs.length : Nat) : Int) == ((n : Nat) : Int))) = true then _ else _
    refine iteB (fun c => ⟨_, Sub.refl _, ?_⟩) (fun c => ?_)
    · have c : ((xs.length : Nat) : Int) ≠ ((n : Nat) : Int) := by simpa using c
      rw [show (xs.length == n) = false by rw [beq_eq_false_iff_ne]; omega] at q
      exact q
    have c : ((xs.length : Nat) : Int) = ((n : Nat) : Int) := by simpa using c
    rw [show (xs.length == n) = true by rw [beq_iff_eq]; omega, Bool.true_and] at q
    refine ⟨fun i out ρ M' => M' = M ∧ out = (xs.take i).map (fun t => D.bl (frB t)) ∧ ∃ o, ρ = [o], ⟨rfl, rfl, _, rfl⟩, ?_, ?_⟩
    · rintro i t out ρ M' hd ⟨rfl, rfl, o, rfl⟩
      have hi := (List.getElem?_eq_some_iff.mp hd).1
      have := dep_at (List.mem_of_getElem? hd)
      exact ⟨t, rfl, by omega, by rw [List.length_map, List.length_take]; exact small1000 (by omega), rfl, take_map' (f := fun t => D.bl (frB t)) hd, _, rfl⟩
    rintro out ρ M' ⟨rfl, rfl, o, rfl⟩
    rw [List.take_length]
    refine ⟨fun e he => ?_, _, Sub.refl _, ?_⟩
    · obtain ⟨t, _, rfl⟩ := List.mem_map.mp he
      show 0 ≤ 50; decide
    show Q (.bl (!((xs.map fun t => D.bl (frB t)).any fun e => peq e (.bl false)))) M'
    rw [none_false]; exact q
  | _ => exact ⟨_, Sub.refl _, q⟩
private theorem bd_fl {ps : List D} (h : bdB (.tup ps) = true) : flB 2 (.lst ps) = true := by
  unfold bdB at h
  split at h
  · rename_i x y e
    cases e
    simp only [Bool.and_eq_true] at h
    show ((2 == 2) && (frB x && (frB y && true))) = true
    rw [h.1.1, h.1.2]; rfl
  · cases h
private theorem fl_two {ps : List D} (h : flB 2 (.lst ps) = true) : ∃ x y, ps = [x, y] ∧ frB x = true ∧ frB y = true := by
  have h : ((ps.length == 2) && ps.all frB) = true := h
  rw [Bool.and_eq_true] at h
  have l : ps.length = 2 := eq_of_beq h.1
  rcases ps with _ | ⟨x, _ | ⟨y, _ | ⟨z, r⟩⟩⟩
  · cases l
  · cases l
  · have h2 := h.2
    rw [List.all_cons, List.all_cons, Bool.and_eq_true, Bool.and_eq_true] at h2
    exact ⟨x, y, rfl, h2.1, h2.2.1⟩
  · simp only [List.length_cons] at l; omega
private theorem all_false {f : D → Bool} {l : List D} {x : D} (h : x ∈ l) (k : f x = false) : l.all f = false := by
  cases c : l.all f with
  | false => rfl
  | true => rw [List.all_eq_true.mp c x h] at k; cases k
noncomputable def gAbL : List D → (D → Prop) → Prop := fun ds P => ∃ t, ds = [t] ∧ dep t ≤ 50 ∧ Fine 1000 t ∧ P (.bl (lsB bdB t))
noncomputable abbrev s_law_are_bounds : Stmt := top 24
private theorem sc_law_are_bounds : FnScope ["thing", "pair"] ["thing"] (defScope s_law_are_bounds) := ⟨rfl, rfl, rfl, by decide +kernel, rfl, by decide +kernel, by decide +kernel⟩
private theorem h__law_are_bounds (B : Bl mg) (F : Def K mg "_law_are_bounds" s_law_are_bounds ["thing"]) (F__law_are : Has P w K mg base CX0 3 "_law_are" ["thing", "many"] (spW K (pur gAreL))) : Has P w K mg base CX0 4 "_law_are_bounds" ["thing"] (spW K (pur gAbL)) := by
  refine F.hasP sc_law_are_bounds (fun ds P h => by obtain ⟨_, rfl, _⟩ := h; rfl) fun f cdv A outer s H E hr => ?_
  have nd := sc_law_are_bounds.nd
  refine ⟨_, (jss_cons (js_if (jt_not (jt (j_isW (T := "list") isLst kitLst rfl B.isinstance rfl B.list boot_list (jv 0)))) (jss_one (js_ret j_bl)) jss_nil)
    (jss_cons (js_for PassesOwn.never rfl (ji_list (jv 0)) (jg_name (i := 1) nd rfl (Or.inl rfl))
    (jss_cons (js_if (JW.jt (jw_or (jt_not (jt (j_isW (T := "tuple") isTup kitTup rfl B.isinstance rfl B.tuple boot_tuple (jv 1)))) (jw_or1 (jt_not (jt (j_h F__law_are (hr.mono (by decide)) rfl (ja_cons (j_fz (jn_list rfl B.list (ja_cons (jv 1) ja_nil))) (ja_cons j_int ja_nil)))))))) (jss_one (js_ret j_bl)) jss_nil)
    (jss_one (js_if (jt_gt (j_mul (j_at (j_atV 1 j_int) j_int) (j_at (j_atV 1 j_int) j_int)) (j_mul (j_at (j_atV 1 j_int) j_int) (j_at (j_atV 1 j_int) j_int))) (jss_one (js_ret j_bl)) jss_nil))))
    (jss_one (js_ret j_bl)))), ?_⟩
  rintro ds M Q ⟨t, rfl, dt, ft, q⟩
  cases t with
  | lst xs =>
    obtain ⟨l, fx⟩ := ft.lst
    rw [dep] at dt
    have q : Q (.bl (xs.all bdB)) M := q
    refine ⟨fun i ρ M' => M' = M ∧ (∀ x ∈ xs.take i, bdB x = true) ∧ ∃ o, ρ = [.sh (.lst xs), o], ⟨rfl, fun x h => (nomatch h), _, rfl⟩, ?_, ?_⟩
    · rintro i t ρ M' hd ⟨rfl, ok, o, rfl⟩
      have mt := List.mem_of_getElem? hd
      have dx := dep_at mt
      have no : bdB t = false → ∃ M2, Sub M2 M' ∧ Q (.bl false) M2 := fun h => ⟨M', Sub.refl _, by rw [all_false mt h] at q; exact q⟩
      cases t with
      | tup ps =>
        have ft := (fx _ mt).tup
        rw [dep] at dx
        refine ⟨.lst ps, 2, rfl, by rw [dep]; omega, .mkL ft.1 ft.2, ?_⟩
        show if (!flB 2 (.lst ps)) = true then _ else _
        refine iteB (fun c => no ?_) (fun c => ?_)
        · cases h : bdB (.tup ps) with
          | false => rfl
          | true => rw [bd_fl h] at c; cases c
        obtain ⟨x, y, rfl, h1, h2⟩ := fl_two (ps := ps) (by simpa using c)
        obtain ⟨a, b, rfl⟩ := frB_is h1
        obtain ⟨c', d, rfl⟩ := frB_is h2
        have f1 := (ft.2 _ (.head _)).tup.2
        have f2 := (ft.2 _ (.tail _ (.head _))).tup.2
        refine ⟨fine_cm (f1 _ (.head _)) (f2 _ (.tail _ (.head _))), fine_cm (f2 _ (.head _)) (f1 _ (.tail _ (.head _))), ?_⟩
        have e : bdB (.tup [.tup [.int a, .int b], .tup [.int c', .int d]]) = !decide (c' * b < a * d) := by
          show (frB (.tup [.int a, .int b]) && frB (.tup [.int c', .int d]) && !decide (c' * b < a * d)) = _
          rw [h1, h2]; rfl
        show if decide (c' * b < a * d) = true then _ else _
        refine iteB (fun c2 => no (by rw [e, c2]; rfl)) (fun c2 => ⟨rfl, ?_, _, rfl⟩)
        rw [List.take_add_one, hd]
        exact all_snoc ok (by rw [e, c2]; rfl)
      | _ => exact no rfl
    · rintro ρ M' ⟨rfl, ok, o, rfl⟩
      rw [List.take_length] at ok
      refine ⟨_, Sub.refl _, ?_⟩
      rw [List.all_eq_true.mpr ok] at q
      exact q
  | _ => exact ⟨_, Sub.refl _, q⟩
noncomputable def gIpL : List D → (D → Prop) → Prop := fun ds P => ∃ t, ds = [t] ∧ dep t ≤ 50 ∧ Fine 1000 t ∧ P (.bl (plB t))
noncomputable abbrev s_law_is_plan : Stmt := top 25
private theorem sc_law_is_plan : FnScope ["thing", "demand"] ["thing"] (defScope s_law_is_plan) := ⟨rfl, rfl, rfl, by decide +kernel, rfl, by decide +kernel, by decide +kernel⟩
private theorem h__law_is_plan (B : Bl mg) (F : Def K mg "_law_is_plan" s_law_is_plan ["thing"]) (F__law_are_bounds : Has P w K mg base CX0 4 "_law_are_bounds" ["thing"] (spW K (pur gAbL))) (F__law_is_fraction : Has P w K mg base CX0 2 "_law_is_fraction" ["thing"] (spW K (pur gFrL))) (F__law_are : Has P w K mg base CX0 3 "_law_are" ["thing", "many"] (spW K (pur gAreL))) : Has P w K mg base CX0 5 "_law_is_plan" ["thing"] (spW K (pur gIpL)) := by
  refine F.hasP sc_law_is_plan (fun ds P h => by obtain ⟨_, rfl, _⟩ := h; rfl) fun f cdv A outer s H E hr => ?_
  have nd := sc_law_is_plan.nd
  refine ⟨_, (jss_cons (js_if (JW.jt (jw_or (jt_not (jt (j_isW (T := "tuple") isTup kitTup rfl B.isinstance rfl B.tuple boot_tuple (jv 0)))) (jw_or (jt_ne hr (j_lenV 0 rfl B.len) j_int) (jw_or1 (jt_not (jt (j_isW (T := "list") isLst kitLst rfl B.isinstance rfl B.list boot_list (j_atV 0 j_int)))))))) (jss_one (js_ret j_bl)) jss_nil)
    (jss_cons (js_if (JW.jt (jw_or (jt_not (jt (j_h F__law_are_bounds (hr.mono (by decide)) rfl (ja_cons (j_atV 0 j_int) ja_nil)))) (jw_or (jt_not (jt (j_h F__law_are_bounds (hr.mono (by decide)) rfl (ja_cons (j_atV 0 j_int) ja_nil)))) (jw_or1 (jt_eq hr (j_atV 0 j_int) (j_fz (jn_lst ja_nil))))))) (jss_one (js_ret j_bl)) jss_nil)
    (jss_cons (js_for PassesOwn.never rfl (ji_list (j_atV 0 j_int)) (jg_name (i := 1) nd rfl (Or.inl rfl))
    (jss_cons (js_if (JW.jt (jw_or (jt_not (jt (j_isW (T := "tuple") isTup kitTup rfl B.isinstance rfl B.tuple boot_tuple (jv 1)))) (jw_or (jt_ne hr (j_lenV 1 rfl B.len) j_int) (jw_or1 (jt_not (jt (j_h F__law_is_fraction (hr.mono (by decide)) rfl (ja_cons (j_atV 1 j_int) ja_nil)))))))) (jss_one (js_ret j_bl)) jss_nil)
    (jss_one (js_if (JW.jt (jw_or (jt_not (jt (j_h F__law_are (hr.mono (by decide)) rfl (ja_cons (j_atV 1 j_int) (ja_cons (j_len rfl B.len (ja_cons (j_atV 0 j_int) ja_nil)) ja_nil))))) (jw_or1 (jt_not (jt (j_h F__law_are (hr.mono (by decide)) rfl (ja_cons (j_atV 1 j_int) (ja_cons (j_len rfl B.len (ja_cons (j_atV 0 j_int) ja_nil)) ja_nil)))))))) (jss_one (js_ret j_bl)) jss_nil))))
    (jss_one (js_ret j_bl))))), ?_⟩
  rintro ds M Q ⟨t, rfl, dt, ft, q⟩
  have q : Q (.bl (plB t)) M := q
  cases t with
  | tup xs =>
    refine ⟨by show 0 ≤ 60; decide, ?_⟩
    show if (!(((xs.length : Nat) : Int) == 3)) = true then _ else _
    refine iteB (fun c => ⟨_, Sub.refl _, ?_⟩) (fun c => ?_)
    · rw [plB_tup (by show (((xs.length : Nat) : Int) == 3) = false; simpa using c)] at q; exact q
    obtain ⟨x, y, z, e⟩ := tup_three (t := .tup xs) (by show (((xs.length : Nat) : Int) == 3) = true; simpa using c)
    cases e
    have fx := ft.tup.2
    rw [dep] at dt
    have dx := dep_at (d := x) (ds := [x, y, z]) (by simp)
    have dy := dep_at (d := y) (ds := [x, y, z]) (by simp)
    have dz := dep_at (d := z) (ds := [x, y, z]) (by simp)
    have no : plB (.tup [x, y, z]) = false → ∃ M2, Sub M2 M ∧ Q (.bl false) M2 := fun h => ⟨M, Sub.refl _, by rw [h] at q; exact q⟩
    have pl : plB (.tup [x, y, z]) = true → lsB bdB x = true ∧ lsB bdB y = true ∧ isLst z = true := fun h => by
      unfold plB at h
      split at h
      · rename_i S T Z e
        cases e
        simp only [Bool.and_eq_true] at h
        exact ⟨h.1.1.1, h.1.1.2, rfl⟩
      · cases h
    show if (!isLst z) = true then _ else _
    refine iteB (fun c4 => no ?_) (fun c4 => ⟨x, rfl, by omega, fx x (by simp), ?_⟩)
    · cases h : plB (.tup [x, y, z]) with
      | false => rfl
      | true => rw [(pl h).2.2] at c4; cases c4
    show if (!lsB bdB x) = true then _ else _
    refine iteB (fun c1 => no ?_) (fun c1 => ⟨y, rfl, by omega, fx y (by simp), ?_⟩)
    · cases h : plB (.tup [x, y, z]) with
      | false => rfl
      | true => rw [(pl h).1] at c1; cases c1
    show if (!lsB bdB y) = true then _ else _
    refine iteB (fun c2 => no ?_) (fun c2 => ⟨by show 0 ≤ sizeLine; decide, by omega, ?_⟩)
    · cases h : plB (.tup [x, y, z]) with
      | false => rfl
      | true => rw [(pl h).2.1] at c2; cases c2
    obtain ⟨S, rfl⟩ : ∃ S, x = .lst S := by cases x <;> first | exact ⟨_, rfl⟩ | cases c1
    obtain ⟨T, rfl⟩ : ∃ T, y = .lst T := by cases y <;> first | exact ⟨_, rfl⟩ | cases c2
    obtain ⟨Z, rfl⟩ : ∃ Z, z = .lst Z := by cases z <;> first | exact ⟨_, rfl⟩ | cases c4
    have c1 : S.all bdB = true := by have : (!S.all bdB) = false := c1; simpa using this
    have c2 : T.all bdB = true := by have : (!T.all bdB) = false := c2; simpa using this
    show if peq (.lst S) (.lst []) = true then _ else _
    refine iteB (fun c3 => no ?_) (fun c3 => ?_)
    · cases S with
      | nil => simp [plB]
      | cons _ _ => cases c3
    have c3 : S.isEmpty = false := by
      cases S with
      | nil => cases c3
      | cons _ _ => rfl
    have q : Q (.bl (S.all bdB && T.all bdB && !S.isEmpty && Z.all (deB S.length T.length))) M := q
    rw [c1, c2, c3] at q
    have q : Q (.bl (Z.all (deB S.length T.length))) M := q
    obtain ⟨lZ, fZ⟩ := (fx (.lst Z) (by simp)).lst
    rw [dep] at dz
    refine ⟨fun i ρ M' => M' = M ∧ (∀ x ∈ Z.take i, deB S.length T.length x = true) ∧ ∃ o, ρ = [.sh (.tup [.lst S, .lst T, .lst Z]), o], ⟨rfl, fun x h => (nomatch h), _, rfl⟩, ?_, ?_⟩
    · rintro i t ρ M' hd ⟨rfl, ok, o, rfl⟩
      have mt := List.mem_of_getElem? hd
      have dm := dep_at mt
      have no : deB S.length T.length t = false → ∃ M2, Sub M2 M' ∧ Q (.bl false) M2 := fun h => ⟨M', Sub.refl _, by rw [all_false mt h] at q; exact q⟩
      cases t with
      | tup ps =>
        refine ⟨by show 0 ≤ 60; decide, ?_⟩
        show if (!(((ps.length : Nat) : Int) == 3)) = true then _ else _
        refine iteB (fun c => no (deB_tup (by show (((ps.length : Nat) : Int) == 3) = false; simpa using c))) (fun c => ?_)
        obtain ⟨x, y, z, e⟩ := tup_three (t := .tup ps) (by show (((ps.length : Nat) : Int) == 3) = true; simpa using c)
        cases e
        rw [dep] at dm
        have ex := dep_at (d := x) (ds := [x, y, z]) (by simp)
        have ey := dep_at (d := y) (ds := [x, y, z]) (by simp)
        have ez := dep_at (d := z) (ds := [x, y, z]) (by simp)
        have fp := (fZ _ mt).tup.2
        have e : deB S.length T.length (.tup [x, y, z]) = (flB S.length x && flB T.length y && frB z) := rfl
        refine ⟨z, rfl, by omega, ?_⟩
        show if (!frB z) = true then _ else _
        refine iteB (fun k1 => no ?_) (fun k1 => ⟨x, S.length, rfl, by omega, fp x (by simp), ?_⟩)
        · have k1 : frB z = false := by simpa using k1
          rw [e, k1, Bool.and_false]
        show if (!flB S.length x) = true then _ else _
        refine iteB (fun k2 => no ?_) (fun k2 => ⟨y, T.length, rfl, by omega, fp y (by simp), ?_⟩)
        · have k2 : flB S.length x = false := by simpa using k2
          rw [e, k2]; rfl
        show if (!flB T.length y) = true then _ else _
        refine iteB (fun k3 => no ?_) (fun k3 => ⟨rfl, ?_, _, rfl⟩)
        · have k3 : flB T.length y = false := by simpa using k3
          rw [e, k3, Bool.and_false]; rfl
        have k1 : frB z = true := by simpa using k1
        have k2 : flB S.length x = true := by simpa using k2
        have k3 : flB T.length y = true := by simpa using k3
        rw [List.take_add_one, hd]
        exact all_snoc ok (by rw [e, k1, k2, k3]; rfl)
      | _ => exact no rfl
    · rintro ρ M' ⟨rfl, ok, o, rfl⟩
      rw [List.take_length] at ok
      refine ⟨_, Sub.refl _, ?_⟩
      rw [List.all_eq_true.mpr ok] at q
      exact q
  | _ => exact ⟨_, Sub.refl _, q⟩

/-! ### isinstance(x, (list, tuple)); x[::-1] of a tuple -/
noncomputable def isSq : D → Bool
  | .lst _ => true
  | .tup _ => true
  | _ => false
private theorem kitSq {K : PySem.W.Frag} (d : D) : PySem.W.kitAny K (.type (tyN d)) [.type "list", .type "tuple"] = some (isSq d) := by cases d <;> first | rfl | with_unfolding_all rfl
section
variable {X : Cx} {a e st : Expr} {fa fe : WE} {pos p p2 p3 p4 n1 n2 tp : Pos} {x1 : Nat}
noncomputable def rIsT (K : PySem.W.Frag) : List V → Hp → VK → Prop := fun xs H Q => ∃ d x p, xs = [x, .ref p] ∧ Rp K H d x ∧ H p = some (.tup [.ty "list", .ty "tuple"]) ∧ Q (.bl (isSq d)) H
private theorem call_isT : CallR X (.builtin "isinstance") (rIsT X.K) := by
  intro pins s σ H vs us Q I r h
  obtain ⟨d, x, p, rfl, rp, hp, q⟩ := h
  obtain ⟨u, w', rfl, r1, r2⟩ := vals2 r
  cases (show w' = Value.ref p from r2)
  obtain ⟨its, rI, ht⟩ := rp_tuple I (SqT.of hp)
  obtain ⟨c1, c2, rfl, k1, k2⟩ := vals2 rI
  cases (show c1 = Value.type "list" from k1)
  cases (show c2 = Value.type "tuple" from k2)
  obtain ⟨⟨cls, dd, data, sl⟩, g1, g2, n, g3⟩ := ht
  simp only at g2 g3
  subst g2 g3
  have fin : ∀ tk : Nat, EP X pins σ Q (.bool (isSq d)) { s with toks := tk } := fun tk => ⟨.bl (isSq d), H, I.tok tk, rfl, q⟩
  have e := kitSq (K := X.K) d
  cases d with
  | non => rw [Rp] at rp; subst rp; cases r1; exact PySem.W.kia_tup PySem.W.kitx_none I.kIn trivial g1 e (fun z => nomatch z) fin
  | bl k => rw [Rp] at rp; subst rp; cases r1; exact PySem.W.kia_tup PySem.W.kitx_bool I.kIn trivial g1 e (fun z => nomatch z) fin
  | int k => rw [Rp] at rp; subst rp; obtain ⟨t, rfl⟩ := r1; exact PySem.W.kia_tup PySem.W.kitx_int I.kIn trivial g1 e (fun z => nomatch z) fin
  | str k => rw [Rp] at rp; subst rp; obtain ⟨t, rfl⟩ := r1; exact PySem.W.kia_tup PySem.W.kitx_str I.kIn trivial g1 e (fun z => nomatch z) fin
  | emp =>
    rw [Rp] at rp
    obtain ⟨a, rfl, h1⟩ := rp
    cases (show u = Value.ref a from r1)
    obtain ⟨_, ep, h2⟩ := rp_emp I h1
    exact PySem.W.kia_tup PySem.W.kitx_dict I.kIn ⟨_, h2, rfl⟩ g1 e (fun z => nomatch z) fin
  | tup ds =>
    rw [Rp] at rp
    obtain ⟨a, ws, rfl, h1, _⟩ := rp
    cases (show u = Value.ref a from r1)
    obtain ⟨_, _, ⟨o, h2, h3, _⟩, _⟩ := I.tuple h1
    exact PySem.W.kia_tup PySem.W.kitx_tuple I.kIn ⟨o, h2, h3⟩ g1 e (fun z => nomatch z) fin
  | lst ds =>
    rw [Rp] at rp
    obtain ⟨a, ws, rfl, h1, _⟩ := rp
    cases (show u = Value.ref a from r1)
    obtain ⟨_, _, ⟨o, n', h2, h3, _⟩, _⟩ := I.list (.inl h1)
    exact PySem.W.kia_tup PySem.W.kitx_list I.kIn ⟨o, h2, h3⟩ g1 e (fun z => nomatch z) fin
private theorem j_isLT (hg : Gl X "isinstance") (hm : X.mg "isinstance" = none) (hgL : Gl X "list") (hmL : X.mg "list" = none) (hgT : Gl X "tuple") (hmT : X.mg "tuple" = none) (ha : JE X a fa)
    (he : starEach [a, .Tuple [.Name "list" n1, .Name "tuple" n2] x1 tp] X.env = [(false, eval a X.env), (false, eval (.Tuple [.Name "list" n1, .Name "tuple" n2] x1 tp) X.env)] := by rfl) (he2 : starEach [.Tuple [.Name "list" n1, .Name "tuple" n2] x1 tp] X.env = [(false, eval (.Tuple [.Name "list" n1, .Name "tuple" n2] x1 tp) X.env)] := by rfl) :
    JE X (.Call (.Name "isinstance" p) [a, .Tuple [.Name "list" n1, .Name "tuple" n2] x1 tp] [] pos) (wIs isSq fa) :=
  ⟨imE (pe_callB (pos := pos) (p := p) call_isT hg hm boot_isinstance (pa_cons ha.h (pa_cons (pe_tup (pa_cons (pe_bltn (v := .ty "list") hgL hmL boot_list rfl (by decide) (by decide)) (pa_cons (pe_bltn (v := .ty "tuple") hgT hmT boot_tuple rfl (by decide) (by decide)) pa_nil rfl) rfl)) pa_nil he2) (by rw [he, he2])) (by decide) (by decide) (by rw [he, he2]) (by rw [he2]; rfl)) fun σ H Q hh => ex5 hh fun Z F ρ M P ag hf k =>
    ⟨Z, F, ρ, M, _, ag, hf, fun v H1 F1 d ρ1 M1 s1 ag1 r1 h1 => ⟨by show 2 ≤ sizeLine; decide, fun p hp => ⟨d, v, p, rfl, (r1.same ag1.m.sm).same (Same.new hp), upd_same, k _ _ F1 _ ρ1 M1 s1 (ag1.newO hp) (by rw [Rp]) h1⟩⟩⟩⟩
end
namespace Rv
section
variable {prog : Program} {w : World} {A : Around} {E : Value → Shared → Prop} {s : Shared}
private theorem sliceApplied_rev {sl : Addr} {vs : Value} {n : Nat} {Q : Int × Int × Nat → Shared → Prop} (hs : s.heap.IsSliceOf sl .none .none vs) (ps : IsPart vs (some (-1)))
    (h : Q ((n : Int) - 1, -1, n) s) : wpAny (model prog w) A (Builtin.Slice.sliceApplied (.ref sl) (pure (n : Int))) Q E s := by
  obtain ⟨os, hos, hcs, hds⟩ := id hs
  unfold Builtin.Slice.sliceApplied Builtin.Slice.sliceFields
  refine wpAny_bind (wpAny_bind (wpAny_field hos hds (x := .none) rfl (wpAny_bind (wpAny_field hos hds (x := .none) rfl (wpAny_bind (wpAny_field hos hds (x := vs) rfl (wpAny_pure ?_)))))))
  refine wpAny_bind (HT.slicePart_ ps ?_)
  show wpAny _ _ (if ((-1 : Int) == 0) = true then _ else _) _ _ s
  rw [if_neg (by decide)]
  refine wpAny_bind (HT.slicePart_ .none (wpAny_bind (HT.slicePart_ .none (wpAny_bind (wpAny_pure ?_)))))
  show wpAny _ _ (match Builtin.Slice.sliceAdjust none none (-1) (n : Int) with | (lo, hi) => pure (lo, (-1 : Int), Builtin.Slice.slicePlaces lo hi (-1))) _ _ s
  have e1 : Builtin.Slice.sliceAdjust none none (-1) (n : Int) = ((n : Int) - 1, -1) := rfl
  rw [e1]
  have e2 : Builtin.Slice.slicePlaces ((n : Int) - 1) (-1) (-1) = n := by
    unfold Builtin.Slice.slicePlaces
    rw [if_neg (by decide)]
    split
    · rw [show (- -1 : Int) = 1 by decide, Int.ediv_one]; omega
    · omega
  show wpAny _ _ (pure ((n : Int) - 1, (-1 : Int), Builtin.Slice.slicePlaces ((n : Int) - 1) (-1) (-1))) _ _ s
  rw [e2]
  exact wpAny_pure h
private theorem pick_rev (its : List Value) : ((List.range its.length).filterMap fun (k : Nat) => its.toArray[((its.length : Int) - 1 + (k : Int) * (-1)).toNat]?) = its.reverse := by
  have e3 := pick_run its.reverse.toArray 0 its.length
  rw [List.drop_zero, List.take_of_length_le (by simp), List.filterMap_map] at e3
  have e4 : its.reverse = its.reverse.toArray.toList := by simp
  rw [e4, ← e3]
  have fc : ∀ (l : List Nat) (f g : Nat → Option Value), (∀ k ∈ l, f k = g k) → l.filterMap f = l.filterMap g := by
    intro l f g
    induction l with
    | nil => intro _; rfl
    | cons a l ih => intro h; rw [List.filterMap_cons, List.filterMap_cons, h a (by simp), ih fun k hk => h k (by simp [hk])]
  refine fc _ _ _ fun k hk => ?_
  have hk := List.mem_range.mp hk
  have e : ((its.length : Int) - 1 + (k : Int) * (-1)).toNat = its.length - 1 - k := by omega
  simp only [Function.comp]
  rw [Nat.zero_add, e, List.getElem?_toArray, List.getElem?_toArray, List.getElem?_reverse hk]
private theorem getItem_tuple_rev {t sl : Addr} {its : List Value} {vs : Value} {Q : Value → Shared → Prop} (ht : IsTup s.heap t its.toArray) (hs : s.heap.IsSliceOf sl .none .none vs) (ps : IsPart vs (some (-1)))
    (h : Q (.ref s.heap.objs.size) { s with heap := s.heap.push { cls := .type "tuple", data := .seq its.reverse.toArray } }) (hsz : its.length ≤ sizeLine) : wpAny (model prog w) A (getItem (.ref t) (.ref sl)) Q E s := by
  have htake : sizeOk (.seq its.reverse.toArray) := by
    show its.reverse.toArray.size ≤ sizeLine
    rw [List.size_toArray, List.length_reverse]; exact hsz
  obtain ⟨os, hos, hcs, hds⟩ := id hs
  have hTs : s.TypeIs (.ref sl) "slice" := ⟨os, hos, hcs⟩
  unfold getItem
  try with_reducible refine wpAny_holding ?_
  first | refine wpAny_bind (wpAny_pure ?_) | skip
  refine wpAny_bind (wpAny_sequenceKey ht.typeIs (by decide) ?_)
  refine wpAny_bind (wpAny_callSpecial?_slot (name := Str.ofString "__getitem__") ht.typeIs PyProof.Rows.slot_tuple_getitem
    (wpAny_call_entry PyProof.Rows.slot_tuple_getitem ht.typeIs entry_tuple_getitem ?_ (args_tuple_getitem _ _)))
  show wpAny _ _ (Builtin.Tuple.tupleItemsOf (.ref t) >>= _) _ _ s
  refine wpAny_bind (tupleItemsOf_ ht ?_)
  refine wpAny_bind (wpAny_typeOf hTs ?_)
  rw [if_pos (by decide), List.size_toArray]
  refine wpAny_bind (sliceApplied_rev hs ps ?_)
  show wpAny _ _ (if (((its.length : Int) - 1) == 0 && (-1 : Int) == 1 && its.length == its.length) = true then _ else _) _ _ s
  rw [if_neg (by rw [show ((-1 : Int) == 1) = false by decide, Bool.and_false, Bool.false_and]; decide), pick_rev]
  first
    | exact wpAny_bind (m := Builtin.Tuple.tupleExact _) (wpAny_newObj_type (wpAny_pure ⟨_, rfl, wpAny_pure h⟩) htake)
    | exact wpAny_bind (m := Builtin.Tuple.tupleExact _) (wpAny_newObj_type (wpAny_bind (wpAny_pure (wpAny_pure ⟨_, rfl, wpAny_pure h⟩))) htake)
    | exact wpAny_bind (wpAny_bind (m := Builtin.Tuple.tupleExact _) (wpAny_newObj_type (wpAny_pure (wpAny_pure ⟨_, rfl, wpAny_pure h⟩)) htake))
    | exact wpAny_bind (wpAny_bind (m := Builtin.Tuple.tupleExact _) (wpAny_newObj_type (wpAny_pure ⟨_, rfl, wpAny_pure h⟩) htake))
end
end Rv
section
variable {X : Cx} {e st : Expr} {pos p2 p3 p4 : Pos} {te : TE} {fe : WE}
noncomputable def rRevT (K : PySem.W.Frag) : V → Hp → VK → Prop := fun x H Q => ∃ a xs, x = .ref a ∧ SqT K H a xs ∧ ∀ p, H p = none → Q (.ref p) (upd H p (.tup xs.reverse))
private theorem pe_revT (hs : PE X st (tC (.int (-1)))) (he : PE X e te) : PE X (.Subscript e (.Slice none none (some st) p2) pos) (fun σ H Q => te σ H fun x H1 => rRevT X.K x H1 Q) := by
  intro pins s σ H Q I h
  refine Subscript_ (thn (he pins s σ H _ I h) fun v s1 ⟨x, H1, I1, r1, q1⟩ => ?_)
  refine wpAny_Slice ?_
  rw [evalPart_none]
  refine wpAny_pure ?_
  refine wpAny_pure ?_
  refine thn (po_some hs pins s1 σ H1 (fun o H' => o = some (-1) ∧ H' = H1) I1 ⟨_, rfl, rfl, rfl⟩) fun vs s2 ⟨o, H2, I2, ps, e1, e2⟩ => ?_
  subst e1 e2
  have I4 : Inv X pins σ H2 { s2 with heap := s2.heap.push { cls := .type "slice", data := .fields #[.none, .none, vs] } } := I2.kept (t' := s2.toks) fun b ob q => Heap.get?_push_of_some _ q
  obtain ⟨a, xs, rfl, hx, q⟩ := q1
  cases r1
  obtain ⟨its, r, ht, hz⟩ := I4.tuple hx
  have hlen := r.length
  show wpAny (model X.prog X.w) X.A (subscriptTail e (.Slice none none (some st) p2) (.ref a) (.ref s2.heap.objs.size)) (EP X pins σ Q) X.xe { s2 with heap := s2.heap.push { cls := .type "slice", data := .fields #[.none, .none, vs] } }
  refine tail_any (ops := [.ref a, .ref s2.heap.objs.size]) ht.typeIs PyProof.Rows.slot_tuple_getitem.lookup ?_ (by with_unfolding_all rfl)
  refine Rv.getItem_tuple_rev ht (Heap.IsSliceOf.new ..) ps ?_ (by omega)
  refine ⟨.ref _, _, I4.laid (t' := s2.toks) (o := .tup xs.reverse) (fun b ob q => Heap.get?_push_of_some _ q) (Nat.le_refl _) ?_, rfl, q _ (I4.hok.fresh (Nat.le_refl _))⟩
  exact ⟨by rw [List.length_reverse]; exact hz, _, vals_rev r, IsTup.new _ _⟩
noncomputable def wRevT (fe : WE) : WE := fun ρ M P => fe ρ M fun d ρ1 M1 => match d with
  | .tup ds => P (.tup ds.reverse) ρ1 M1
  | _ => False
private theorem j_revT {k : Nat} (he : JE X e fe) : JE X (.Subscript e (.Slice none none (some (.UnaryOp .USub (.Constant (.int 1) k p4) p3)) p2) pos) (wRevT fe) := ⟨imE (pe_revT pe_m1 he.h) fun σ H Q hh => ex5 hh fun Z F ρ M P ag hf k => ⟨Z, F, ρ, M, _, ag, hf, fun v H1 F1 d ρ1 M1 s1 ag1 r1 h1 => by
  split at h1
  · rename_i ds
    rw [Rp] at r1
    obtain ⟨a, vs, rfl, g1, g2⟩ := r1
    refine ⟨a, vs, rfl, sqT_same ag1.m.sm g1, fun p hp => ?_⟩
    have s2 : Same F1 (upd F1 p (.tup vs.reverse)) := Same.new (sub_none ag1.m.sm hp)
    exact k _ _ (upd F1 p (.tup vs.reverse)) _ ρ1 M1 (s1.trans s2) (ag1.new hp) (by rw [Rp]; exact ⟨p, _, rfl, SqT.of upd_same, (g2.rev).same s2⟩) h1
  · exact h1.elim⟩⟩
end

/-! ### name.insert(k, e), name.pop(k) -/
/-! ### {} as data; {'k': e, 'l': f} as a thing, read by its keys -/
private theorem ag_hold {K : PySem.W.Frag} {Z F H : Hp} {M : Mm} {ρ : Rho} {σ : L2.St} {p : Addr} {o : HO} (ag : Ag K Z F M H ρ σ) (hp : H p = none) : Ag K Z (upd F p o) M (upd H p o) ρ σ := by
  obtain ⟨y1, y2, y3⟩ := none_of ag.m hp
  have s1 : Same F (upd F p o) := Same.new y1
  have a0 := ag.newO (o := o) hp
  refine ⟨⟨fun b u e => ?_, fun q u e => ?_, fun q u e => ?_⟩, a0.len, fun i e h => ?_, a0.di⟩
  · by_cases hb : b = p
    · subst hb; rw [upd_same] at e ⊢; exact e
    · rw [upd_ne hb] at e; exact a0.m.sm b u e
  · obtain ⟨z1, z2, z3⟩ := a0.m.zz q u e
    have : q ≠ p := fun z => by rw [z, y3] at e; cases e
    exact ⟨z1, by rw [upd_ne this]; exact z2, z3⟩
  · obtain ⟨z1, z2⟩ := a0.m.mo q u e
    have : q ≠ p := fun z => by rw [z, y2] at e; cases e
    exact ⟨by rw [upd_ne this]; exact z1, z2.same s1 rfl⟩
  · have := a0.en i e h
    cases e with
    | un => trivial
    | sh d => obtain ⟨v, h1, h2⟩ := this; exact ⟨v, h1, Rp.same s1 h2⟩
    | rf p => exact this
    | ut u => obtain ⟨v, h1, h2⟩ := this; exact ⟨v, h1, RU.same s1 h2⟩
    | ow es =>
      obtain ⟨q, ws, _, g2, _⟩ := ag.en i _ h
      obtain ⟨q', ws, h1, h2, h3, h4, h6, h5⟩ := this
      have hne : q' ≠ p := fun z => by
        obtain ⟨q2, ws2, k1, k2, _⟩ := ag.en i _ h
        rw [h1] at k1
        cases k1
        rw [z, hp] at k2; cases k2
      exact ⟨q', ws, h1, h2, by rw [upd_ne hne]; exact h3, h4, h6, Rps.same s1 h5⟩
section
variable {X : Cx} {e e1 e2 : Expr} {f f1 f2 : WE} {k1 k2 x : Str} {j1 j2 i : Nat} {pos pos' dpos p1 p2 np : Pos}
private theorem j_emp : JE X (.Dict [] [] pos) (wC .emp) := ⟨imE pe_dnewK fun σ H Q hh => ex5 hh fun Z F ρ M P ag hf k => fun p hp =>
  k (.ref p) (upd H p (.dK [])) (upd F p (.dK [])) .emp ρ M (Same.new (none_of ag.m hp).1) (ag_hold ag hp) (by rw [Rp]; exact ⟨p, rfl, .inl upd_same⟩) hf⟩
end

/-! ### k06: copies, part by part -/
noncomputable def gCp (n : Nat) : List D → (D → Prop) → Prop := fun ds P => ∃ d, ds = [d] ∧ dep d ≤ n ∧ Fine 1000 d ∧ P d
noncomputable abbrev s_law_copy : Stmt := top 26
private theorem sc_law_copy : FnScope ["thing"] ["thing"] (defScope s_law_copy) := ⟨rfl, rfl, rfl, by decide +kernel, rfl, by decide +kernel, by decide +kernel⟩
private theorem copy_step (B : Bl mg) (F : Def K mg "_law_copy" s_law_copy ["thing"]) {k n : Nat} {g' : List D → (D → Prop) → Prop} (hg : ∀ m, n = m + 1 → g' = gCp m) (F__law_copy : Has P w K mg base CX0 k "_law_copy" ["thing"] (spW K (pur g'))) : Has P w K mg base CX0 (k + 1) "_law_copy" ["thing"] (spW K (pur (gCp n))) := by
  refine F.hasP sc_law_copy (fun ds P h => by obtain ⟨_, rfl, _⟩ := h; rfl) fun f cdv A outer s H E hr => ?_
  have nd := sc_law_copy.nd
  refine ⟨_, (jss_cons (js_if (jt (j_isW (T := "list") isLst kitLst rfl B.isinstance rfl B.list boot_list (jv 0))) (jss_one (js_ret (j_fz (jn_lc ["one"] [none] ⟨rfl, by decide +kernel, by decide +kernel, rfl, rfl, by intro i x j _ h; exact absurd h (by rcases i with _ | _ | _ | i <;> simp)⟩ rfl (ji_list (jv 0)) (fun _ _ _ _ _ => (jg_name (i := 0) (show List.Nodup [("one" : Str)] by decide +kernel) rfl (Or.inl rfl))) (fun _ _ _ _ _ => jc_nil) (fun _ _ _ _ _ => (j_h F__law_copy (hr.mono (by omega)) rfl (ja_cons (jv 0) ja_nil))))))) jss_nil)
    (jss_cons (js_if (jt (j_isW (T := "tuple") isTup kitTup rfl B.isinstance rfl B.tuple boot_tuple (jv 0))) (jss_one (js_ret (j_tupc rfl B.tuple (ja_cons (j_fz (jn_lc ["one"] [none] ⟨rfl, by decide +kernel, by decide +kernel, rfl, rfl, by intro i x j _ h; exact absurd h (by rcases i with _ | _ | _ | i <;> simp)⟩ rfl (ji_tup (jv 0)) (fun _ _ _ _ _ => (jg_name (i := 0) (show List.Nodup [("one" : Str)] by decide +kernel) rfl (Or.inl rfl))) (fun _ _ _ _ _ => jc_nil) (fun _ _ _ _ _ => (j_h F__law_copy (hr.mono (by omega)) rfl (ja_cons (jv 0) ja_nil))))) ja_nil)))) jss_nil)
    (jss_one (js_ret (jv 0))))), ?_⟩
  rintro ds M Q ⟨t, rfl, dt, ft, q⟩
  cases t with
  | lst xs =>
    rw [dep] at dt
    obtain ⟨m, rfl⟩ : ∃ m, n = m + 1 := ⟨n - 1, by omega⟩
    cases hg m rfl
    obtain ⟨l, fx⟩ := ft.lst
    refine ⟨fun i out ρ M' => M' = M ∧ out = xs.take i ∧ ∃ o, ρ = [o], ⟨rfl, rfl, _, rfl⟩, ?_, ?_⟩
    · rintro i t out ρ M' hd ⟨rfl, rfl, o, rfl⟩
      have hi := (List.getElem?_eq_some_iff.mp hd).1
      have mt := List.mem_of_getElem? hd
      have := dep_at mt
      exact ⟨t, rfl, by omega, fx t mt, by rw [List.length_take]; exact small1000 (by omega), rfl, by rw [List.take_add_one, hd]; rfl, _, rfl⟩
    rintro out ρ M' ⟨rfl, rfl, o, rfl⟩
    rw [List.take_length]
    exact ⟨_, Sub.refl _, q⟩
  | tup xs =>
    rw [dep] at dt
    obtain ⟨m, rfl⟩ : ∃ m, n = m + 1 := ⟨n - 1, by omega⟩
    cases hg m rfl
    obtain ⟨l, fx⟩ := ft.tup
    refine ⟨fun i out ρ M' => M' = M ∧ out = xs.take i ∧ ∃ o, ρ = [o], ⟨rfl, rfl, _, rfl⟩, ?_, ?_⟩
    · rintro i t out ρ M' hd ⟨rfl, rfl, o, rfl⟩
      have hi := (List.getElem?_eq_some_iff.mp hd).1
      have mt := List.mem_of_getElem? hd
      have := dep_at mt
      exact ⟨t, rfl, by omega, fx t mt, by rw [List.length_take]; exact small1000 (by omega), rfl, by rw [List.take_add_one, hd]; rfl, _, rfl⟩
    rintro out ρ M' ⟨rfl, rfl, o, rfl⟩
    rw [List.take_length]
    exact ⟨_, Sub.refl _, q⟩
  | _ => exact ⟨_, Sub.refl _, q⟩
private theorem copy_none (F : Def K mg "_law_copy" s_law_copy ["thing"]) : Has P w K mg base CX0 1 "_law_copy" ["thing"] (spW K (pur fun _ _ => False)) := F.has (k := 0) sc_law_copy (fun _ _ _ _ h => by obtain ⟨_, _, _, _, _, _, _, h, _⟩ := h; exact h.elim) (fun _ _ _ _ _ _ _ _ _ _ h => by obtain ⟨_, _, _, _, _, _, _, h, _⟩ := h; exact h.elim)
private theorem copy_all (B : Bl mg) (F : Def K mg "_law_copy" s_law_copy ["thing"]) : ∀ n, Has P w K mg base CX0 (n + 2) "_law_copy" ["thing"] (spW K (pur (gCp n)))
  | 0 => copy_step B F (g' := fun _ _ => False) (fun m e => by omega) (copy_none F)
  | n + 1 => copy_step B F (g' := gCp n) (fun m e => by cases e; rfl) (copy_all B F n)
private theorem h__law_copy (B : Bl mg) (F : Def K mg "_law_copy" s_law_copy ["thing"]) : Has P w K mg base CX0 12 "_law_copy" ["thing"] (spW K (pur (gCp 10))) := copy_all B F 10

/-! ### k06: odd things -/
mutual
noncomputable def fB : D → Bool
  | .int i => decide (-100 < i) && decide (i < 100)
  | .tup ds => decide (ds.length ≤ 100) && fBs ds
  | .lst ds => decide (ds.length ≤ 100) && fBs ds
  | .non => true
  | .bl _ => true
  | .str _ => true
  | .emp => true
noncomputable def fBs : List D → Bool
  | [] => true
  | d :: ds => fB d && fBs ds
end
private theorem sm9 {i : Int} (h1 : -100 < i) (h2 : i < 100) : Sm 1000 i := (sm_of (n := 10) (by omega) (by omega)).mono (by decide)
mutual
private theorem fB_fine : ∀ {d : D}, fB d = true → Fine 1000 d
  | .int i, h => by
    rw [fB, Bool.and_eq_true] at h
    rw [Fine]
    exact sm9 (of_decide_eq_true h.1) (of_decide_eq_true h.2)
  | .tup ds, h => by
    rw [fB, Bool.and_eq_true] at h
    rw [Fine]
    exact ⟨Nat.le_trans (of_decide_eq_true h.1) (by decide), fBs_fine h.2⟩
  | .lst ds, h => by
    rw [fB, Bool.and_eq_true] at h
    rw [Fine]
    exact ⟨Nat.le_trans (of_decide_eq_true h.1) (by decide), fBs_fine h.2⟩
  | .non, _ => by rw [Fine]; trivial
  | .bl _, _ => by rw [Fine]; trivial
  | .str _, _ => by rw [Fine]; trivial
  | .emp, _ => by rw [Fine]; trivial
private theorem fBs_fine : ∀ {ds : List D}, fBs ds = true → Fines 1000 ds
  | [], _ => by rw [Fines]; trivial
  | d :: ds, h => by
    rw [fBs, Bool.and_eq_true] at h
    rw [Fines]
    exact ⟨fB_fine h.1, fBs_fine h.2⟩
end
mutual
private theorem Fine.up : ∀ {d : D}, Fine 500 d → Fine 1000 d
  | .int i, h => by rw [Fine] at h ⊢; exact h
  | .tup ds, h => by rw [Fine] at h ⊢; exact ⟨Nat.le_trans h.1 (by decide), Fines.up h.2⟩
  | .lst ds, h => by rw [Fine] at h ⊢; exact ⟨Nat.le_trans h.1 (by decide), Fines.up h.2⟩
  | .non, _ => by rw [Fine]; trivial
  | .bl _, _ => by rw [Fine]; trivial
  | .str _, _ => by rw [Fine]; trivial
  | .emp, _ => by rw [Fine]; trivial
private theorem Fines.up : ∀ {ds : List D}, Fines 500 ds → Fines 1000 ds
  | [], _ => by rw [Fines]; trivial
  | d :: ds, h => by rw [Fines] at h ⊢; exact ⟨Fine.up h.1, Fines.up h.2⟩
end
mutual
noncomputable def Part : D → Prop
  | .tup ds => 2 ≤ ds.length ∧ Parts ds
  | .lst ds => Parts ds
  | .int _ => True
  | .non => True
  | .bl _ => True
  | .str _ => True
  | .emp => True
noncomputable def Parts : List D → Prop
  | [] => True
  | d :: ds => Part d ∧ Parts ds
end
private theorem parts_mem : ∀ {ds : List D}, Parts ds → ∀ d ∈ ds, Part d
  | [], _, d, h => (nomatch h)
  | x :: ds, h, d, hd => by
    rw [Parts] at h
    rcases List.mem_cons.mp hd with rfl | hd
    · exact h.1
    · exact parts_mem h.2 d hd
noncomputable def OkT (n : Nat) (t : D) : Prop := dep t ≤ n + 3 ∧ Fine 1000 t
private theorem okc {n : Nat} {t : D} (h : (decide (dep t ≤ 3) && fB t) = true) : OkT n t := by
  rw [Bool.and_eq_true] at h
  have := of_decide_eq_true h.1
  exact ⟨by omega, fB_fine h.2⟩
private theorem deps_of {n : Nat} : ∀ {l : List D}, (∀ t ∈ l, dep t ≤ n) → deps l ≤ n
  | [], _ => by rw [deps]; exact Nat.zero_le _
  | x :: l, h => by rw [deps]; exact Nat.max_le.mpr ⟨h x (.head _), deps_of fun t ht => h t (.tail _ ht)⟩
private theorem okL {n : Nat} {xs : List D} (l : xs.length ≤ 1000) (h : ∀ x ∈ xs, dep x ≤ n + 2 ∧ Fine 1000 x) : OkT n (.lst xs) := ⟨by rw [dep]; have := deps_of fun t ht => (h t ht).1; omega, .mkL l fun x hx => (h x hx).2⟩
private theorem okTu {n : Nat} {xs : List D} (l : xs.length ≤ 1000) (h : ∀ x ∈ xs, dep x ≤ n + 2 ∧ Fine 1000 x) : OkT n (.tup xs) := ⟨by rw [dep]; have := deps_of fun t ht => (h t ht).1; omega, .mkT l fun x hx => (h x hx).2⟩
private theorem cut_sub {xs : List D} {lo hi : Option Int} {t : D} (h : t ∈ L3.cutD xs lo hi) : t ∈ xs := by
  unfold L3.cutD at h
  exact List.mem_of_mem_drop (List.mem_of_mem_take h)
private theorem cut_len (xs : List D) (lo hi : Option Int) : (L3.cutD xs lo hi).length ≤ xs.length := by
  unfold L3.cutD
  rw [List.length_take, List.length_drop]; omega
private theorem cut_lo {α : Type} (l : List α) (k : Nat) (h : k ≤ l.length) : L3.cutD l none (some (k : Int)) = l.take k := by
  unfold L3.cutD HT.sIx
  have h : ¬ ((k : Int) < 0) := by omega
  simp [List.take_eq_take_iff, h]
private theorem cut_hi {α : Type} (l : List α) (k : Nat) (h : k ≤ l.length) : L3.cutD l (some (k : Int)) none = l.drop k := by
  unfold L3.cutD HT.sIx
  have h1 : ¬ ((k : Int) < 0) := by omega
  simp [h1, Nat.min_eq_left h]
  exact List.take_of_length_le (by simp)
noncomputable def gOdd : List D → (D → Prop) → Prop := fun ds P => ∃ d, ds = [d] ∧ Fine 500 d ∧ Part d ∧ ∀ t, OkT (dep d) t → P t
noncomputable abbrev s_law_odd : Stmt := top 27
private theorem sc_law_odd : FnScope ["deck", "thing", "some"] ["deck", "thing"] (defScope s_law_odd) := ⟨rfl, rfl, rfl, by decide +kernel, rfl, by decide +kernel, by decide +kernel⟩
private theorem h__law_odd (B : Bl mg) (F : Def K mg "_law_odd" s_law_odd ["deck", "thing"]) (F__law_draw : hDraw P w K mg base) : Has P w K mg base CX0 2 "_law_odd" ["deck", "thing"] (spD K Deck gOdd) := by
  refine F.hasD sc_law_odd (fun ds P h => by obtain ⟨_, rfl, _⟩ := h; rfl) fun f cdv A outer s H E hr => ?_
  have nd := sc_law_odd.nd
  refine ⟨_, (jss_cons (js_set (i := 2) nd rfl (Or.inl rfl) (j_fz (jn_lst (ja_cons j_non (ja_cons j_bl (ja_cons j_int (ja_cons j_int (ja_cons j_str (ja_cons j_str (ja_cons (j_tup ja_nil) (ja_cons (j_fz (jn_lst ja_nil)) (ja_cons j_emp (ja_cons (j_tup (ja_cons j_int (ja_cons j_int ja_nil))) (ja_cons (j_tup (ja_cons j_int (ja_cons j_int ja_nil))) (ja_cons (j_tup (ja_cons j_int (ja_cons j_int ja_nil))) (ja_cons (j_tup (ja_cons j_int (ja_cons (j_neg j_int) ja_nil))) (ja_cons (j_tup (ja_cons j_bl (ja_cons j_int ja_nil))) (ja_cons (j_tup (ja_cons j_int (ja_cons j_bl ja_nil))) (ja_cons (j_tup (ja_cons j_int (ja_cons j_str ja_nil))) ja_nil)))))))))))))))))))
    (jss_cons (js_set (i := 2) nd rfl (Or.inl rfl) (j_fz (jn_cat (jv 2) (j_fz (jn_lst (ja_cons (j_tup (ja_cons j_int ja_nil)) (ja_cons (j_tup (ja_cons j_int (ja_cons j_int (ja_cons j_int ja_nil)))) (ja_cons (j_fz (jn_lst (ja_cons j_int (ja_cons j_int ja_nil)))) (ja_cons (j_tup (ja_cons j_int (ja_cons j_int ja_nil))) (ja_cons (j_tup (ja_cons j_int (ja_cons j_int ja_nil))) (ja_cons (j_fz (jn_lst (ja_cons (j_tup (ja_cons j_int (ja_cons j_int ja_nil))) ja_nil))) (ja_cons (j_tup (ja_cons (j_tup (ja_cons j_int (ja_cons j_int ja_nil))) (ja_cons (j_tup (ja_cons j_int (ja_cons j_int ja_nil))) ja_nil))) (ja_cons (j_tup (ja_cons (j_tup (ja_cons j_int (ja_cons j_int ja_nil))) (ja_cons (j_tup (ja_cons j_int (ja_cons j_int ja_nil))) ja_nil))) (ja_cons (j_fz (jn_lst (ja_cons (jv 1) ja_nil))) ja_nil))))))))))))))
    (jss_cons (js_set (i := 2) nd rfl (Or.inl rfl) (j_fz (jn_cat (jv 2) (j_fz (jn_lst (ja_cons (j_tup (ja_cons (jv 1) ja_nil)) (ja_cons (j_tup (ja_cons (jv 1) (ja_cons (jv 1) ja_nil))) (ja_cons (j_tup (ja_cons (jv 1) (ja_cons (jv 1) (ja_cons (jv 1) ja_nil)))) (ja_cons (j_tup (ja_cons (j_fz (jn_lst ja_nil)) (ja_cons (j_fz (jn_lst ja_nil)) (ja_cons (j_tup (ja_cons j_int (ja_cons j_int ja_nil))) ja_nil)))) ja_nil)))))))))
    (jss_cons (js_cut (js_set (i := 2) nd rfl (Or.inl rfl) (j_fz (jn_cat (jv 2) (j_fz (jn_lst (ja_cons (j_tup (ja_cons (j_fz (jn_lst (ja_cons (j_tup (ja_cons j_int (ja_cons j_int ja_nil))) ja_nil))) (ja_cons (j_fz (jn_lst ja_nil)) (ja_cons (j_tup (ja_cons j_int (ja_cons j_int ja_nil))) ja_nil)))) (ja_cons (j_tup (ja_cons (j_tup (ja_cons j_int (ja_cons j_int ja_nil))) (ja_cons j_int ja_nil))) ja_nil))))))))
    (jss_cons (js_cut (js_if (jt (j_isW (T := "tuple") isTup kitTup rfl B.isinstance rfl B.tuple boot_tuple (jv 1))) (jss_one (js_set (i := 2) nd rfl (Or.inl rfl) (j_fz (jn_cat (jv 2) (j_fz (jn_lst (ja_cons (j_fz (jn_list rfl B.list (ja_cons (jv 1) ja_nil))) (ja_cons (j_revT (jv 1)) (ja_cons (j_catT (jv 1) (j_slT (jv 1) jo_none (jo_some j_int))) (ja_cons (j_slT (jv 1) jo_none (jo_some (j_neg j_int))) ja_nil)))))))))) jss_nil))
    (jss_cons (js_cut (js_if (jt (j_isW (T := "list") isLst kitLst rfl B.isinstance rfl B.list boot_list (jv 1))) (jss_one (js_set (i := 2) nd rfl (Or.inl rfl) (j_fz (jn_cat (jv 2) (j_fz (jn_lst (ja_cons (j_tupc rfl B.tuple (ja_cons (jv 1) ja_nil)) (ja_cons (j_fz (jn_cat (jv 1) (j_fz (jn_sl (jv 1) jo_none (jo_some j_int))))) (ja_cons (j_fz (jn_sl (jv 1) jo_none (jo_some (j_neg j_int)))) (ja_cons (j_fz (jn_lst ja_nil)) (ja_cons j_non ja_nil))))))))))) jss_nil))
    (jss_one (js_ret (j_atV 2 (j_hD 0 F__law_draw (hr.mono (by decide)) rfl (ja_cons (j_lenV 2 rfl B.len) ja_nil))))))))))), ?_⟩
  rintro p ds M Q hD ⟨d, rfl, fd, pd, q⟩
  have k1 := @fBs_fine
  have k2 := @Fines.up
  have z0 : 0 ≤ sizeLine := by decide
  have z1 : 1 ≤ sizeLine := by decide
  have z2 : 2 ≤ sizeLine := by decide
  have z3 : 3 ≤ sizeLine := by decide
  have z4 : 4 ≤ sizeLine := by decide
  have z9 : 9 ≤ sizeLine := by decide
  have z16 : 16 ≤ sizeLine := by decide
  have z25 : 25 ≤ sizeLine := by decide
  have z29 : 29 ≤ sizeLine := by decide
  have z31 : 31 ≤ sizeLine := by decide
  have od : dep d ≤ dep d + 2 ∧ Fine 1000 d := ⟨by omega, fd.up⟩
  have o1 : ∀ x ∈ [d], dep x ≤ dep d + 2 ∧ Fine 1000 x := fun x hx => by rw [List.mem_singleton] at hx; rw [hx]; exact od
  have o2 : ∀ x ∈ [d, d], dep x ≤ dep d + 2 ∧ Fine 1000 x := fun x hx => by simp only [List.mem_cons, List.not_mem_nil, or_false, or_self] at hx; rw [hx]; exact od
  have o3 : ∀ x ∈ [d, d, d], dep x ≤ dep d + 2 ∧ Fine 1000 x := fun x hx => by simp only [List.mem_cons, List.not_mem_nil, or_false, or_self] at hx; rw [hx]; exact od
  refine ⟨z0, z0, z2, z2, z2, z2, z2, z2, z2, z16, ?_⟩
  refine ⟨z1, z3, z2, z2, z2, z2, z1, z2, z2, z2, z2, z2, z2, z1, z9, z25, ?_⟩
  refine ⟨z1, z2, z3, z0, z0, z2, z3, z4, z29, ?_⟩
  let I : Nat → Rho → Mm → Prop := fun n ρ M' => M' = M ∧ ∃ Th : List D, 1 ≤ Th.length ∧ Th.length ≤ n ∧ (∀ t ∈ Th, OkT (dep d) t) ∧ ρ = [.rf p, .sh d, .sh (.lst Th)]
  refine ⟨I 31, ⟨z2, z1, z0, z2, z3, z2, z2, z2, z31, rfl, _, by show 1 ≤ 31; decide, by show 31 ≤ 31; decide, ?_, rfl⟩, ?_⟩
  · intro t ht
    simp only [List.cons_append, List.nil_append, List.mem_cons, List.not_mem_nil, or_false] at ht
    repeat' (rcases ht with rfl | ht)
    all_goals first
      | exact okc (by decide)
      | exact okL (by show 1 ≤ 1000; decide) o1
      | exact okTu (by show 1 ≤ 1000; decide) o1
      | exact okTu (by show 2 ≤ 1000; decide) o2
      | exact okTu (by show 3 ≤ 1000; decide) o3
      | (subst ht; exact okc (by decide))
  rintro ρ M' ⟨rfl, Th, l1, l2, oT, rfl⟩
  refine ⟨I 35, ?_, ?_⟩
  · cases d with
    | tup xs =>
      have pl : 2 ≤ xs.length := by rw [Part] at pd; exact pd.1
      obtain ⟨lx, fx⟩ := fd.tup
      have kids : ∀ x ∈ xs, dep x ≤ dep (.tup xs) + 2 ∧ Fine 1000 x := fun x hx => ⟨by rw [dep]; have := dep_at hx; omega, (fx x hx).up⟩
      have c : L3.cutD xs none (some 1) = xs.take 1 := cut_lo xs 1 (by omega)
      have lc : (xs.take 1).length = 1 := by rw [List.length_take]; omega
      have w1 : ¬ (HT.sIx xs.length 0 none = 0 ∧ HT.sIx xs.length xs.length (some 1) = xs.length) := fun h => by
        have : min (1 : Nat) xs.length = xs.length := h.2
        omega
      have w2 : ¬ (HT.sIx xs.length 0 none = 0 ∧ HT.sIx xs.length xs.length (some (-1)) = xs.length) := fun h => by
        have : ((-1 : Int) + (xs.length : Int)).toNat = xs.length := h.2
        omega
      have sb : ∀ {lo hi : Option Int}, ∀ x ∈ L3.cutD xs lo hi, dep x ≤ dep (.tup xs) + 2 ∧ Fine 1000 x := fun x hx => kids x (cut_sub hx)
      refine ⟨w1, fun z => by rw [z] at pl; simp at pl, fun z => by rw [c] at z; rw [z] at lc; simp at lc, by rw [c, lc]; exact Nat.le_of_lt (small1000 (by omega)), w2, z4, Nat.le_of_lt (small1000 (by show Th.length + 4 ≤ 1000; omega)), rfl, _, by rw [List.length_append]; omega, by rw [List.length_append]; show _ + 4 ≤ 35; omega, fun t ht => ?_, rfl⟩
      rcases List.mem_append.mp ht with ht | ht
      · exact oT t ht
      · simp only [List.mem_cons, List.not_mem_nil, or_false] at ht
        rcases ht with rfl | rfl | rfl | rfl
        · exact okL (by omega) kids
        · exact okTu (by rw [List.length_reverse]; omega) fun x hx => kids x (List.mem_reverse.mp hx)
        · refine okTu (by rw [List.length_append, c, lc]; omega) fun x hx => ?_
          rcases List.mem_append.mp hx with hx | hx
          · exact kids x hx
          · exact sb x hx
        · exact okTu (Nat.le_trans (cut_len _ _ _) (by omega)) fun x hx => sb x hx
    | _ => exact ⟨rfl, Th, l1, by omega, oT, rfl⟩
  clear l1 l2 oT
  rintro ρ M' ⟨rfl, Th, l1, l2, oT, rfl⟩
  refine ⟨I 40, ?_, ?_⟩
  · cases d with
    | lst xs =>
      obtain ⟨lx, fx⟩ := fd.lst
      have kids : ∀ x ∈ xs, dep x ≤ dep (.lst xs) + 2 ∧ Fine 1000 x := fun x hx => ⟨by rw [dep]; have := dep_at hx; omega, (fx x hx).up⟩
      have sb : ∀ {lo hi : Option Int}, ∀ x ∈ L3.cutD xs lo hi, dep x ≤ dep (.lst xs) + 2 ∧ Fine 1000 x := fun x hx => kids x (cut_sub hx)
      have lc := cut_len xs none (some 1)
      refine ⟨Nat.le_of_lt (small1000 (by show xs.length + (L3.cutD xs none (some 1)).length ≤ 1000; omega)), z0, by show 5 ≤ sizeLine; decide, Nat.le_of_lt (small1000 (by show Th.length + 5 ≤ 1000; omega)), rfl, _, by rw [List.length_append]; omega, by rw [List.length_append]; show _ + 5 ≤ 40; omega, fun t ht => ?_, rfl⟩
      rcases List.mem_append.mp ht with ht | ht
      · exact oT t ht
      · simp only [List.mem_cons, List.not_mem_nil, or_false] at ht
        rcases ht with rfl | rfl | rfl | rfl | rfl
        · exact okTu (by omega) kids
        · refine okL (by rw [List.length_append]; omega) fun x hx => ?_
          rcases List.mem_append.mp hx with hx | hx
          · exact kids x hx
          · exact sb x hx
        · exact okL (Nat.le_trans (cut_len _ _ _) (by omega)) fun x hx => sb x hx
        · exact okc (by decide)
        · exact okc (by decide)
    | _ => exact ⟨rfl, Th, l1, by omega, oT, rfl⟩
  clear l1 l2 oT
  rintro ρ M' ⟨rfl, Th, l1, l2, oT, rfl⟩
  exact ⟨hD, _, rfl, by omega, by omega, fun r r0 r1 => RIx.lst r0 r1 fun t ht => ⟨Sub.refl _, q t (oT t ht)⟩⟩

/-! ### k06: things spoilt -/
private theorem ixn_step {n k : Nat} {P : Nat → Prop} (h : k < n) (p : P k) : (match ixN n (k : Int) with | some m => P m | none => False) := by rw [ixN_ok h]; exact p
private theorem at_step {ds : List D} {k : Nat} {d : D} {P : D → Prop} (h : ds[k]? = some d) (p : P d) : (match atI ds (k : Int) with | some d => P d | none => False) := by rw [at_nat h]; exact p
noncomputable def gSp6 (n : Nat) : List D → (D → Prop) → Prop := fun ds P => ∃ d, ds = [d] ∧ dep d ≤ n ∧ Fine 500 d ∧ Part d ∧ ∀ t, dep t ≤ n + 3 → Fine 1000 t → P t
noncomputable abbrev s_law_spoilt : Stmt := top 28
private theorem sc_law_spoilt : FnScope ["deck", "thing", "k", "rows", "way"] ["deck", "thing"] (defScope s_law_spoilt) := ⟨rfl, rfl, rfl, by decide +kernel, rfl, by decide +kernel, by decide +kernel⟩
private theorem spoilt_step (B : Bl mg) (F : Def K mg "_law_spoilt" s_law_spoilt ["deck", "thing"]) (F__law_draw : hDraw P w K mg base) (F__law_odd : Has P w K mg base CX0 2 "_law_odd" ["deck", "thing"] (spD K Deck gOdd)) {k n : Nat} {g' : List D → (D → Prop) → Prop} (hk : 2 ≤ k) (hg : ∀ m, n = m + 1 → g' = gSp6 m) (F__law_spoilt : Has P w K mg base CX0 k "_law_spoilt" ["deck", "thing"] (spD K Deck g')) : Has P w K mg base CX0 (k + 1) "_law_spoilt" ["deck", "thing"] (spD K Deck (gSp6 n)) := by
  refine F.hasD sc_law_spoilt (fun ds P h => by obtain ⟨_, rfl, _⟩ := h; rfl) fun f cdv A outer s H E hr => ?_
  have nd := sc_law_spoilt.nd
  refine ⟨_, (jss_cons (js_if (JW.jt (jw_and (jt (j_isLT rfl B.isinstance rfl B.list rfl B.tuple (jv 1))) (jw_and (jt_gt (j_lenV 1 rfl B.len) j_int) (jw_and1 (jt_gt (j_hD 0 F__law_draw (hr.mono (by omega)) rfl (ja_cons j_int ja_nil)) j_int))))) (jss_cons (js_set (i := 2) nd rfl (Or.inl rfl) (j_hD 0 F__law_draw (hr.mono (by omega)) rfl (ja_cons (j_lenV 1 rfl B.len) ja_nil)))
    (jss_cons (js_setN (i := 3) nd rfl (Or.inl rfl) (jn_list rfl B.list (ja_cons (jv 1) ja_nil)))
    (jss_cons (js_set (i := 4) nd rfl (Or.inl rfl) (j_hD 0 F__law_draw (hr.mono (by omega)) rfl (ja_cons j_int ja_nil)))
    (jss_cons (js_cut (js_if (jt_eq hr (jv 4) j_int) (jss_one (js_setN (i := 3) nd rfl (Or.inl rfl) (jn_cat (j_fz (jn_sl (jv 3) jo_none (jo_some (jv 2)))) (j_fz (jn_sl (jv 3) (jo_some (j_add (jv 2) j_int)) jo_none))))) (jss_one (js_if (jt_eq hr (jv 4) j_int) (jss_one (js_setN (i := 3) nd rfl (Or.inl rfl) (jn_cat (j_fz (jn_cat (j_fz (jn_sl (jv 3) jo_none (jo_some (jv 2)))) (j_fz (jn_lst (ja_cons (j_atV 3 (jv 2)) ja_nil))))) (j_fz (jn_sl (jv 3) (jo_some (jv 2)) jo_none))))) (jss_one (js_setIxW 3 (j_hD 0 F__law_spoilt (hr.mono (by omega)) rfl (ja_cons (j_atV 3 (jv 2)) ja_nil)) (jv 2)))))))
    (jss_one (js_ret (j_at (j_fz (jn_lst (ja_cons (jv 3) (ja_cons (j_tupc rfl B.tuple (ja_cons (jv 3) ja_nil)) ja_nil)))) (j_intc rfl B.int (ja_cons (j_isW (T := "tuple") isTup kitTup rfl B.isinstance rfl B.tuple boot_tuple (jv 1)) ja_nil))))))))) jss_nil)
    (jss_one (js_ret (j_hD 0 F__law_odd (hr.mono (by omega)) rfl (ja_cons (jv 1) ja_nil))))), ?_⟩
  rintro p ds M Q hD ⟨d, rfl, dn, fd, pd, q⟩
  have odd : Deck M p ∧ gOdd [d] fun t => Sub M M ∧ Q t := ⟨hD, d, rfl, fd, pd, fun t ht => ⟨Sub.refl _, q t (by have := ht.1; omega) ht.2⟩⟩
  cases d with
  | lst xs =>
    obtain ⟨lx, fx⟩ := fd.lst
    rw [dep] at dn
    obtain ⟨m, rfl⟩ : ∃ m, n = m + 1 := ⟨n - 1, by omega⟩
    cases hg m rfl
    have px : Parts xs := by rw [Part] at pd; exact pd
    have kids : ∀ x ∈ xs, dep x ≤ m ∧ Fine 500 x ∧ Part x := fun x hx => ⟨by have := dep_at hx; omega, fx x hx, parts_mem px x hx⟩
    show if decide (0 < ((xs.length : Nat) : Int)) = true then _ else _
    refine iteB (fun c => ?_) (fun _ => odd)
    have c : 0 < ((xs.length : Nat) : Int) := by simpa using c
    refine ⟨hD, 4, rfl, by decide, by decide, fun r r0 r1 => ?_⟩
    show if decide (0 < r) = true then _ else _
    refine iteB (fun _ => ?_) (fun _ => odd)
    refine ⟨hD, _, rfl, c, by omega, fun kk k0 k1 => ?_⟩
    obtain ⟨j, rfl⟩ := Int.eq_ofNat_of_zero_le k0
    have jl : j < xs.length := by omega
    have gj : xs[j]? = some xs[j] := List.getElem?_eq_getElem jl
    refine ⟨hD, 8, rfl, by decide, by decide, fun w w0 w1 => ?_⟩
    refine ⟨fun ρ M' => M' = M ∧ ∃ R : List D, R.length ≤ 600 ∧ (∀ t ∈ R, dep t ≤ m + 3 ∧ Fine 1000 t) ∧ ρ = [.rf p, .sh (.lst xs), .sh (.int (j : Nat)), .ow R, .sh (.int w)], ?_, ?_⟩
    · have c1 := cut_lo xs j (by omega)
      have c2 : L3.cutD xs (some ((j : Nat) + 1 : Int)) none = xs.drop (j + 1) := cut_hi xs (j + 1) (by omega)
      have c3 := cut_hi xs j (by omega)
      have t1 : (xs.take j).length = j := by rw [List.length_take]; omega
      have t2 : (xs.drop (j + 1)).length = xs.length - (j + 1) := List.length_drop
      have t3 : (xs.drop j).length = xs.length - j := List.length_drop
      have okx : ∀ x ∈ xs, dep x ≤ m + 3 ∧ Fine 1000 x := fun x hx => ⟨by have := (kids x hx).1; omega, (kids x hx).2.1.up⟩
      refine ⟨by show 0 ≤ 60; decide, ?_⟩
      show if (w == 0) = true then _ else _
      refine iteB (fun _ => ?_) (fun _ => ?_)
      · show (L3.cutD xs none (some (j : Int))).length + (L3.cutD xs (some ((j : Nat) + 1 : Int)) none).length ≤ sizeLine ∧ _
        rw [c1, c2]
        refine ⟨by rw [t1, t2]; exact Nat.le_of_lt (small1000 (by omega)), rfl, _, by rw [List.length_append, t1, t2]; omega, fun t ht => ?_, rfl⟩
        rcases List.mem_append.mp ht with h | h
        · exact okx t (List.mem_of_mem_take h)
        · exact okx t (List.mem_of_mem_drop h)
      refine ⟨by show 0 ≤ 60; decide, ?_⟩
      show if (w == 1) = true then _ else _
      refine iteB (fun _ => ?_) (fun _ => ?_)
      · refine RIx.get gj ⟨by show 1 ≤ sizeLine; decide, ?_⟩
        show (L3.cutD xs none (some (j : Int))).length + [xs[j]].length ≤ sizeLine ∧ ((L3.cutD xs none (some (j : Int)) ++ [xs[j]]).length + (L3.cutD xs (some (j : Int)) none).length ≤ sizeLine ∧ _)
        rw [c1, c3]
        refine ⟨by rw [t1]; exact Nat.le_of_lt (small1000 (by show j + 1 ≤ 1000; omega)), by rw [List.length_append, t1, t3]; exact Nat.le_of_lt (small1000 (by show j + 1 + _ ≤ 1000; omega)), rfl, _, by rw [List.length_append, List.length_append, t1, t3]; show j + 1 + _ ≤ 600; omega, fun t ht => ?_, rfl⟩
        rcases List.mem_append.mp ht with h | h
        · rcases List.mem_append.mp h with h | h
          · exact okx t (List.mem_of_mem_take h)
          · rw [List.mem_singleton] at h; rw [h]; exact okx _ (List.getElem_mem jl)
        · exact okx t (List.mem_of_mem_drop h)
      · obtain ⟨d1, d2, d3⟩ := kids _ (List.getElem_mem jl)
        refine ⟨trivial, at_step gj ?_⟩
        refine ⟨hD, xs[j], rfl, d1, d2, d3, fun t dt ft => ⟨trivial, ?_⟩⟩
        refine ixn_step jl ?_
        refine ⟨rfl, _, by rw [List.length_set]; omega, fun y hy => ?_, rfl⟩
        rcases List.mem_or_eq_of_mem_set hy with h | rfl
        · exact okx y h
        · exact ⟨dt, ft⟩
    rintro ρ M' ⟨rfl, R, lR, oR, rfl⟩
    have dR := deps_of fun t ht => (oR t ht).1
    exact ⟨by show 2 ≤ sizeLine; decide, Sub.refl _, q _ (by rw [dep]; omega) (.mkL (by omega) fun x hx => (oR x hx).2)⟩
  | tup xs =>
    obtain ⟨lx, fx⟩ := fd.tup
    rw [dep] at dn
    obtain ⟨m, rfl⟩ : ∃ m, n = m + 1 := ⟨n - 1, by omega⟩
    cases hg m rfl
    have px : Parts xs := by rw [Part] at pd; exact pd.2
    have kids : ∀ x ∈ xs, dep x ≤ m ∧ Fine 500 x ∧ Part x := fun x hx => ⟨by have := dep_at hx; omega, fx x hx, parts_mem px x hx⟩
    show if decide (0 < ((xs.length : Nat) : Int)) = true then _ else _
    refine iteB (fun c => ?_) (fun _ => odd)
    have c : 0 < ((xs.length : Nat) : Int) := by simpa using c
    refine ⟨hD, 4, rfl, by decide, by decide, fun r r0 r1 => ?_⟩
    show if decide (0 < r) = true then _ else _
    refine iteB (fun _ => ?_) (fun _ => odd)
    refine ⟨hD, _, rfl, c, by omega, fun kk k0 k1 => ?_⟩
    obtain ⟨j, rfl⟩ := Int.eq_ofNat_of_zero_le k0
    have jl : j < xs.length := by omega
    have gj : xs[j]? = some xs[j] := List.getElem?_eq_getElem jl
    refine ⟨hD, 8, rfl, by decide, by decide, fun w w0 w1 => ?_⟩
    refine ⟨fun ρ M' => M' = M ∧ ∃ R : List D, R.length ≤ 600 ∧ (∀ t ∈ R, dep t ≤ m + 3 ∧ Fine 1000 t) ∧ ρ = [.rf p, .sh (.tup xs), .sh (.int (j : Nat)), .ow R, .sh (.int w)], ?_, ?_⟩
    · have c1 := cut_lo xs j (by omega)
      have c2 : L3.cutD xs (some ((j : Nat) + 1 : Int)) none = xs.drop (j + 1) := cut_hi xs (j + 1) (by omega)
      have c3 := cut_hi xs j (by omega)
      have t1 : (xs.take j).length = j := by rw [List.length_take]; omega
      have t2 : (xs.drop (j + 1)).length = xs.length - (j + 1) := List.length_drop
      have t3 : (xs.drop j).length = xs.length - j := List.length_drop
      have okx : ∀ x ∈ xs, dep x ≤ m + 3 ∧ Fine 1000 x := fun x hx => ⟨by have := (kids x hx).1; omega, (kids x hx).2.1.up⟩
      refine ⟨by show 0 ≤ 60; decide, ?_⟩
      show if (w == 0) = true then _ else _
      refine iteB (fun _ => ?_) (fun _ => ?_)
      · show (L3.cutD xs none (some (j : Int))).length + (L3.cutD xs (some ((j : Nat) + 1 : Int)) none).length ≤ sizeLine ∧ _
        rw [c1, c2]
        refine ⟨by rw [t1, t2]; exact Nat.le_of_lt (small1000 (by omega)), rfl, _, by rw [List.length_append, t1, t2]; omega, fun t ht => ?_, rfl⟩
        rcases List.mem_append.mp ht with h | h
        · exact okx t (List.mem_of_mem_take h)
        · exact okx t (List.mem_of_mem_drop h)
      refine ⟨by show 0 ≤ 60; decide, ?_⟩
      show if (w == 1) = true then _ else _
      refine iteB (fun _ => ?_) (fun _ => ?_)
      · refine RIx.get gj ⟨by show 1 ≤ sizeLine; decide, ?_⟩
        show (L3.cutD xs none (some (j : Int))).length + [xs[j]].length ≤ sizeLine ∧ ((L3.cutD xs none (some (j : Int)) ++ [xs[j]]).length + (L3.cutD xs (some (j : Int)) none).length ≤ sizeLine ∧ _)
        rw [c1, c3]
        refine ⟨by rw [t1]; exact Nat.le_of_lt (small1000 (by show j + 1 ≤ 1000; omega)), by rw [List.length_append, t1, t3]; exact Nat.le_of_lt (small1000 (by show j + 1 + _ ≤ 1000; omega)), rfl, _, by rw [List.length_append, List.length_append, t1, t3]; show j + 1 + _ ≤ 600; omega, fun t ht => ?_, rfl⟩
        rcases List.mem_append.mp ht with h | h
        · rcases List.mem_append.mp h with h | h
          · exact okx t (List.mem_of_mem_take h)
          · rw [List.mem_singleton] at h; rw [h]; exact okx _ (List.getElem_mem jl)
        · exact okx t (List.mem_of_mem_drop h)
      · obtain ⟨d1, d2, d3⟩ := kids _ (List.getElem_mem jl)
        refine ⟨trivial, at_step gj ?_⟩
        refine ⟨hD, xs[j], rfl, d1, d2, d3, fun t dt ft => ⟨trivial, ?_⟩⟩
        refine ixn_step jl ?_
        refine ⟨rfl, _, by rw [List.length_set]; omega, fun y hy => ?_, rfl⟩
        rcases List.mem_or_eq_of_mem_set hy with h | rfl
        · exact okx y h
        · exact ⟨dt, ft⟩
    rintro ρ M' ⟨rfl, R, lR, oR, rfl⟩
    have dR := deps_of fun t ht => (oR t ht).1
    exact ⟨by show 2 ≤ sizeLine; decide, Sub.refl _, q _ (by rw [dep]; omega) (.mkT (by omega) fun x hx => (oR x hx).2)⟩
  | _ => exact odd
private theorem spoilt_none (F : Def K mg "_law_spoilt" s_law_spoilt ["deck", "thing"]) : Has P w K mg base CX0 2 "_law_spoilt" ["deck", "thing"] (spD K Deck fun _ _ => False) := F.has (k := 1) sc_law_spoilt (fun _ _ _ _ h => by obtain ⟨_, _, _, _, _, _, _, _, _, _, _, h, _⟩ := h; exact h.elim) (fun _ _ _ _ _ _ _ _ _ _ h => by obtain ⟨_, _, _, _, _, _, _, _, _, _, _, h, _⟩ := h; exact h.elim)
private theorem spoilt_all (B : Bl mg) (F : Def K mg "_law_spoilt" s_law_spoilt ["deck", "thing"]) (F__law_draw : hDraw P w K mg base) (F__law_odd : Has P w K mg base CX0 2 "_law_odd" ["deck", "thing"] (spD K Deck gOdd)) : ∀ n, Has P w K mg base CX0 (n + 3) "_law_spoilt" ["deck", "thing"] (spD K Deck (gSp6 n))
  | 0 => spoilt_step B F F__law_draw F__law_odd (g' := fun _ _ => False) (by decide) (fun m e => by omega) (spoilt_none F)
  | n + 1 => spoilt_step B F F__law_draw F__law_odd (g' := gSp6 n) (by omega) (fun m e => by cases e; rfl) (spoilt_all B F F__law_draw F__law_odd n)
private theorem h__law_spoilt (B : Bl mg) (F : Def K mg "_law_spoilt" s_law_spoilt ["deck", "thing"]) (F__law_draw : hDraw P w K mg base) (F__law_odd : Has P w K mg base CX0 2 "_law_odd" ["deck", "thing"] (spD K Deck gOdd)) : Has P w K mg base CX0 9 "_law_spoilt" ["deck", "thing"] (spD K Deck (gSp6 6)) := spoilt_all B F F__law_draw F__law_odd 6

/-! ### k06: the law -/
private theorem gcd_fr (q : Rat) : Int.gcd q.num (q.den : Int) = 1 := by
  have := q.reduced
  unfold Nat.Coprime at this
  show Nat.gcd q.num.natAbs (q.den : Int).natAbs = 1
  rw [Int.natAbs_natCast]; exact this
private theorem frB_fr (q : Rat) : frB (frD q) = true := by
  show (decide (1 ≤ (q.den : Int)) && ((Int.gcd q.num (q.den : Int) : Int) == 1)) = true
  have := q.den_pos
  rw [gcd_fr, decide_eq_true (by omega)]; rfl
private theorem leB_fr {q r : Rat} (h : q ≤ r) : leB (frD q) (frD r) = true := by
  show (!decide (r.num * (q.den : Int) < q.num * (r.den : Int))) = true
  have := r_lt r q
  rw [this, decide_eq_false (Rat.not_lt.mpr h)]; rfl
private theorem bdB_b {x : Rat × Rat} (h : x.1 ≤ x.2) : bdB (bQ x) = true := by
  show (frB (frD x.1) && frB (frD x.2) && leB (frD x.1) (frD x.2)) = true
  rw [frB_fr, frB_fr, leB_fr h]; rfl
private theorem flB_fr {n : Nat} {l : List Rat} (h : l.length = n) : flB n (frL l) = true := by
  show (((l.map frD).length == n) && (l.map frD).all frB) = true
  rw [List.length_map, h, beq_self_eq_true, Bool.true_and, List.all_eq_true]
  intro t ht
  obtain ⟨q, _, rfl⟩ := List.mem_map.mp ht
  exact frB_fr q
private theorem plB_plan {S T : List (Rat × Rat)} {Z : List ZR} (h : Pl6 S T Z) : plB (planQ S T Z) = true := by
  show ((S.map bQ).all bdB && (T.map bQ).all bdB && !(S.map bQ).isEmpty && (Z.map zQ).all (deB (S.map bQ).length (T.map bQ).length)) = true
  have a1 : (S.map bQ).all bdB = true := by
    rw [List.all_eq_true]
    intro t ht
    obtain ⟨x, hx, rfl⟩ := List.mem_map.mp ht
    exact bdB_b (h.bs x hx).2.2
  have a2 : (T.map bQ).all bdB = true := by
    rw [List.all_eq_true]
    intro t ht
    obtain ⟨x, hx, rfl⟩ := List.mem_map.mp ht
    exact bdB_b (h.bt x hx).2.2
  have a3 : (S.map bQ).isEmpty = false := by
    have := h.s1
    cases S with
    | nil => cases this
    | cons _ _ => rfl
  have a4 : (Z.map zQ).all (deB (S.map bQ).length (T.map bQ).length) = true := by
    rw [List.all_eq_true]
    intro t ht
    obtain ⟨z, hz, rfl⟩ := List.mem_map.mp ht
    obtain ⟨z1, z2, _⟩ := h.zs z hz
    show (flB (S.map bQ).length (frL z.1) && flB (T.map bQ).length (frL z.2.1) && frB (frD z.2.2)) = true
    rw [List.length_map, List.length_map, flB_fr z1, flB_fr z2, frB_fr]; rfl
  rw [a1, a2, a3, a4]; rfl
private theorem fine_fr {L : Nat} {q : Rat} (l : 2 ≤ L) (h : SmR 400 q) : Fine L (frD q) := .mkT l fun d hd => by
  simp only [List.mem_cons, List.not_mem_nil, or_false] at hd
  rcases hd with rfl | rfl
  · rw [Fine]; exact h.1.mono (by decide)
  · rw [Fine]; exact h.2.mono (by decide)
private theorem fine_b {x : Rat × Rat} (h : okB x) : Fine 500 (bQ x) := .mkT (by show 2 ≤ 500; decide) fun d hd => by
  simp only [List.mem_cons, List.not_mem_nil, or_false] at hd
  rcases hd with rfl | rfl
  · exact fine_fr (by decide) h.1
  · exact fine_fr (by decide) h.2.1
private theorem fine_frL {l : List Rat} (k : l.length ≤ 500) (h : ∀ q ∈ l, SmR 400 q) : Fine 500 (frL l) := .mkL (by rw [List.length_map]; exact k) fun d hd => by
  obtain ⟨q, hq, rfl⟩ := List.mem_map.mp hd
  exact fine_fr (by decide) (h q hq)
private theorem fine_plan {S T : List (Rat × Rat)} {Z : List ZR} (h : Pl6 S T Z) : Fine 500 (planQ S T Z) := by
  have h1 := h.s
  have h2 := h.t
  have h3 := h.z
  refine .mkT (by show 3 ≤ 500; decide) fun d hd => ?_
  simp only [List.mem_cons, List.not_mem_nil, or_false] at hd
  rcases hd with rfl | rfl | rfl
  · refine .mkL (by rw [List.length_map]; omega) fun d hd => ?_
    obtain ⟨x, hx, rfl⟩ := List.mem_map.mp hd
    exact fine_b (h.bs x hx)
  · refine .mkL (by rw [List.length_map]; omega) fun d hd => ?_
    obtain ⟨x, hx, rfl⟩ := List.mem_map.mp hd
    exact fine_b (h.bt x hx)
  · refine .mkL (by rw [List.length_map]; omega) fun d hd => ?_
    obtain ⟨z, hz, rfl⟩ := List.mem_map.mp hd
    obtain ⟨z1, z2, z3, z4, z5⟩ := h.zs z hz
    refine .mkT (by show 3 ≤ 500; decide) fun d hd => ?_
    simp only [List.mem_cons, List.not_mem_nil, or_false] at hd
    rcases hd with rfl | rfl | rfl
    · exact fine_frL (by omega) z3
    · exact fine_frL (by omega) z4
    · exact fine_fr (by decide) z5
private theorem parts_map {α : Type} {f : α → D} (h : ∀ x, Part (f x)) : ∀ l : List α, Parts (l.map f)
  | [] => by rw [List.map_nil, Parts]; trivial
  | x :: l => by rw [List.map_cons, Parts]; exact ⟨h x, parts_map h l⟩
private theorem part_fr (q : Rat) : Part (frD q) := by unfold frD; rw [Part, Parts, Parts, Parts, Part, Part]; exact ⟨by show 2 ≤ 2; decide, trivial, trivial, trivial⟩
private theorem part_frL (l : List Rat) : Part (frL l) := by unfold frL; rw [Part]; exact parts_map part_fr l
private theorem part_b (x : Rat × Rat) : Part (bQ x) := by unfold bQ; rw [Part, Parts, Parts, Parts]; exact ⟨by show 2 ≤ 2; decide, part_fr _, part_fr _, trivial⟩
private theorem part_z (z : ZR) : Part (zQ z) := by unfold zQ; rw [Part, Parts, Parts, Parts, Parts]; exact ⟨by show 2 ≤ 3; decide, part_frL _, part_frL _, part_fr _, trivial⟩
private theorem part_plan (S T : List (Rat × Rat)) (Z : List ZR) : Part (planQ S T Z) := by
  unfold planQ
  rw [Part, Parts, Parts, Parts, Parts, Part, Part, Part]
  exact ⟨by show 2 ≤ 3; decide, parts_map part_b S, parts_map part_b T, parts_map part_z Z, trivial⟩
private theorem deps_map6 {α : Type} {f : α → D} {n : Nat} (h : ∀ x, dep (f x) ≤ n) (l : List α) : deps (l.map f) ≤ n := deps_of fun t ht => by
  obtain ⟨x, _, rfl⟩ := List.mem_map.mp ht
  exact h x
private theorem dep_plan6 (S T : List (Rat × Rat)) (Z : List ZR) : dep (planQ S T Z) ≤ 6 := by
  have q1 : ∀ q : Rat, dep (frD q) ≤ 1 := fun q => by simp [frD, dep, deps]
  have h1 := deps_map6 (f := bQ) (n := 2) (fun x => by simp [bQ, frD, dep, deps]) S
  have h2 := deps_map6 (f := bQ) (n := 2) (fun x => by simp [bQ, frD, dep, deps]) T
  have h3 := deps_map6 (f := zQ) (n := 3) (fun z => by
    have a := deps_map6 q1 z.1
    have b := deps_map6 q1 z.2.1
    simp only [zQ, frL, frD, dep, deps]; omega) Z
  simp only [planQ, dep, deps]; omega
noncomputable def spLaw (K : PySem.W.Frag) : Sp := fun vs H Q _ => ∃ (a : Addr) (ns : List Int), vs = [.ref a] ∧ SqL K H a (ns.map V.int) ∧ ns.length ≤ 63 ∧ ∀ H', Q (.bl true) H'
noncomputable abbrev s_law : Stmt := top 29
private theorem sc_law : FnScope ["script", "deck", "k", "plan", "turn", "thing", "handed", "found"] ["script"] (defScope s_law) := ⟨rfl, rfl, rfl, by decide +kernel, rfl, by decide +kernel, by decide +kernel⟩
private theorem fn_law {e : Addr} {ed : FuncData} (B : Bl mg) (F : Fun K "law" "law" s_law e ed) (F__law_deck : Has P w K mg base CX0 1 "_law_deck" ["script"] (spDeck K)) (F__law_plan : Has P w K mg base CX0 6 "_law_plan" ["deck", "far"] (spD K Deck gPlan6)) (F_is_plan : Has P w K mg base CX0 5 "is_plan" ["thing"] (spW K (pur gPlB))) (F__law_spoilt : Has P w K mg base CX0 9 "_law_spoilt" ["deck", "thing"] (spD K Deck (gSp6 6))) (F__law_copy : Has P w K mg base CX0 12 "_law_copy" ["thing"] (spW K (pur (gCp 10)))) (F__law_is_plan : Has P w K mg base CX0 5 "_law_is_plan" ["thing"] (spW K (pur gIpL))) : FnOk P w K mg base CX0 13 e ed ["script"] (spLaw K) := by
  refine F.ok sc_law (fun vs H Q E h => by obtain ⟨a, ns, rfl, _⟩ := h; rfl) (fun cdv A outer s H vs Q E hr h => ?_)
  obtain ⟨a, ns, rfl, hS, h63, q⟩ := h
  have nd := sc_law.nd
  refine ⟨_, (pss_cons (ps_set (i := 1) nd rfl (Or.inl rfl) (pe_h F__law_deck (hr.mono (by decide)) rfl pass0 (pa_cons (pv 0) pa_nil)))
    (JSs.h (jss_cons (js_for PassesOwn.never rfl (ji_rng1 rfl B.range (ja_cons j_int ja_nil)) (jg_name (i := 2) nd rfl (Or.inl rfl))
    (jss_cons (js_set (i := 3) nd rfl (Or.inl rfl) (j_hD 1 F__law_plan (hr.mono (by decide)) rfl (ja_cons j_bl ja_nil)))
    (jss_cons (js_if (jt_isnotB (j_h F_is_plan (hr.mono (by decide)) rfl (ja_cons (jv 3) ja_nil)) j_bl) (jss_one (js_ret j_bl)) jss_nil)
    (jss_one (js_for PassesOwn.never rfl (ji_rng1 rfl B.range (ja_cons j_int ja_nil)) (jg_name (i := 4) nd rfl (Or.inl rfl))
    (jss_cons (js_set (i := 5) nd rfl (Or.inl rfl) (j_hD 1 F__law_spoilt (hr.mono (by decide)) rfl (ja_cons (j_h F__law_copy (hr.mono (by decide)) rfl (ja_cons (jv 3) ja_nil)) ja_nil)))
    (jss_cons (js_set (i := 6) nd rfl (Or.inl rfl) (j_h F__law_copy (hr.mono (by decide)) rfl (ja_cons (jv 5) ja_nil)))
    (jss_cons (js_set (i := 7) nd rfl (Or.inl rfl) (j_h F_is_plan (hr.mono (by decide)) rfl (ja_cons (jv 6) ja_nil)))
    (jss_one (js_if (JW.jt (jw_or (jt_not (jt (j_isW (T := "bool") isBl kitBl rfl B.isinstance rfl B.bool boot_bool (jv 7)))) (jw_or (jt_ne hr (jv 7) (j_h F__law_is_plan (hr.mono (by decide)) rfl (ja_cons (jv 5) ja_nil))) (jw_or1 (jt_ne hr (jv 6) (jv 5)))))) (jss_one (js_ret j_bl)) jss_nil))))))))))
    (jss_one (js_ret j_bl))))), ?_⟩
  refine ⟨_, rfl, a, ns, rfl, hS, h63, fun d c H1 same1 hDk => ?_⟩
  have st := deck_start (K := K) (ρ := [.un, .rf d, .un, .un, .un, .un, .un, .un]) (σ := [some (.ref a), some (.ref d), none, none, none, none, none, none]) hDk rfl (by
    intro j e h
    rcases j with _ | _ | _ | _ | _ | _ | _ | _ | j
    · exact .inl (Option.some.inj h).symm
    · exact .inr ⟨(Option.some.inj h).symm, rfl⟩
    all_goals first | exact .inl (Option.some.inj h).symm | (simp at h))
  obtain ⟨ag, hD⟩ := st
  refine ⟨fun _ => none, fun _ => none, [.un, .rf d, .un, .un, .un, .un, .un, .un], deckM d c, ⟨fun _ _ => False, rtD fun x _ => x = .bl true, fun _ _ => False, fun _ _ => False⟩, ag, ?_, ⟨fun _ _ _ _ _ _ _ z => z.elim, fun _ _ _ _ _ _ _ z => z.elim, fun _ _ _ _ _ _ _ z => z.elim, fun v H' F' u M' _ _ r e => by
    obtain ⟨d, r, e⟩ := rtD_of (M := M') (q := fun x _ => x = .bl true) e r
    subst e; rw [Rp] at r; subst r; exact q H'⟩⟩
  clear ag
  refine ⟨⟨by decide, by decide⟩, fun i ρ M' => M' = deckM d c ∧ ∃ o2 o3 o4 o5 o6 o7, ρ = [.un, .rf d, o2, o3, o4, o5, o6, o7], ⟨rfl, _, _, _, _, _, _, rfl⟩, ?_, ?_⟩
  · rintro i kk ρ M' hd ⟨rfl, o2, o3, o4, o5, o6, o7, rfl⟩
    refine ⟨hD, rfl, fun S T Z ok => ?_⟩
    have fp := fine_plan ok
    have dp := dep_plan6 S T Z
    refine ⟨planQ S T Z, rfl, fp.up, ?_⟩
    rw [plB_plan ok]
    refine ⟨⟨by decide, by decide⟩, fun j ρ M' => M' = deckM d c ∧ ∃ o2 o4 o5 o6 o7, ρ = [.un, .rf d, o2, .sh (planQ S T Z), o4, o5, o6, o7], ⟨rfl, _, _, _, _, _, rfl⟩, ?_, ?_⟩
    · rintro j jj ρ M' hd ⟨rfl, o2, o4, o5, o6, o7, rfl⟩
      refine ⟨planQ S T Z, rfl, by omega, fp.up, hD, planQ S T Z, rfl, dp, fp, part_plan S T Z, fun t dt ft => ?_⟩
      refine ⟨t, rfl, by omega, ft, t, rfl, ft, t, rfl, by omega, ft, by show 0 ≤ 60; decide, ?_⟩
      show if (!peq (.bl (plB t)) (.bl (plB t))) = true then _ else _
      rw [peq_refl]
      refine ⟨by omega, ?_⟩
      show if (!peq t t) = true then _ else _
      rw [peq_refl]
      exact ⟨rfl, _, _, _, _, _, rfl⟩
    · rintro ρ M' ⟨rfl, o2, o4, o5, o6, o7, rfl⟩
      exact ⟨rfl, _, _, _, _, _, _, rfl⟩
  · rintro ρ M' ⟨rfl, o2, o3, o4, o5, o6, o7, rfl⟩
    rfl




end
structure At (K : PySem.W.Frag) (x : Str) (st : Stmt) : Prop where
  ex : ∃ (f : Addr) (od an : Option Addr) (sl : Array (Option Value)) (oc kV dc pm cd ct : Value), PySem.W.nsIn K mainGlobals x = some (some (.ref f)) ∧ K.lookup f = some ⟨oc, od, .func (PySem.W.fnOf x x (defArgs st) (defBody st) (defScope st) .none kV dc pm an cd ct), sl⟩ ∧ PySem.W.codeIn K cd x = true ∧ PySem.W.keepIn K (.ref f) = true
private theorem At.of {K : PySem.W.Frag} {x : Str} {st : Stmt} {f : Addr} {od an : Option Addr} {sl : Array (Option Value)} {oc kV dc pm cd ct : Value} (a : PySem.W.nsIn K mainGlobals x = some (some (.ref f))) (l : K.lookup f = some ⟨oc, od, .func (PySem.W.fnOf x x (defArgs st) (defBody st) (defScope st) .none kV dc pm an cd ct), sl⟩) (c : PySem.W.codeIn K cd x = true) (k : PySem.W.keepIn K (.ref f) = true) : At K x st := ⟨f, od, an, sl, oc, kV, dc, pm, cd, ct, a, l, c, k⟩
private theorem At.dfn {K : PySem.W.Frag} {h : Heap} {mg : Str → Option Value} {x : Str} {st : Stmt} {ps : List Str} (X : K.In h) (G : h.Ns mainGlobals mg) (A : At K x st) (hb : ∀ (kV doc pm : Value) (an : Option Addr) (cdv ct : Value) (us : List Value), us.length = ps.length → PySem.bindArgs (PySem.W.fnOf x x (defArgs st) (defBody st) (defScope st) .none kV doc pm an cdv ct) { pos := us } = pure (ps.zip us)) : Def K mg x st ps := by
  obtain ⟨f, od, an, sl, oc, kV, dc, pm, cd, ct, a, l, c, k⟩ := A.ex
  exact ⟨_, _, fun_mk l c k, (fun_mk l c k).binds hb, PySem.W.mg_of X G a⟩
private theorem all_mk {l : PySem.W.OpenLaw} {w : World} {K : PySem.W.Frag} {h : Heap} {mg : Str → Option Value} {fa : Addr} (X : K.In h) (G : h.Ns mainGlobals mg) (hfa : mg "law" = some (.ref fa))
    (A0 : At K "is_whole" s_is_whole) (A1 : At K "is_tuple_of" s_is_tuple_of) (A2 : At K "is_fraction" s_is_fraction) (A3 : At K "common_divisor" s_common_divisor) (A4 : At K "below" s_below) (A5 : At K "is_bounds" s_is_bounds) (A6 : At K "is_bounds_list" s_is_bounds_list) (A7 : At K "is_fraction_list" s_is_fraction_list) (A8 : At K "is_demand" s_is_demand) (A9 : At K "is_plan" s_is_plan) (A10 : At K "_law_deck" s_law_deck) (A11 : At K "_law_draw" s_law_draw) (A12 : At K "_law_divisor" s_law_divisor) (A13 : At K "_law_low" s_law_low) (A14 : At K "_law_far" s_law_far) (A15 : At K "_law_small" s_law_small) (A16 : At K "_law_any" s_law_any) (A17 : At K "_law_bounds" s_law_bounds) (A18 : At K "_law_plan" s_law_plan) (A19 : At K "_law_is_fraction" s_law_is_fraction) (A20 : At K "_law_are" s_law_are) (A21 : At K "_law_are_bounds" s_law_are_bounds) (A22 : At K "_law_is_plan" s_law_is_plan) (A23 : At K "_law_copy" s_law_copy) (A24 : At K "_law_odd" s_law_odd) (A25 : At K "_law_spoilt" s_law_spoilt)
    {f26 : Addr} {od26 an26 : Option Addr} {sl26 : Array (Option Value)} {oc26 kV26 dc26 pm26 cd26 ct26 : Value} (a26 : PySem.W.nsIn K mainGlobals "law" = some (some (.ref f26))) (l26 : K.lookup f26 = some ⟨oc26, od26, .func (PySem.W.fnOf "law" "law" (defArgs s_law) (defBody s_law) (defScope s_law) .none kV26 dc26 pm26 an26 cd26 ct26), sl26⟩) (c26 : PySem.W.codeIn K cd26 "law" = true) (k26 : PySem.W.keepIn K (.ref f26) = true)
    (z_len : PySem.W.nsIn K mainGlobals "len" = some none)
    (z_abs : PySem.W.nsIn K mainGlobals "abs" = some none)
    (z_isinstance : PySem.W.nsIn K mainGlobals "isinstance" = some none)
    (z_tuple : PySem.W.nsIn K mainGlobals "tuple" = some none)
    (z_list : PySem.W.nsIn K mainGlobals "list" = some none)
    (z_int : PySem.W.nsIn K mainGlobals "int" = some none)
    (z_bool : PySem.W.nsIn K mainGlobals "bool" = some none)
    (z_str : PySem.W.nsIn K mainGlobals "str" = some none)
    (z_range : PySem.W.nsIn K mainGlobals "range" = some none)
    (z_zip : PySem.W.nsIn K mainGlobals "zip" = some none)
    (z_all : PySem.W.nsIn K mainGlobals "all" = some none)
    (z_any : PySem.W.nsIn K mainGlobals "any" = some none)
    (z_ValueError : PySem.W.nsIn K mainGlobals "ValueError" = some none)
    : ∃ fd : FuncData, (∀ (s : Shared) (v : Value), BindsTo s fd ⟨[v], []⟩ [("script", v)]) ∧ ∀ base : Heap, K.In base → base.Ns mainGlobals mg → FnOk l.prog w K mg base CX0 13 fa fd ["script"] (spLaw K) := by
  have e := hfa.symm.trans (PySem.W.mg_of X G a26)
  cases e
  have B : Bl mg := ⟨PySem.W.mg_none_of X G z_len, PySem.W.mg_none_of X G z_abs, PySem.W.mg_none_of X G z_isinstance, PySem.W.mg_none_of X G z_tuple, PySem.W.mg_none_of X G z_list, PySem.W.mg_none_of X G z_int, PySem.W.mg_none_of X G z_bool, PySem.W.mg_none_of X G z_str, PySem.W.mg_none_of X G z_range, PySem.W.mg_none_of X G z_zip, PySem.W.mg_none_of X G z_all, PySem.W.mg_none_of X G z_any, PySem.W.mg_none_of X G z_ValueError⟩
  have d_is_whole : Def K mg "is_whole" s_is_whole ["thing"] := A0.dfn X G fun _ _ _ _ _ _ us hl => by obtain ⟨_, rfl⟩ := len1 hl; rfl
  have d_is_tuple_of : Def K mg "is_tuple_of" s_is_tuple_of ["thing", "length"] := A1.dfn X G fun _ _ _ _ _ _ us hl => by obtain ⟨_, _, rfl⟩ := len2 hl; rfl
  have d_is_fraction : Def K mg "is_fraction" s_is_fraction ["thing"] := A2.dfn X G fun _ _ _ _ _ _ us hl => by obtain ⟨_, rfl⟩ := len1 hl; rfl
  have d_common_divisor : Def K mg "common_divisor" s_common_divisor ["one", "other"] := A3.dfn X G fun _ _ _ _ _ _ us hl => by obtain ⟨_, _, rfl⟩ := len2 hl; rfl
  have d_below : Def K mg "below" s_below ["q", "r"] := A4.dfn X G fun _ _ _ _ _ _ us hl => by obtain ⟨_, _, rfl⟩ := len2 hl; rfl
  have d_is_bounds : Def K mg "is_bounds" s_is_bounds ["thing"] := A5.dfn X G fun _ _ _ _ _ _ us hl => by obtain ⟨_, rfl⟩ := len1 hl; rfl
  have d_is_bounds_list : Def K mg "is_bounds_list" s_is_bounds_list ["thing"] := A6.dfn X G fun _ _ _ _ _ _ us hl => by obtain ⟨_, rfl⟩ := len1 hl; rfl
  have d_is_fraction_list : Def K mg "is_fraction_list" s_is_fraction_list ["thing", "length"] := A7.dfn X G fun _ _ _ _ _ _ us hl => by obtain ⟨_, _, rfl⟩ := len2 hl; rfl
  have d_is_demand : Def K mg "is_demand" s_is_demand ["thing", "size_count", "shim_count"] := A8.dfn X G fun _ _ _ _ _ _ us hl => by obtain ⟨_, _, _, rfl⟩ := len3 hl; rfl
  have d_is_plan : Def K mg "is_plan" s_is_plan ["thing"] := A9.dfn X G fun _ _ _ _ _ _ us hl => by obtain ⟨_, rfl⟩ := len1 hl; rfl
  have d__law_deck : Def K mg "_law_deck" s_law_deck ["script"] := A10.dfn X G fun _ _ _ _ _ _ us hl => by obtain ⟨_, rfl⟩ := len1 hl; rfl
  have d__law_draw : Def K mg "_law_draw" s_law_draw ["deck", "many"] := A11.dfn X G fun _ _ _ _ _ _ us hl => by obtain ⟨_, _, rfl⟩ := len2 hl; rfl
  have d__law_divisor : Def K mg "_law_divisor" s_law_divisor ["one", "other"] := A12.dfn X G fun _ _ _ _ _ _ us hl => by obtain ⟨_, _, rfl⟩ := len2 hl; rfl
  have d__law_low : Def K mg "_law_low" s_law_low ["top", "bottom"] := A13.dfn X G fun _ _ _ _ _ _ us hl => by obtain ⟨_, _, rfl⟩ := len2 hl; rfl
  have d__law_far : Def K mg "_law_far" s_law_far ["deck"] := A14.dfn X G fun _ _ _ _ _ _ us hl => by obtain ⟨_, rfl⟩ := len1 hl; rfl
  have d__law_small : Def K mg "_law_small" s_law_small ["deck"] := A15.dfn X G fun _ _ _ _ _ _ us hl => by obtain ⟨_, rfl⟩ := len1 hl; rfl
  have d__law_any : Def K mg "_law_any" s_law_any ["deck", "far"] := A16.dfn X G fun _ _ _ _ _ _ us hl => by obtain ⟨_, _, rfl⟩ := len2 hl; rfl
  have d__law_bounds : Def K mg "_law_bounds" s_law_bounds ["deck", "many", "far"] := A17.dfn X G fun _ _ _ _ _ _ us hl => by obtain ⟨_, _, _, rfl⟩ := len3 hl; rfl
  have d__law_plan : Def K mg "_law_plan" s_law_plan ["deck", "far"] := A18.dfn X G fun _ _ _ _ _ _ us hl => by obtain ⟨_, _, rfl⟩ := len2 hl; rfl
  have d__law_is_fraction : Def K mg "_law_is_fraction" s_law_is_fraction ["thing"] := A19.dfn X G fun _ _ _ _ _ _ us hl => by obtain ⟨_, rfl⟩ := len1 hl; rfl
  have d__law_are : Def K mg "_law_are" s_law_are ["thing", "many"] := A20.dfn X G fun _ _ _ _ _ _ us hl => by obtain ⟨_, _, rfl⟩ := len2 hl; rfl
  have d__law_are_bounds : Def K mg "_law_are_bounds" s_law_are_bounds ["thing"] := A21.dfn X G fun _ _ _ _ _ _ us hl => by obtain ⟨_, rfl⟩ := len1 hl; rfl
  have d__law_is_plan : Def K mg "_law_is_plan" s_law_is_plan ["thing"] := A22.dfn X G fun _ _ _ _ _ _ us hl => by obtain ⟨_, rfl⟩ := len1 hl; rfl
  have d__law_copy : Def K mg "_law_copy" s_law_copy ["thing"] := A23.dfn X G fun _ _ _ _ _ _ us hl => by obtain ⟨_, rfl⟩ := len1 hl; rfl
  have d__law_odd : Def K mg "_law_odd" s_law_odd ["deck", "thing"] := A24.dfn X G fun _ _ _ _ _ _ us hl => by obtain ⟨_, _, rfl⟩ := len2 hl; rfl
  have d__law_spoilt : Def K mg "_law_spoilt" s_law_spoilt ["deck", "thing"] := A25.dfn X G fun _ _ _ _ _ _ us hl => by obtain ⟨_, _, rfl⟩ := len2 hl; rfl
  have d_law : Def K mg "law" s_law ["script"] := ⟨_, _, fun_mk (st := s_law) l26 c26 k26, (fun_mk (st := s_law) l26 c26 k26).binds (ps := ["script"]) fun _ _ _ _ _ _ us hl => by obtain ⟨_, rfl⟩ := len1 hl; rfl, PySem.W.mg_of X G a26⟩
  refine ⟨PySem.W.fnOf "law" "law" (defArgs s_law) (defBody s_law) (defScope s_law) .none kV26 dc26 pm26 an26 cd26 ct26, fun s v => .of_eq rfl, fun base _ _ => ?_⟩
  have h_is_whole := M.h_is_whole (P := l.prog) (w := w) (base := base) B d_is_whole 
  have h_is_tuple_of := M.h_is_tuple_of (P := l.prog) (w := w) (base := base) B d_is_tuple_of 
  have h_common_divisor := M.h_common_divisor (P := l.prog) (w := w) (base := base) B d_common_divisor 
  have h_below := M.h_below (P := l.prog) (w := w) (base := base) B d_below 
  have h__law_deck := M.h__law_deck (P := l.prog) (w := w) (base := base) B d__law_deck 
  have h__law_draw := M.h__law_draw (P := l.prog) (w := w) (base := base) B d__law_draw 
  have h__law_draw := M.draw4 h__law_draw
  have h__law_divisor := M.h__law_divisor (P := l.prog) (w := w) (base := base) B d__law_divisor 
  have h_is_fraction := M.h_is_fraction (P := l.prog) (w := w) (base := base) B d_is_fraction (F_is_tuple_of := h_is_tuple_of) (F_is_whole := h_is_whole) (F_common_divisor := h_common_divisor)
  have h__law_low := M.h__law_low (P := l.prog) (w := w) (base := base) B d__law_low (F__law_divisor := h__law_divisor)
  have h__law_far := M.h__law_far (P := l.prog) (w := w) (base := base) B d__law_far (F__law_draw := h__law_draw)
  have h__law_is_fraction := M.h__law_is_fraction (P := l.prog) (w := w) (base := base) B d__law_is_fraction (F__law_divisor := h__law_divisor)
  have h__law_odd := M.h__law_odd (P := l.prog) (w := w) (base := base) B d__law_odd (F__law_draw := h__law_draw)
  have h_is_bounds := M.h_is_bounds (P := l.prog) (w := w) (base := base) B d_is_bounds (F_is_tuple_of := h_is_tuple_of) (F_below := h_below) (F_is_fraction := h_is_fraction)
  have h_is_fraction_list := M.h_is_fraction_list (P := l.prog) (w := w) (base := base) B d_is_fraction_list (F_is_fraction := h_is_fraction)
  have h__law_small := M.h__law_small (P := l.prog) (w := w) (base := base) B d__law_small (F__law_low := h__law_low) (F__law_draw := h__law_draw)
  have h__law_are := M.h__law_are (P := l.prog) (w := w) (base := base) B d__law_are (F__law_is_fraction := h__law_is_fraction)
  have h_is_bounds_list := M.h_is_bounds_list (P := l.prog) (w := w) (base := base) B d_is_bounds_list (F_is_bounds := h_is_bounds)
  have h_is_demand := M.h_is_demand (P := l.prog) (w := w) (base := base) B d_is_demand (F_is_fraction := h_is_fraction) (F_is_tuple_of := h_is_tuple_of) (F_is_fraction_list := h_is_fraction_list)
  have h__law_any := M.h__law_any (P := l.prog) (w := w) (base := base) B d__law_any (F__law_small := h__law_small) (F__law_low := h__law_low) (F__law_draw := h__law_draw) (F__law_far := h__law_far)
  have h__law_are_bounds := M.h__law_are_bounds (P := l.prog) (w := w) (base := base) B d__law_are_bounds (F__law_are := h__law_are)
  have h_is_plan := M.h_is_plan (P := l.prog) (w := w) (base := base) B d_is_plan (F_is_tuple_of := h_is_tuple_of) (F_is_bounds_list := h_is_bounds_list) (F_is_demand := h_is_demand)
  have h__law_bounds := M.h__law_bounds (P := l.prog) (w := w) (base := base) B d__law_bounds (F__law_any := h__law_any) (F__law_draw := h__law_draw) (F__law_low := h__law_low)
  have h__law_is_plan := M.h__law_is_plan (P := l.prog) (w := w) (base := base) B d__law_is_plan (F__law_are_bounds := h__law_are_bounds) (F__law_is_fraction := h__law_is_fraction) (F__law_are := h__law_are)
  have h__law_plan := M.h__law_plan (P := l.prog) (w := w) (base := base) B d__law_plan (F__law_bounds := h__law_bounds) (F__law_draw := h__law_draw) (F__law_any := h__law_any)
  have h__law_spoilt := M.h__law_spoilt (P := l.prog) (w := w) (base := base) B d__law_spoilt (F__law_odd := h__law_odd) (F__law_draw := h__law_draw)
  have h__law_copy := M.h__law_copy (P := l.prog) (w := w) (base := base) B d__law_copy 
  exact M.fn_law (P := l.prog) (w := w) (base := base) B (fun_mk (st := s_law) l26 c26 k26) (F__law_deck := h__law_deck) (F__law_plan := h__law_plan) (F_is_plan := h_is_plan) (F__law_spoilt := h__law_spoilt) (F__law_copy := h__law_copy) (F__law_is_plan := h__law_is_plan)
private theorem walk {l : PySem.W.OpenLaw} {q : Program} {loose : List Str} {XP : (Str → Option Value) → Heap → Prop} {YP : World → Heap → Prop} {d : DefRec} {K : Params → PySem.W.Frag} (hn : l.most = some 63) (hdf : d.params.defaults = [])
    (hY : ∀ (w : World) (h : Heap), YP w h → (K w.params).In h)
    (F : ∀ (w : World) (mg : Str → Option Value) (fa : Addr) (h : Heap), (K w.params).In h → h.Ns mainGlobals mg → mg d.name = some (.ref fa) →
      ∃ fd : FuncData, (∀ (s : Shared) (u : Value), BindsTo s fd ⟨[u], []⟩ [("script", u)]) ∧ ∀ base : Heap, (K w.params).In base → base.Ns mainGlobals mg → FnOk l.prog w (K w.params) mg base CX0 13 fa fd ["script"] (spLaw (K w.params))) :
    PySem.W.WalkO q loose XP YP l.row.toRowW d [] (fun f vs => PySem.call f vs) :=
  L2.walk_of (n := 63) (k := 13) (x := "script") (CX := fun _ => CX0) (sp := fun w => spLaw (K w.params)) hn (by decide) hdf ⟨rfl, by decide, by decide⟩ hY F (fun _ _ a ns hl _ hS => ⟨a, ns, rfl, hS, hl, fun _ => rfl⟩) fun _ _ _ _ _ z => z
end M
-- the head would lay twins of the heap, of trees and of texts here; with their names taken it lays none and goes on without them, and the compiled file stays small
theorem PySem.W.Fast.tw1835991187859079407 : True := trivial
theorem PySem.W.Fast.tw4667273796587455390 : True := trivial
theorem PySem.W.Fast.tw5537125779447531495 : True := trivial
theorem PySem.W.Fast.tw14056079228904075796 : True := trivial
theorem PySem.W.Fast.tw11571142191220746969 : True := trivial
theorem PySem.W.Fast.te7994735477689695406 : True := trivial
theorem PySem.W.Fast.tw3410787975832256896 : True := trivial
noncomputable def PySem.W.Fast.tw10281854929638750688 : PySem.Program := PySem.Challenge.pw_shimright_k06_what_is_a_plan
theorem PySem.W.Fast.te10281854929638750688 : PySem.Challenge.pw_shimright_k06_what_is_a_plan = PySem.W.Fast.tw10281854929638750688 := rfl
theorem PySem.W.Fast.tw4486842622949013843 : True := trivial
theorem PySem.W.Fast.tw6440684621492151469 : True := trivial
namespace M
end M
open PySem PySem.W PyProof.Rows
set_option maxRecDepth 100000 in
set_option maxHeartbeats 0 in
theorem PySem.Challenge.cw_shimright_k06_what_is_a_plan_holds : PySem.Challenge.rw_shimright_k06_what_is_a_plan.Holds := by
  w_on; o_law; k_head; (case hw => w_witness2)
  k_fill
  refine M.walk (l := PySem.Challenge.rw_shimright_k06_what_is_a_plan) rfl rfl (fun w h Y => PySem.W.kIn_of Y) ?F
  case F =>
    intro w mg fa h KX G hmg
    refine' M.all_mk KX G hmg ?A0 ?A1 ?A2 ?A3 ?A4 ?A5 ?A6 ?A7 ?A8 ?A9 ?A10 ?A11 ?A12 ?A13 ?A14 ?A15 ?A16 ?A17 ?A18 ?A19 ?A20 ?A21 ?A22 ?A23 ?A24 ?A25 ?a26 ?l26 ?c26 ?k26 ?z_len ?z_abs ?z_isinstance ?z_tuple ?z_list ?z_int ?z_bool ?z_str ?z_range ?z_zip ?z_all ?z_any ?z_ValueError
    (case A0 => (refine' M.At.of ?a ?l ?c ?k; (case a => k_is); (case l => k_is); (case c => k_is); case k => k_is))
    (case A1 => (refine' M.At.of ?a ?l ?c ?k; (case a => k_is); (case l => k_is); (case c => k_is); case k => k_is))
    (case A2 => (refine' M.At.of ?a ?l ?c ?k; (case a => k_is); (case l => k_is); (case c => k_is); case k => k_is))
    (case A3 => (refine' M.At.of ?a ?l ?c ?k; (case a => k_is); (case l => k_is); (case c => k_is); case k => k_is))
    (case A4 => (refine' M.At.of ?a ?l ?c ?k; (case a => k_is); (case l => k_is); (case c => k_is); case k => k_is))
    (case A5 => (refine' M.At.of ?a ?l ?c ?k; (case a => k_is); (case l => k_is); (case c => k_is); case k => k_is))
    (case A6 => (refine' M.At.of ?a ?l ?c ?k; (case a => k_is); (case l => k_is); (case c => k_is); case k => k_is))
    (case A7 => (refine' M.At.of ?a ?l ?c ?k; (case a => k_is); (case l => k_is); (case c => k_is); case k => k_is))
    (case A8 => (refine' M.At.of ?a ?l ?c ?k; (case a => k_is); (case l => k_is); (case c => k_is); case k => k_is))
    (case A9 => (refine' M.At.of ?a ?l ?c ?k; (case a => k_is); (case l => k_is); (case c => k_is); case k => k_is))
    (case A10 => (refine' M.At.of ?a ?l ?c ?k; (case a => k_is); (case l => k_is); (case c => k_is); case k => k_is))
    (case A11 => (refine' M.At.of ?a ?l ?c ?k; (case a => k_is); (case l => k_is); (case c => k_is); case k => k_is))
    (case A12 => (refine' M.At.of ?a ?l ?c ?k; (case a => k_is); (case l => k_is); (case c => k_is); case k => k_is))
    (case A13 => (refine' M.At.of ?a ?l ?c ?k; (case a => k_is); (case l => k_is); (case c => k_is); case k => k_is))
    (case A14 => (refine' M.At.of ?a ?l ?c ?k; (case a => k_is); (case l => k_is); (case c => k_is); case k => k_is))
    (case A15 => (refine' M.At.of ?a ?l ?c ?k; (case a => k_is); (case l => k_is); (case c => k_is); case k => k_is))
    (case A16 => (refine' M.At.of ?a ?l ?c ?k; (case a => k_is); (case l => k_is); (case c => k_is); case k => k_is))
    (case A17 => (refine' M.At.of ?a ?l ?c ?k; (case a => k_is); (case l => k_is); (case c => k_is); case k => k_is))
    (case A18 => (refine' M.At.of ?a ?l ?c ?k; (case a => k_is); (case l => k_is); (case c => k_is); case k => k_is))
    (case A19 => (refine' M.At.of ?a ?l ?c ?k; (case a => k_is); (case l => k_is); (case c => k_is); case k => k_is))
    (case A20 => (refine' M.At.of ?a ?l ?c ?k; (case a => k_is); (case l => k_is); (case c => k_is); case k => k_is))
    (case A21 => (refine' M.At.of ?a ?l ?c ?k; (case a => k_is); (case l => k_is); (case c => k_is); case k => k_is))
    (case A22 => (refine' M.At.of ?a ?l ?c ?k; (case a => k_is); (case l => k_is); (case c => k_is); case k => k_is))
    (case A23 => (refine' M.At.of ?a ?l ?c ?k; (case a => k_is); (case l => k_is); (case c => k_is); case k => k_is))
    (case A24 => (refine' M.At.of ?a ?l ?c ?k; (case a => k_is); (case l => k_is); (case c => k_is); case k => k_is))
    (case A25 => (refine' M.At.of ?a ?l ?c ?k; (case a => k_is); (case l => k_is); (case c => k_is); case k => k_is))
    (case a26 => k_is)
    (case l26 => k_is)
    (case c26 => k_is)
    (case k26 => k_is)
    (case z_len => k_is)
    (case z_abs => k_is)
    (case z_isinstance => k_is)
    (case z_tuple => k_is)
    (case z_list => k_is)
    (case z_int => k_is)
    (case z_bool => k_is)
    (case z_str => k_is)
    (case z_range => k_is)
    (case z_zip => k_is)
    (case z_all => k_is)
    (case z_any => k_is)
    (case z_ValueError => k_is)
#print axioms PySem.Challenge.cw_shimright_k06_what_is_a_plan_holds
