import PyProof.Rows.All
import Wide.All
import OpenK.AllK
import Wide.FinOn
import Lean
import PyProof.EqAt
import PyProof.EqKinds
import PyProof.TupleCall
import PySem.Challenge.RW_selvage_k91_numbers_and_tables
set_option Elab.async false
set_option linter.all false
set_option maxRecDepth 100000
set_option genSizeOfSpec false
set_option genInjectivity false
theorem aT0 (h : True := by first | exact .inl rfl | exact .inr rfl | assumption) : True := True.intro
theorem aT1 (h : True := by decide) : True := True.intro
theorem aT2 (h : True := by rfl) : True := True.intro
theorem aT3 (h : True := by first | exact Or.inl rfl | exact Or.inr (Or.inl rfl) | exact Or.inr (Or.inr rfl)) : True := True.intro

namespace L2
open PySem PySem.Spec PyProof.Rows

noncomputable abbrev Key := Sum Int Str
noncomputable def keyIs : Key → Value → Bool
  | .inl k, v => Value.isInt k v
  | .inr x, v => Value.isStrOf x v
noncomputable def keyH (w : World) : Key → Int
  | .inl k => hashInt k
  | .inr x => hashStr w x
theorem keyIs_shape : ∀ {k : Key} {v : Value}, keyIs k v = true → (∃ i t, k = Sum.inl i ∧ v = Value.int i t) ∨ (∃ x t, k = Sum.inr x ∧ v = Value.str x t)
  | .inl i, v, h => by
    obtain ⟨t, e⟩ := Value.isInt_shape (k := i) (v := v) h
    exact .inl ⟨i, t, rfl, e⟩
  | .inr x, v, h => by
    obtain ⟨t, e⟩ := Value.isStrOf_shape (x := x) (v := v) h
    exact .inr ⟨x, t, rfl, e⟩
theorem keyIs_int (i : Int) (t : Tok) : keyIs (.inl i) (.int i t) = true := by simp [keyIs, Value.isInt]
theorem keyIs_str (x : Str) (t : Tok) : keyIs (.inr x) (.str x t) = true := by simp [keyIs, Value.isStrOf]
theorem key_ll (a b : Int) : decide ((Sum.inl a : Key) = Sum.inl b) = (a == b) := by
  by_cases e : a = b
  · subst e; simp
  · have h : ¬ (Sum.inl a : Key) = Sum.inl b := fun q => e (Sum.inl.inj q)
    rw [decide_eq_false h]
    exact (beq_eq_false_iff_ne.mpr e).symm
theorem key_rr (a b : Str) : decide ((Sum.inr a : Key) = Sum.inr b) = decide (a = b) := by
  by_cases e : a = b
  · subst e; simp
  · have h : ¬ (Sum.inr a : Key) = Sum.inr b := fun q => e (Sum.inr.inj q)
    rw [decide_eq_false h, decide_eq_false e]
theorem key_lr (a : Int) (b : Str) : decide ((Sum.inl a : Key) = Sum.inr b) = false := decide_eq_false (fun q => nomatch q)
theorem key_rl (a : Str) (b : Int) : decide ((Sum.inr a : Key) = Sum.inl b) = false := decide_eq_false (fun q => nomatch q)

noncomputable def mixKind (prog : Program) (w : World) : PySem.KeyKind prog w Key where
  is := keyIs
  hash := keyH w
  inj := fun v a b ha hb => by
    rcases keyIs_shape ha with ⟨i, t, rfl, rfl⟩ | ⟨x, t, rfl, rfl⟩
    · rcases keyIs_shape hb with ⟨j, u, rfl, e⟩ | ⟨y, u, rfl, e⟩
      · injection e with e1 _; rw [e1]
      · exact nomatch e
    · rcases keyIs_shape hb with ⟨j, u, rfl, e⟩ | ⟨y, u, rfl, e⟩
      · exact nomatch e
      · injection e with e1 _; rw [e1]
  byValue := fun k v h => by
    rcases keyIs_shape h with ⟨i, t, rfl, rfl⟩ | ⟨x, t, rfl, rfl⟩ <;> rfl
  pyHash := fun hv h => by
    rcases keyIs_shape hv with ⟨i, t, rfl, rfl⟩ | ⟨x, t, rfl, rfl⟩
    · exact wpAny_pyHash_int h
    · exact wpAny_pyHash_str h
  eqBool := fun hu hv h => by
    rcases keyIs_shape hu with ⟨i, t, rfl, rfl⟩ | ⟨x, t, rfl, rfl⟩
    · rcases keyIs_shape hv with ⟨j, u, rfl, rfl⟩ | ⟨y, u, rfl, rfl⟩
      · rw [key_ll] at h; exact wpAny_eqBool_int h
      · rw [key_lr] at h; exact SeqAt.EqAt.int_str i t y u _ _ _ _ h
    · rcases keyIs_shape hv with ⟨j, u, rfl, rfl⟩ | ⟨y, u, rfl, rfl⟩
      · rw [key_rl] at h; exact SeqAt.EqAt.str_int x t j u _ _ _ _ h
      · rw [key_rr] at h; exact wpAny_eqBool_str h
  «strs» := fun k x t v h => by
    rcases keyIs_shape h with ⟨i, u, rfl, e⟩ | ⟨y, u, rfl, e⟩
    · exact nomatch e
    · injection e with e1 _
      subst e1
      cases v <;> rfl

theorem mixKind_int (prog : Program) (w : World) (i : Int) (t : Tok) : (mixKind prog w).is (.inl i) (.int i t) = true := keyIs_int i t
theorem mixKind_str (prog : Program) (w : World) (x : Str) (t : Tok) : (mixKind prog w).is (.inr x) (.str x t) = true := keyIs_str x t
end L2

namespace L2
open PySem PySem.Spec PyProof.Rows

set_option genInjectivity true in
inductive V where
  | non | bl (b : Bool) | int (i : Int) | str (x : Str) | byt (b : Array UInt8) | flt (b : UInt64) | ref (a : Addr) | ty (n : String)
  deriving DecidableEq

noncomputable def RelV : V → Value → Prop
  | .non, u => u = Value.none
  | .bl b, u => u = Value.bool b
  | .int i, u => ∃ t, u = Value.int i t
  | .str x, u => ∃ t, u = Value.str x t
  | .byt b, u => ∃ t, u = Value.bytes b t
  | .flt b, u => ∃ t, u = Value.float b t
  | .ref a, u => u = Value.ref a
  | .ty n, u => u = Value.type n

noncomputable abbrev Vals : List V → List Value → Prop := Paired RelV
theorem Vals.length {xs : List V} {us : List Value} (r : Vals xs us) : xs.length = us.length := Paired.length r
theorem Vals.get : ∀ {xs : List V} {us : List Value} {i : Nat} {x : V}, Vals xs us → xs[i]? = some x → ∃ u, us[i]? = some u ∧ RelV x u
  | _, _, _, _, .nil, e => by simp at e
  | _, _, 0, _, .cons r _, e => by simp at e; subst e; exact ⟨_, rfl, r⟩
  | _, _, i + 1, x, .cons _ t, e => by
    obtain ⟨u, h1, h2⟩ := Vals.get (i := i) (x := x) t (by simpa using e)
    exact ⟨u, by simpa using h1, h2⟩
theorem Vals.append : ∀ {xs ys : List V} {us ws : List Value}, Vals xs us → Vals ys ws → Vals (xs ++ ys) (us ++ ws)
  | _, _, _, _, .nil, s => s
  | _, _, _, _, .cons r t, s => .cons r (Vals.append t s)
theorem Vals.take : ∀ {xs : List V} {us : List Value} (n : Nat), Vals xs us → Vals (xs.take n) (us.take n)
  | _, _, 0, _ => .nil
  | _, _, _ + 1, .nil => .nil
  | _, _, n + 1, .cons r t => .cons r (Vals.take n t)
theorem Vals.drop : ∀ {xs : List V} {us : List Value} (n : Nat), Vals xs us → Vals (xs.drop n) (us.drop n)
  | _, _, 0, r => r
  | _, _, _ + 1, .nil => .nil
  | _, _, n + 1, .cons _ t => Vals.drop n t

noncomputable def RelO : Option V → Option Value → Prop
  | some v, some u => RelV v u
  | none, none => True
  | _, _ => False
noncomputable def KV {κ : Type} : List (κ × V) → List (κ × Value) → Prop := Paired fun (p : κ × V) (q : κ × Value) => p.1 = q.1 ∧ RelV p.2 q.2

noncomputable def kV : Key → V
  | .inl i => .int i
  | .inr x => .str x

inductive HO where
  | lst (xs : List V)
  | tup (xs : List V)
  | dK (kvs : List (Key × V)) | dT (kvs : List (List Key × V))
  | set (S : Int → Bool) (n : Nat)
  | ins (C dx : Addr) (fs : List (Str × V))
  | own (x : Addr)
  | xd (fs : List (Str × V))
  | met (f x : Addr)
  | rng (lo hi : Int)
  | frz (o : Obj) (u : HO)
  | tbl (ps : Array Value)
  | ext (φ : Heap → Prop)

noncomputable abbrev Hp := Addr → Option HO
noncomputable def upd (H : Hp) (a : Addr) (o : HO) : Hp := fun b => if b = a then some o else H b
theorem upd_same {H : Hp} {a : Addr} {o : HO} : upd H a o a = some o := by unfold upd; rw [if_pos rfl]
theorem upd_ne {H : Hp} {a b : Addr} {o : HO} (h : b ≠ a) : upd H a o b = H b := by unfold upd; rw [if_neg h]
theorem ne_of {H : Hp} {a b : Addr} {o u : HO} (h : H a = some o) (h' : H b = some u) (d : o ≠ u) : a ≠ b := by
  intro e; subst e; rw [h] at h'; exact d (Option.some.inj h')
theorem ne_of_none {H : Hp} {a b : Addr} {o : HO} (h : H a = some o) (h' : H b = none) : a ≠ b := by
  intro e; subst e; rw [h] at h'; cases h'

section
variable (P : Program) (w : World)
noncomputable def ObjOk (H : Hp) (h : Heap) (a : Addr) : HO → Prop
  | .lst xs => xs.length ≤ sizeLine ∧ ∃ (its : List Value) (n : Nat), Vals xs its ∧ h.get? a = some { cls := .type "list", data := .seq its.toArray n }
  | .tup xs => xs.length ≤ sizeLine ∧ ∃ its : List Value, Vals xs its ∧ IsTup h a its.toArray
  | .dK kvs => kvs.length ≤ sizeLine ∧ (a == sysModules) = false ∧ ∃ vs, KV kvs vs ∧ h.DictOf (mixKind P w) a vs
  | .dT kvs => kvs.length ≤ sizeLine ∧ (a == sysModules) = false ∧ ∃ xs : List (List Key × Addr × Value),
      Paired (fun (p : List Key × V) (q : List Key × Addr × Value) => p.1 = q.1 ∧ H q.2.1 = some (.tup (p.1.map kV)) ∧ RelV p.2 q.2.2) kvs xs ∧
      ∃ o es ep, h.get? a = some o ∧ o.ExactDict ∧ o.data = .dict es ep ∧ es.toList = xs.map (entryOfKey (tupleKind (mixKind P w))) ∧ (xs.map (·.1)).Nodup
  | .set S n => h.SetOf (intKind P w) a S n
  | .ins C dx fs => H dx = some (.own a) ∧ fs.length ≤ 1000 ∧ dx ≠ a ∧ h.get? a = some (PySem.W.instObj C dx) ∧
      ∃ mA, h.Ns1 dx mA ∧ (∀ f, RelO (fs.lookup f) (mA f)) ∧ PySem.Within mA (fs.map (·.1))
  | .own _ => ∃ o, h.get? a = some o
  | .xd fs => ∃ mA, h.Ns1 a mA ∧ ∀ f, RelO (fs.lookup f) (mA f)
  | .rng lo hi => ∃ t u v, h.get? a = some { cls := .type "range", data := .fields #[.int lo t, .int hi u, .int 1 v] }
  | .frz o u => h.get? a = some o ∧ ObjOk H h a u
  | .tbl ps => h.get? a = some { cls := .none, data := .fields ps }
  | .met f x => h.get? a = some (PySem.W.methodObj (.ref f) (.ref x))
  | .ext φ => φ h ∧ (∃ o, h.get? a = some o) ∧ ∀ h1 h2 : Heap, φ h1 → (∀ o, h1.get? a = some o → h2.get? a = some o) → φ h2
noncomputable def HOk (H : Hp) (h : Heap) : Prop := ∀ a o, H a = some o → ObjOk P w H h a o
end

section
variable {P : Program} {w : World} {H H' : Hp} {h h' : Heap} {a : Addr} {o : HO}
theorem ObjOk.lt (x : ObjOk P w H h a o) : a < h.objs.size := by
  cases o with
  | lst xs => obtain ⟨_, _, _, _, e⟩ := x; exact Heap.lt_size e
  | tup xs => obtain ⟨_, _, _, p⟩ := x; exact p.lt
  | dK kvs => obtain ⟨_, _, _, _, o, _, _, e, _⟩ := x; exact Heap.lt_size e
  | dT kvs => obtain ⟨_, _, _, _, o, _, _, e, _⟩ := x; exact Heap.lt_size e
  | set S n => obtain ⟨o, _, _, _, e, _⟩ := x; exact Heap.lt_size e
  | ins C dx fs => obtain ⟨_, _, _, e, _⟩ := x; exact Heap.lt_size e
  | own y => obtain ⟨_, e⟩ := x; exact Heap.lt_size e
  | xd fs => obtain ⟨_, ⟨_, _, _, e, _⟩, _⟩ := x; exact Heap.lt_size e
  | rng lo hi => obtain ⟨_, _, _, e⟩ := x; exact Heap.lt_size e
  | frz ob u => obtain ⟨e, _⟩ := x; exact Heap.lt_size e
  | tbl ps => exact Heap.lt_size (show h.get? a = some _ from x)
  | met f y => exact Heap.lt_size (show h.get? a = some _ from x)
  | ext φ => obtain ⟨_, ⟨_, e⟩, _⟩ := x; exact Heap.lt_size e
theorem Paired.mapP {α β : Type} {F G : α → β → Prop} : ∀ {l₁ : List α} {l₂ : List β}, Paired F l₁ l₂ → (∀ a b, F a b → G a b) → Paired G l₁ l₂
  | _, _, .nil, _ => .nil
  | _, _, .cons r t, f => .cons (f _ _ r) (Paired.mapP t f)
theorem ObjOk.stay (x : ObjOk P w H h a o) (k : ∀ b u, (b = a ∨ H b = some (.own a)) → h.get? b = some u → h'.get? b = some u)
    (ho : ∀ b, H b = some (.own a) → H' b = some (.own a)) (ht : ∀ b xs, H b = some (.tup xs) → H' b = some (.tup xs)) : ObjOk P w H' h' a o := by
  induction o with
  | lst xs => obtain ⟨z, its, n, r, e⟩ := x; exact ⟨z, its, n, r, k _ _ (.inl rfl) e⟩
  | tup xs => obtain ⟨z, its, r, ob, e, c⟩ := x; exact ⟨z, its, r, ob, k _ _ (.inl rfl) e, c⟩
  | dK kvs => obtain ⟨z, y, vs, r, ob, es, ep, e, c⟩ := x; exact ⟨z, y, vs, r, ob, es, ep, k _ _ (.inl rfl) e, c⟩
  | dT kvs =>
    obtain ⟨z, y, xs, r, ob, es, ep, e, c⟩ := x
    exact ⟨z, y, xs, Paired.mapP r fun p q z => ⟨z.1, ht _ _ z.2.1, z.2.2⟩, ob, es, ep, k _ _ (.inl rfl) e, c⟩
  | set S n => obtain ⟨ob, es, ep, t, e, c⟩ := x; exact ⟨ob, es, ep, t, k _ _ (.inl rfl) e, c⟩
  | ins C dx fs =>
    obtain ⟨d, z, ne, e, mA, ⟨od, es, ep, e2, c⟩, r⟩ := x
    exact ⟨ho _ d, z, ne, k _ _ (.inl rfl) e, mA, ⟨od, es, ep, k _ _ (.inr d) e2, c⟩, r⟩
  | own y => obtain ⟨ob, e⟩ := x; exact ⟨ob, k _ _ (.inl rfl) e⟩
  | xd fs => obtain ⟨mA, ⟨od, es, ep, e, c⟩, r⟩ := x; exact ⟨mA, ⟨od, es, ep, k _ _ (.inl rfl) e, c⟩, r⟩
  | rng lo hi => obtain ⟨t, u, v, e⟩ := x; exact ⟨t, u, v, k _ _ (.inl rfl) e⟩
  | frz ob u ih => obtain ⟨e, q⟩ := x; exact ⟨k _ _ (.inl rfl) e, ih q⟩
  | tbl ps =>
    have e : h.get? a = some { cls := .none, data := .fields ps } := x
    show h'.get? a = some { cls := .none, data := .fields ps }
    exact k a _ (.inl rfl) e
  | met f y =>
    have e : h.get? a = some (PySem.W.methodObj (.ref f) (.ref y)) := x
    show h'.get? a = some (PySem.W.methodObj (.ref f) (.ref y))
    exact k a _ (.inl rfl) e
  | ext φ => obtain ⟨p, ⟨o, e⟩, st⟩ := x; exact ⟨st _ _ p fun o q => k _ _ (.inl rfl) q, ⟨o, k _ _ (.inl rfl) e⟩, st⟩
theorem HOk.lt (x : HOk P w H h) (e : H a = some o) : a < h.objs.size := (x a o e).lt
theorem HOk.fresh (x : HOk P w H h) (e : h.objs.size ≤ a) : H a = none := by
  cases q : H a with
  | none => rfl
  | some u => exact absurd (Nat.lt_of_lt_of_le (x.lt q) e) (Nat.lt_irrefl _)
theorem HOk.kept (x : HOk P w H h) (k : ∀ b u, h.get? b = some u → h'.get? b = some u) : HOk P w H h' := fun a o e =>
  (x a o e).stay (fun b u _ q => k b u q) (fun _ q => q) fun _ _ q => q
theorem HOk.laid (x : HOk P w H h) (k : ∀ b u, h.get? b = some u → h'.get? b = some u) (hp : h.objs.size ≤ a) (new : ObjOk P w (upd H a o) h' a o) : HOk P w (upd H a o) h' := fun b u e => by
  have hn := x.fresh hp
  by_cases hb : b = a
  · subst hb; rw [upd_same] at e; cases e; exact new
  · rw [upd_ne hb] at e
    exact (x b u e).stay (fun c v _ q => k c v q) (fun c q => by rw [upd_ne (ne_of_none q hn)]; exact q) fun c xs q => by rw [upd_ne (ne_of_none q hn)]; exact q
end

noncomputable def Rd (H : Hp) (a : Addr) (u : HO) : Prop := H a = some u ∨ ∃ o, H a = some (.frz o u)
theorem Rd.ok {P : Program} {w : World} {H : Hp} {h : Heap} {a : Addr} {u : HO} (r : Rd H a u) (x : HOk P w H h) : ObjOk P w H h a u := by
  rcases r with r | ⟨o, r⟩
  · exact x a u r
  · obtain ⟨_, q⟩ := x a _ r
    exact q
noncomputable def Mut : Option HO → Prop
  | some (.lst _) => True
  | some (.dK _) => True
  | some (.dT _) => True
  | some (.set _ _) => True
  | some (.ins _ _ _) => True
  | some (.ext _) => True
  | _ => False
section
variable {P : Program} {w : World} {H : Hp} {h h' : Heap} {x e : Addr} {o' : HO}
theorem HOk.write (ok : HOk P w H h) (mu : Mut (H x)) (he : e = x ∨ H e = some (.own x)) (k : ∀ b u, b ≠ e → h.get? b = some u → h'.get? b = some u) (heo : ∃ u, h'.get? e = some u)
    (new : ObjOk P w (upd H x o') h' x o') : HOk P w (upd H x o') h' := fun b u q => by
  have nown : ∀ c y, H c = some (.own y) → c ≠ x := fun c y r z => by subst z; rw [r] at mu; exact mu
  have ntup : ∀ c xs, H c = some (.tup xs) → c ≠ x := fun c xs r z => by subst z; rw [r] at mu; exact mu
  by_cases hb : b = x
  · subst hb; rw [upd_same] at q; cases q; exact new
  · rw [upd_ne hb] at q
    by_cases hbe : b = e
    · have q' : H b = some (.own x) := by
        rcases he with z | z
        · exact absurd (hbe.trans z) hb
        · rw [hbe]; exact z
      rw [q] at q'; cases q'
      obtain ⟨v, hv⟩ := heo
      exact ⟨v, by rw [hbe]; exact hv⟩
    · refine (ok b u q).stay (fun c v hc r => k c v ?_ r) (fun c r => by rw [upd_ne (nown c b r)]; exact r) fun c xs r => by rw [upd_ne (ntup c xs r)]; exact r
      rcases hc with rfl | hc
      · exact hbe
      · rintro rfl
        rcases he with z | z
        · exact nown c b hc z
        · rw [hc] at z; cases z; exact hb rfl
end

structure Un (fs ex : List Addr) (H H' : Hp) (h h' : Heap) : Prop where
  keep : ∀ b o, h.get? b = some o → H b = none → b ∉ fs → b ∉ ex → h'.get? b = some o
  slot : ∀ b o, h.get? b = some o → H b = none → b ∈ fs → b ∉ ex → ∃ sl, h'.get? b = some { o with slots := sl }
  free : ∀ b o, h.get? b = some o → H b = none → b ∉ ex → H' b = none
  there : ∀ b o, h.get? b = some o → b ∉ ex → ∃ o', h'.get? b = some o'
  tups : ∀ b xs, H b = some (.tup xs) → H' b = some (.tup xs)
  frzs : ∀ b o u, H b = some (.frz o u) → H' b = some (.frz o u)
  tbls : ∀ b ps, H b = some (.tbl ps) → ∃ more, H' b = some (.tbl (ps ++ more))
section
variable {fs fs' ex ex' : List Addr} {H H1 H2 : Hp} {h h1 h2 h' : Heap} {a x e : Addr} {o : HO}
theorem Un.any (u : Un fs ex H H1 h h1) {b : Addr} {ob : Obj} (q : h.get? b = some ob) (n : H b = none) (hx : b ∉ ex) : ∃ sl, h1.get? b = some { ob with slots := sl } := by
  by_cases hb : b ∈ fs
  · exact u.slot b ob q n hb hx
  · exact ⟨ob.slots, u.keep b ob q n hb hx⟩
theorem Un.kept (k : ∀ b u, h.get? b = some u → h'.get? b = some u) : Un fs ex H H h h' :=
  ⟨fun b ob q _ _ _ => k b ob q, fun b ob q _ _ _ => ⟨ob.slots, k b ob q⟩, fun _ _ _ n _ => n, fun b ob q _ => ⟨ob, k b ob q⟩, fun _ _ q => q, fun _ _ _ q => q, fun _ ps q => ⟨#[], by rw [q]; simp⟩⟩
theorem Un.refl : Un fs ex H H h h := Un.kept fun _ _ q => q
theorem Un.laid (k : ∀ b u, h.get? b = some u → h'.get? b = some u) (hp : h.objs.size ≤ a) (hn : H a = none) : Un fs ex H (upd H a o) h h' where
  keep := fun b u q _ _ _ => k b u q
  slot := fun b u q _ _ _ => ⟨u.slots, k b u q⟩
  free := fun b u q n _ => by rw [upd_ne (Nat.ne_of_lt (Nat.lt_of_lt_of_le (Heap.lt_size q) hp))]; exact n
  there := fun b u q _ => ⟨u, k b u q⟩
  tups := fun b xs q => by rw [upd_ne (ne_of_none q hn)]; exact q
  frzs := fun b u xs q => by rw [upd_ne (ne_of_none q hn)]; exact q
  tbls := fun b ps q => ⟨#[], by rw [upd_ne (ne_of_none q hn), q]; simp⟩
theorem Un.write (mu : Mut (H x)) (he : e = x ∨ H e = some (.own x)) (k : ∀ b u, b ≠ e → h.get? b = some u → h'.get? b = some u) (heo : ∃ u, h'.get? e = some u) : Un fs ex H (upd H x o) h h' := by
  have hx : ∀ b, H b = none → b ≠ x := fun b n z => by subst z; rw [n] at mu; exact mu
  have hb : ∀ b, H b = none → b ≠ e := fun b n z => by
    subst z
    rcases he with r | r
    · exact hx b n r
    · rw [n] at r; cases r
  have hm : ∀ b u, H b = some u → ¬ Mut (some u) → b ≠ x := fun b u q nm z => by subst z; rw [q] at mu; exact nm mu
  refine ⟨fun b u q n _ _ => k b u (hb b n) q, fun b u q n _ _ => ⟨u.slots, k b u (hb b n) q⟩, fun b u q n _ => by rw [upd_ne (hx b n)]; exact n, fun b u q _ => ?_,
    fun b xs q => by rw [upd_ne (hm b _ q fun z => z)]; exact q, fun b u xs q => by rw [upd_ne (hm b _ q fun z => z)]; exact q, fun b ps q => ⟨#[], by rw [upd_ne (hm b _ q fun z => z), q]; simp⟩⟩
  by_cases hbe : b = e
  · subst hbe; exact heo
  · exact ⟨u, k b u hbe q⟩
end

noncomputable def trk (h : Heap) (H : Hp) : List Addr := (List.range h.objs.size).filter fun a => (H a).isSome
noncomputable def hidT (h : Heap) (H : Hp) : Heap := PySem.W.hideAll h (trk h H)
theorem hidT_size (h : Heap) (H : Hp) : (hidT h H).objs.size = h.objs.size := PySem.W.hideAll_size _ _
theorem hidT_get {h : Heap} {H : Hp} {b : Addr} {o : Obj} (e : h.get? b = some o) (n : H b = none) : (hidT h H).get? b = some o :=
  PySem.W.hideAll_get _ e fun hm => by
    have q : (H b).isSome = true := (List.mem_filter.mp hm).2
    rw [n] at q; simp at q
theorem of_hidT {h : Heap} {H : Hp} {b : Addr} {o : Obj} (e : (hidT h H).get? b = some o) : h.get? b = some o ∧ H b = none := by
  have e' : h.get? b = some o := PySem.W.of_hideAll (trk h H) e
  refine ⟨e', ?_⟩
  cases q : H b with
  | none => rfl
  | some x =>
    have hm : b ∈ trk h H := List.mem_filter.mpr ⟨List.mem_range.mpr (Heap.lt_size e'), by simp [q]⟩
    have z : (hidT h H).get? b = none := PySem.W.hideAll_none (trk h H) hm
    rw [z] at e; cases e

noncomputable def allNews (g h : Heap) (L : Addr) : List (Addr × Obj) := (List.range h.objs.size).filterMap fun a => if a = L ∨ (g.get? a).isSome = true then none else (h.get? a).map fun o => (a, o)
noncomputable def rest (g h : Heap) (L d : Addr) : List (Addr × Obj) := (allNews g h L).filter fun p => decide (p.1 ≠ d)
end L2

namespace L2
open PySem PySem.Spec PyProof.Rows

structure Mod (K : PySem.W.Frag) (mg : Str → Option Value) (base : Heap) : Prop where
  kin : K.In base
  glob : base.Ns mainGlobals mg
  blt : ∃ mb, base.Ns builtinsNs mb ∧ ∀ x : Str, x ≠ "__name__" → mb x = bootBuiltins x
  nolimit : base.NoLimit

/-- the context: a def's body (or a comprehension's block) running. base: fixed through the whole law; s₀, H₀: the entry; outer: the frames whose slots others may change (a def's callers); stack: all frames that run;
   ex: iterators that were made ahead of the entry and are walked here (a comprehension's); fn: the names whose cells were made at the entry (a def: all; a comprehension's block: its own); calm: not within an except suite; pn: pins that every state bears; xe: what is wanted of an exception that leaves the code -/
structure Cx where
  prog : Program
  w : World
  K : PySem.W.Frag
  mg : Str → Option Value
  base : Heap
  A : Around
  N : List Str
  s₀ : Shared
  H₀ : Hp
  env : Env
  outer : List Env
  stack : List Env
  ex : List Addr
  fn : Str → Bool
  calm : Bool
  pn : List (Addr × Obj)
  xe : Value → Shared → Prop
noncomputable def frs (l : List Env) : List Addr := l.filterMap (·.frame)
noncomputable abbrev Cx.fs (X : Cx) : List Addr := frs X.outer

noncomputable def Vis (sc : Scope) (x : Str) : Prop := sc.names.lookup x = some .local ∨ sc.names.lookup x = some .cell ∨ sc.names.lookup x = some .free
noncomputable def Loc (sc : Scope) (x : Str) : Prop := sc.names.lookup x = some .local ∨ sc.names.lookup x = some .cell
noncomputable def Look (env : Env) (h : Heap) (m : Str → Option Value) (x : Str) (u : Value) : Prop :=
  (env.kindOf x = some .local ∧ m x = some u) ∨ ((env.kindOf x = some .cell ∨ env.kindOf x = some .free) ∧ ∃ c, env.cells.lookup x = some c ∧ h.IsCell c (some u))

structure Cx.Ok (X : Cx) : Prop where
  mod : Mod X.K X.mg X.base
  kind : X.env.scope.kind = .function
  glob : X.env.globals = mainGlobals
  blt : X.env.builtins = builtinsNs
  above : X.s₀.heap.objs.size ≤ X.env.locals
  inj : ∀ x y c, X.env.cells.lookup x = some c → X.env.cells.lookup y = some c → x = y
  has : ∀ x, (X.env.kindOf x = some .cell ∨ X.env.kindOf x = some .free) → ∃ c, X.env.cells.lookup x = some c
  cab : ∀ x c, X.fn x = true → X.env.cells.lookup x = some c → X.s₀.heap.objs.size ≤ c
  hd : X.calm = true → X.A.handled = none
  frames : X.A.frames = some X.stack
  stk : X.stack = X.outer ∨ (X.stack = X.env :: X.outer ∧ X.env.frame = some X.env.locals)
  exf : ∀ b ∈ X.ex, b ≠ X.env.locals ∧ ∀ x c, X.env.cells.lookup x = some c → c ≠ b
  bs : ∀ b o, X.base.get? b = some o → X.s₀.heap.get? b = some o ∧ X.H₀ b = none
  bsz : X.base.objs.size ≤ X.s₀.heap.objs.size
  noex : ∀ b o, X.base.get? b = some o → b ∉ X.ex
  exfs : ∀ b ∈ X.ex, b ∉ X.fs
  funs : X.s₀.heap.FunFrames X.base X.outer
  frf : ∀ b ∈ X.fs, X.H₀ b = none

structure Inv (X : Cx) (pins : List (Addr × Obj)) (σ : List (Option V)) (H : Hp) (s : Shared) : Prop where
  ok : X.Ok
  os : s.os = X.s₀.os
  bare : AllBare s.gens
  base : Un X.fs X.ex X.H₀ H X.s₀.heap s.heap
  loc : ∃ m, s.heap.Ns X.env.locals m ∧ ∀ (i : Nat) (x : Str) (v : V), X.N[i]? = some x → σ[i]? = some (some v) → Vis X.env.scope x → ∃ u, RelV v u ∧ Look X.env s.heap m x u
  cell : ∀ x c, X.env.cells.lookup x = some c → ∃ v, s.heap.IsCell c v
  free : H X.env.locals = none
  freeC : ∀ x c, X.env.cells.lookup x = some c → H c = none
  pin : ∀ p ∈ X.pn ++ pins, s.heap.get? p.1 = some p.2 ∧ H p.1 = none ∧ p.1 ≠ X.env.locals ∧ p.1 ∉ X.fs ∧ ∀ v, p.2.data ≠ .cell v
  hok : HOk X.prog X.w H s.heap
  len : σ.length = X.N.length

section
variable {X : Cx} {pins : List (Addr × Obj)} {σ : List (Option V)} {H H' : Hp} {s : Shared} {h' : Heap}

theorem Cx.Ok.nofr (ok : X.Ok) {b : Addr} {o : Obj} (e : X.base.get? b = some o) : b ∉ X.fs := fun hb => by
  have := (ok.funs.mem hb).1
  rw [e] at this; cases this
theorem Inv.bs (I : Inv X pins σ H s) : ∀ b o, X.base.get? b = some o → s.heap.get? b = some o ∧ H b = none := fun b o e =>
  ⟨I.base.keep b o (I.ok.bs b o e).1 (I.ok.bs b o e).2 (I.ok.nofr e) (I.ok.noex b o e), I.base.free b o (I.ok.bs b o e).1 (I.ok.bs b o e).2 (I.ok.noex b o e)⟩
theorem Inv.bk (I : Inv X pins σ H s) : ∀ b o, X.base.get? b = some o → s.heap.get? b = some o := fun b o e => (I.bs b o e).1
theorem Inv.mod (I : Inv X pins σ H s) : Mod X.K X.mg X.base := I.ok.mod
theorem Inv.kIn (I : Inv X pins σ H s) : X.K.In s.heap := I.ok.mod.kin.keeps I.bk
theorem Inv.lt (I : Inv X pins σ H s) : X.env.locals < s.heap.objs.size := let ⟨_, hn, _⟩ := I.loc; hn.lt
theorem Inv.sz (I : Inv X pins σ H s) : X.s₀.heap.objs.size ≤ s.heap.objs.size := Nat.le_trans I.ok.above (Nat.le_of_lt I.lt)
theorem Inv.nofs (I : Inv X pins σ H s) {a : Addr} (h : s.heap.objs.size ≤ a) : a ∉ X.fs := fun hb => by
  obtain ⟨_, o, ho, _⟩ := I.ok.funs.mem hb
  exact absurd (Nat.lt_of_lt_of_le (Heap.lt_size ho) (Nat.le_trans I.sz h)) (Nat.lt_irrefl _)
theorem Inv.cne (I : Inv X pins σ H s) : ∀ x c, X.env.cells.lookup x = some c → c ≠ X.env.locals := fun x c e z => by
  obtain ⟨v, o, ho, hd⟩ := I.cell x c e
  obtain ⟨m, ⟨o', es, ep, ho', hd', _⟩, _⟩ := I.loc
  rw [z, ho'] at ho; cases ho; rw [hd'] at hd; cases hd
theorem Inv.funs (I : Inv X pins σ H s) : s.heap.FunFrames X.base X.outer := by
  have all : ∀ (l : List Env), (∀ b ∈ frs l, b ∈ X.fs) → X.s₀.heap.FunFrames X.base l → s.heap.FunFrames X.base l := by
    intro l
    induction l with
    | nil => intro _ _; trivial
    | cons env r ih =>
      intro hs hl
      obtain ⟨hk, ⟨L, o, hf, hn, ho, hd⟩, hr⟩ := hl
      have hL : L ∈ X.fs := hs L (by unfold frs; rw [List.filterMap_cons, hf]; exact List.mem_cons_self)
      obtain ⟨sl, e⟩ := I.base.slot L o ho (I.ok.frf L hL) hL fun z => I.ok.exfs L z hL
      exact ⟨hk, ⟨L, _, hf, hn, e, hd⟩, ih (fun b hb => hs b (by unfold frs; rw [List.filterMap_cons, hf]; exact List.mem_cons_of_mem _ hb)) hr⟩
  exact all X.outer (fun _ hb => hb) I.ok.funs

theorem Inv.stack (I : Inv X pins σ H s) : s.heap.FunFrames X.base X.stack := by
  rcases I.ok.stk with e | ⟨e, hf⟩
  · rw [e]; exact I.funs
  · rw [e]
    obtain ⟨m, hn, _⟩ := I.loc
    refine .cons (by rw [I.ok.kind]; decide) hf hn ?_ I.funs
    exact Heap.get?_none_of_le (Nat.le_trans I.ok.bsz I.ok.above)
theorem Inv.stkSub (I : Inv X pins σ H s) : ∀ b ∈ frs X.stack, b ∈ X.env.locals :: X.fs := fun b hb => by
  rcases I.ok.stk with e | ⟨e, hf⟩
  · rw [e] at hb; exact List.mem_cons_of_mem _ hb
  · rw [e] at hb
    unfold frs at hb
    rw [List.filterMap_cons, hf] at hb
    exact hb
theorem Inv.stkFree (I : Inv X pins σ H s) : ∀ b ∈ frs X.stack, H b = none := fun b hb => by
  rcases List.mem_cons.mp (I.stkSub b hb) with e | hb
  · rw [e]; exact I.free
  · obtain ⟨_, o, ho, _⟩ := I.ok.funs.mem hb
    exact I.base.free b o ho (I.ok.frf b hb) fun z => I.ok.exfs b z hb

theorem Inv.step {g' : Array GenState} {t' : Nat} {d' : Drawn} {ch : List Addr} (I : Inv X pins σ H s)
    (hch : ∀ b ∈ ch, (b ∈ X.ex ∨ X.s₀.heap.objs.size ≤ b) ∧ b ≠ X.env.locals ∧ (∀ x c, X.env.cells.lookup x = some c → c ≠ b) ∧ ∀ p ∈ X.pn ++ pins, p.1 ≠ b)
    (keep : ∀ b o, b ≠ X.env.locals → b ∉ X.fs → b ∉ ch → s.heap.get? b = some o → H b = none → h'.get? b = some o)
    (slot : ∀ b o, b ≠ X.env.locals → b ∈ X.fs → b ∉ ch → s.heap.get? b = some o → H b = none → ∃ sl, h'.get? b = some { o with slots := sl }) (free : ∀ b o, b ∉ ch → s.heap.get? b = some o → H b = none → H' b = none)
    (there : ∀ b o, b ∉ ch → s.heap.get? b = some o → ∃ o', h'.get? b = some o')
    (tups : ∀ b xs, H b = some (.tup xs) → H' b = some (.tup xs)) (frzs : ∀ b o u, H b = some (.frz o u) → H' b = some (.frz o u)) (tbls : ∀ b ps, H b = some (.tbl ps) → ∃ more, H' b = some (.tbl (ps ++ more)))
    (ns : ∀ m, s.heap.Ns X.env.locals m → h'.Ns X.env.locals m) (hok : HOk X.prog X.w H' h') (hg : AllBare g') :
    Inv X pins σ H' { s with heap := h', gens := g', drawn := d', toks := t' } := by
  have neL : ∀ b o, X.s₀.heap.get? b = some o → b ≠ X.env.locals := fun b o e => Nat.ne_of_lt (Nat.lt_of_lt_of_le (Heap.lt_size e) I.ok.above)
  have neC : ∀ b o, X.s₀.heap.get? b = some o → b ∉ X.ex → b ∉ ch := fun b o e hx hb => by
    rcases (hch b hb).1 with z | z
    · exact hx z
    · exact absurd (Nat.lt_of_lt_of_le (Heap.lt_size e) z) (Nat.lt_irrefl _)
  have cellK : ∀ x c, X.env.cells.lookup x = some c → ∀ v, s.heap.IsCell c v → h'.IsCell c v := fun x c e v ⟨o, ho, hd⟩ => by
    have nch : c ∉ ch := fun z => (hch c z).2.2.1 x c e rfl
    by_cases hc : c ∈ X.fs
    · obtain ⟨sl, q⟩ := slot c o (I.cne x c e) hc nch ho (I.freeC x c e)
      exact ⟨_, q, hd⟩
    · exact ⟨o, keep c o (I.cne x c e) hc nch ho (I.freeC x c e), hd⟩
  refine ⟨I.ok, I.os, hg, ⟨fun b o e n hb hx => ?_, fun b o e n hb hx => ?_, fun b o e n hx => ?_, fun b o e hx => ?_, fun b xs e => tups b xs (I.base.tups b xs e), fun b o xs e => frzs b o xs (I.base.frzs b o xs e), fun b ps e => ?_⟩, ?_, fun x c e => ?_, ?_, fun x c e => ?_, fun p hp => ?_, hok, I.len⟩
  · exact keep b o (neL b o e) hb (neC b o e hx) (I.base.keep b o e n hb hx) (I.base.free b o e n hx)
  · obtain ⟨sl, e1⟩ := I.base.slot b o e n hb hx
    obtain ⟨sl', e2⟩ := slot b _ (neL b o e) hb (neC b o e hx) e1 (I.base.free b o e n hx)
    exact ⟨sl', e2⟩
  · obtain ⟨o', e1⟩ := I.base.there b o e hx
    exact free b o' (neC b o e hx) e1 (I.base.free b o e n hx)
  · obtain ⟨o', e1⟩ := I.base.there b o e hx
    exact there b o' (neC b o e hx) e1
  · obtain ⟨m1, e1⟩ := I.base.tbls b ps e
    obtain ⟨m2, e2⟩ := tbls b _ e1
    exact ⟨m1 ++ m2, by rw [e2, Array.append_assoc]⟩
  · obtain ⟨m, hn, hl⟩ := I.loc
    refine ⟨m, ns m hn, fun i x v e1 e2 e3 => ?_⟩
    obtain ⟨u, r, l⟩ := hl i x v e1 e2 e3
    refine ⟨u, r, ?_⟩
    rcases l with l | ⟨k, c, e, z⟩
    · exact .inl l
    · exact .inr ⟨k, c, e, cellK x c e _ z⟩
  · obtain ⟨v, z⟩ := I.cell x c e
    exact ⟨v, cellK x c e v z⟩
  · obtain ⟨m, ⟨o, _, _, ho, _⟩, _⟩ := I.loc
    exact free _ o (fun z => (hch _ z).2.1 rfl) ho I.free
  · obtain ⟨v, o, ho, hd⟩ := I.cell x c e
    exact free c o (fun z => (hch c z).2.2.1 x c e rfl) ho (I.freeC x c e)
  · obtain ⟨e, n, ne, nf, d⟩ := I.pin p hp
    have nch : p.1 ∉ ch := fun z => (hch p.1 z).2.2.2 p hp rfl
    exact ⟨keep p.1 p.2 ne nf nch e n, free p.1 p.2 nch e n, ne, nf, d⟩
theorem Inv.un {t' : Nat} (I : Inv X pins σ H s) (u : Un X.fs [] H H' s.heap h') (hok : HOk X.prog X.w H' h') : Inv X pins σ H' { s with heap := h', toks := t' } := by
  obtain ⟨m, ⟨o, es, ep, ho, r⟩, _⟩ := id I.loc
  obtain ⟨sl, hL⟩ := u.any ho I.free (by simp)
  exact I.step (g' := s.gens) (d' := s.drawn) (ch := []) (fun _ z => nomatch z) (fun b o _ hb _ e n => u.keep b o e n hb (by simp)) (fun b o _ hb _ e n => u.slot b o e n hb (by simp)) (fun b o _ e n => u.free b o e n (by simp)) (fun b o _ e => u.there b o e (by simp)) u.tups u.frzs u.tbls (fun m' hm => by
    obtain ⟨o', es', ep', ho', r'⟩ := hm
    rw [ho] at ho'; cases ho'
    exact ⟨_, es', ep', hL, r'⟩) hok I.bare
theorem Inv.call {g' : Array GenState} {t' : Nat} {d' : Drawn} {ch : List Addr} (I : Inv X pins σ H s) (u : Un (frs X.stack) ch H H' s.heap h') (hok : HOk X.prog X.w H' h') (hg : AllBare g')
    (hch : ∀ b ∈ ch, (b ∈ X.ex ∨ X.s₀.heap.objs.size ≤ b) ∧ b ≠ X.env.locals ∧ (∀ x c, X.env.cells.lookup x = some c → c ≠ b) ∧ ∀ p ∈ X.pn ++ pins, p.1 ≠ b) :
    Inv X pins σ H' { s with heap := h', gens := g', drawn := d', toks := t' } := by
  obtain ⟨m, ⟨o, es, ep, ho, r⟩, _⟩ := id I.loc
  obtain ⟨sl, hL⟩ := u.any ho I.free fun z => (hch _ z).2.1 rfl
  exact I.step (ch := ch) hch (fun b o hL hb hc e n => u.keep b o e n (fun z => (List.mem_cons.mp (I.stkSub b z)).elim hL hb) hc) (fun b o _ _ hc e n => u.any e n hc) (fun b o hc e n => u.free b o e n hc) (fun b o hc e => u.there b o e hc) u.tups u.frzs u.tbls (fun m' hm => by
    obtain ⟨o', es', ep', ho', r'⟩ := hm
    rw [ho] at ho'; cases ho'
    exact ⟨_, es', ep', hL, r'⟩) hok hg
theorem Inv.turned {t' : Nat} {it : Addr} (I : Inv X pins σ H s) (k : ∀ b o, b ≠ it → s.heap.get? b = some o → h'.get? b = some o) (hn : H it = none) (hL : it ≠ X.env.locals)
    (h1 : it ∈ X.ex ∨ X.s₀.heap.objs.size ≤ it) (h2 : ∀ x c, X.env.cells.lookup x = some c → c ≠ it) (h3 : ∀ p ∈ X.pn ++ pins, p.1 ≠ it) : Inv X pins σ H { s with heap := h', toks := t' } := by
  have nit : ∀ b u, H b = some u → b ≠ it := fun b u e z => by rw [z, hn] at e; cases e
  refine I.step (g' := s.gens) (d' := s.drawn) (ch := [it]) (fun b hb => ?_) (fun b o _ _ hc e _ => k b o (fun z => hc (by simp [z])) e) (fun b o _ _ hc e _ => ⟨o.slots, k b o (fun z => hc (by simp [z])) e⟩) (fun _ _ _ _ n => n)
    (fun b o hc e => ⟨o, k b o (fun z => hc (by simp [z])) e⟩) (fun _ _ e => e) (fun _ _ _ e => e) (fun b ps e => ⟨#[], by rw [e]; simp⟩) (fun m hm => ?_) (fun b u e => ?_) I.bare
  · have e : b = it := by simpa using hb
    subst e
    exact ⟨h1, hL, h2, h3⟩
  · obtain ⟨o, es, ep, ho, r⟩ := hm
    exact ⟨o, es, ep, k _ o (Ne.symm hL) ho, r⟩
  · refine (I.hok b u e).stay (fun c v hc q => k c v ?_ q) (fun _ q => q) fun _ _ q => q
    rcases hc with z | z
    · rw [z]; exact nit b u e
    · exact nit c _ z
theorem Inv.tok (I : Inv X pins σ H s) (t : Nat) : Inv X pins σ H { s with toks := t } := I.un (h' := s.heap) (t' := t) Un.refl I.hok
theorem Inv.kept {t' : Nat} (I : Inv X pins σ H s) (k : ∀ b u, s.heap.get? b = some u → h'.get? b = some u) : Inv X pins σ H { s with heap := h', toks := t' } := I.un (Un.kept k) (I.hok.kept k)
theorem Inv.laid {a : Addr} {o : HO} {t' : Nat} (I : Inv X pins σ H s) (k : ∀ b u, s.heap.get? b = some u → h'.get? b = some u) (hp : s.heap.objs.size ≤ a) (new : ObjOk X.prog X.w (upd H a o) h' a o) :
    Inv X pins σ (upd H a o) { s with heap := h', toks := t' } := I.un (Un.laid k hp (I.hok.fresh hp)) (I.hok.laid k hp new)
theorem Inv.write {x e : Addr} {o : HO} {t' : Nat} (I : Inv X pins σ H s) (mu : Mut (H x)) (he : e = x ∨ H e = some (.own x)) (k : ∀ b u, b ≠ e → s.heap.get? b = some u → h'.get? b = some u) (heo : ∃ u, h'.get? e = some u)
    (new : ObjOk X.prog X.w (upd H x o) h' x o) : Inv X pins σ (upd H x o) { s with heap := h', toks := t' } := I.un (Un.write mu he k heo) (I.hok.write mu he k heo new)
theorem Inv.pins_of {pins' : List (Addr × Obj)} (I : Inv X pins σ H s) (h : ∀ p ∈ pins', s.heap.get? p.1 = some p.2 ∧ H p.1 = none ∧ p.1 ≠ X.env.locals ∧ p.1 ∉ X.fs ∧ ∀ v, p.2.data ≠ .cell v) : Inv X pins' σ H s :=
  ⟨I.ok, I.os, I.bare, I.base, I.loc, I.cell, I.free, I.freeC, fun p hp => (List.mem_append.mp hp).elim (fun z => I.pin p (List.mem_append_left _ z)) (h p), I.hok, I.len⟩

theorem nodup_ix {N : List Str} (hN : N.Nodup) {i j : Nat} {x : Str} (a : N[i]? = some x) (b : N[j]? = some x) : i = j := by
  obtain ⟨h1, e1⟩ := List.getElem?_eq_some_iff.mp a
  obtain ⟨h2, e2⟩ := List.getElem?_eq_some_iff.mp b
  exact (List.getElem_inj hN).mp (e1.trans e2.symm)

theorem store_ok2 {M : Model} {A : Around} {E : Value → Shared → Prop} {i : Nat} {x : Str} {v : V} {u : Value} {Q : Unit → Shared → Prop} (I : Inv X pins σ H s) (hN : X.N.Nodup) (hi : X.N[i]? = some x) (hx : Loc X.env.scope x) (r : RelV v u)
    (h : ∀ s', Inv X pins (σ.set i (some v)) H s' → (∃ a, Heap.SameBut a s.heap s'.heap ∧ (a = X.env.locals ∨ X.env.cells.lookup x = some a)) → Q () s') (hf : autoParam (X.fn x = true ∨ X.env.scope.names.lookup x = some .local) aT0._auto_1) : wpAny M A (storeName X.env x u) Q E s := by
  obtain ⟨m, hn, hl⟩ := id I.loc
  have hcls : (X.env.scope.kind == .class || (X.env.scope.kind == .module && X.env.locals != X.env.globals)) = false := by rw [I.ok.kind]; rfl
  have hiσ : i < σ.length := by rw [I.len]; exact (List.getElem?_eq_some_iff.mp hi).1
  have cne := I.cne
  have tracked : ∀ {a : Addr} {h' : Heap}, (∃ o, s.heap.get? a = some o ∧ H a = none) → Heap.SameBut a s.heap h' → HOk X.prog X.w H h' := fun {a h'} ha hs b ob e => by
    obtain ⟨_, _, hfree⟩ := ha
    refine (I.hok b ob e).stay (fun c w' hc q => (hs.2 c ?_).trans q) (fun _ q => q) fun _ _ q => q
    rintro rfl
    rcases hc with rfl | hc
    · rw [hfree] at e; cases e
    · rw [hfree] at hc; cases hc
  rcases hx with hk | hk
  · refine wpAny_storeName_local hk hn (fun h' hn' hs => ?_) hcls
    obtain ⟨oL, _, _, hoL, _⟩ := id hn
    refine h _ ⟨I.ok, I.os, I.bare, ⟨fun b o e n hb hx => ?_, fun b o e n hb hx => ?_, I.base.free, fun b o e hx => ?_, I.base.tups, I.base.frzs, I.base.tbls⟩, ⟨_, hn', fun j y v' e1 e2 e3 => ?_⟩, fun y c e => ?_, I.free, I.freeC, fun p hp => ?_, tracked ⟨oL, hoL, I.free⟩ hs, by simpa using I.len⟩ ⟨_, hs, .inl rfl⟩
    · exact (hs.2 b (Nat.ne_of_lt (Nat.lt_of_lt_of_le (Heap.lt_size e) I.ok.above))).trans (I.base.keep b o e n hb hx)
    · obtain ⟨sl, e1⟩ := I.base.slot b o e n hb hx
      exact ⟨sl, (hs.2 b (Nat.ne_of_lt (Nat.lt_of_lt_of_le (Heap.lt_size e) I.ok.above))).trans e1⟩
    · obtain ⟨o', e1⟩ := I.base.there b o e hx
      exact ⟨o', (hs.2 b (Nat.ne_of_lt (Nat.lt_of_lt_of_le (Heap.lt_size e) I.ok.above))).trans e1⟩
    · by_cases hj : j = i
      · subst hj
        rw [hi] at e1; cases e1
        rw [List.getElem?_set_self hiσ] at e2
        cases e2
        exact ⟨u, r, .inl ⟨hk, by simp⟩⟩
      · rw [List.getElem?_set_ne (Ne.symm hj)] at e2
        obtain ⟨u', r', q⟩ := hl j y v' e1 e2 e3
        refine ⟨u', r', ?_⟩
        rcases q with ⟨k, e⟩ | ⟨k, c, e, z⟩
        · refine .inl ⟨k, ?_⟩
          have : y ≠ x := fun e => hj (nodup_ix hN e1 (e ▸ hi))
          simp [this, e]
        · exact .inr ⟨k, c, e, z.sameBut hs (cne y c e)⟩
    · obtain ⟨w', z⟩ := I.cell y c e
      exact ⟨w', z.sameBut hs (cne y c e)⟩
    · obtain ⟨e, n, ne, nf, d⟩ := I.pin p hp
      exact ⟨(hs.2 p.1 ne).trans e, n, ne, nf, d⟩
  · have hfn : X.fn x = true := by
      rcases hf with z | z
      · exact z
      · rw [z] at hk; cases hk
    obtain ⟨c, hc⟩ := I.ok.has x (.inl hk)
    obtain ⟨w', z⟩ := I.cell x c hc
    refine wpAny_storeName_cell I.ok.kind hk hc z (fun h' hc' hs => ?_)
    obtain ⟨oc, hoc, hocd⟩ := id z
    refine h { s with heap := h' } ⟨I.ok, I.os, I.bare, ⟨fun b o e n hb hx => ?_, fun b o e n hb hx => ?_, I.base.free, fun b o e hx => ?_, I.base.tups, I.base.frzs, I.base.tbls⟩, ⟨m, hn.sameBut hs (Ne.symm (cne x c hc)), fun j y v' e1 e2 e3 => ?_⟩, fun y c' e => ?_, I.free, I.freeC, fun p hp => ?_, tracked ⟨oc, hoc, I.freeC x c hc⟩ hs, by simpa using I.len⟩ ⟨c, hs, .inr hc⟩
    · exact (hs.2 b (Nat.ne_of_lt (Nat.lt_of_lt_of_le (Heap.lt_size e) (I.ok.cab x c hfn hc)))).trans (I.base.keep b o e n hb hx)
    · obtain ⟨sl, e1⟩ := I.base.slot b o e n hb hx
      exact ⟨sl, (hs.2 b (Nat.ne_of_lt (Nat.lt_of_lt_of_le (Heap.lt_size e) (I.ok.cab x c hfn hc)))).trans e1⟩
    · obtain ⟨o', e1⟩ := I.base.there b o e hx
      exact ⟨o', (hs.2 b (Nat.ne_of_lt (Nat.lt_of_lt_of_le (Heap.lt_size e) (I.ok.cab x c hfn hc)))).trans e1⟩
    · by_cases hj : j = i
      · subst hj
        rw [hi] at e1; cases e1
        rw [List.getElem?_set_self hiσ] at e2
        cases e2
        exact ⟨u, r, .inr ⟨.inl hk, c, hc, hc'⟩⟩
      · rw [List.getElem?_set_ne (Ne.symm hj)] at e2
        obtain ⟨u', r', q⟩ := hl j y v' e1 e2 e3
        refine ⟨u', r', ?_⟩
        rcases q with q | ⟨k, c', e, z'⟩
        · exact .inl q
        · refine .inr ⟨k, c', e, z'.sameBut hs ?_⟩
          rintro rfl
          exact hj (nodup_ix hN e1 (I.ok.inj _ _ _ e hc ▸ hi))
    · by_cases hcc : c' = c
      · subst hcc; exact ⟨_, hc'⟩
      · obtain ⟨w2, z2⟩ := I.cell y c' e
        exact ⟨w2, z2.sameBut hs hcc⟩
    · obtain ⟨e, n, ne, nf, d⟩ := I.pin p hp
      refine ⟨(hs.2 p.1 ?_).trans e, n, ne, nf, d⟩
      intro q
      rw [q, hoc] at e
      have q' : oc = p.2 := Option.some.inj e
      exact d w' (by rw [← q']; exact hocd)
theorem store_ok {M : Model} {A : Around} {E : Value → Shared → Prop} {i : Nat} {x : Str} {v : V} {u : Value} {Q : Unit → Shared → Prop} (I : Inv X pins σ H s) (hN : X.N.Nodup) (hi : X.N[i]? = some x) (hx : Loc X.env.scope x) (r : RelV v u)
    (h : ∀ s', Inv X pins (σ.set i (some v)) H s' → Q () s') (hf : autoParam (X.fn x = true ∨ X.env.scope.names.lookup x = some .local) aT0._auto_1) : wpAny M A (storeName X.env x u) Q E s :=
  store_ok2 I hN hi hx r (fun s' I' _ => h s' I') hf
theorem Inv.call' {s' : Shared} {ch : List Addr} (I : Inv X pins σ H s) (ho : s'.os = s.os) (u : Un (frs X.stack) ch H H' s.heap s'.heap) (hok : HOk X.prog X.w H' s'.heap) (hg : AllBare s'.gens)
    (hch : ∀ b ∈ ch, (b ∈ X.ex ∨ X.s₀.heap.objs.size ≤ b) ∧ b ≠ X.env.locals ∧ (∀ x c, X.env.cells.lookup x = some c → c ≠ b) ∧ ∀ p ∈ X.pn ++ pins, p.1 ≠ b) : Inv X pins σ H' s' := by
  obtain ⟨h', g', d', t', o'⟩ := s'
  have e : o' = s.os := ho
  subst e
  exact I.call (g' := g') (t' := t') (d' := d') u hok hg hch
end

noncomputable abbrev XK := Value → Option Addr → Hp → Prop
noncomputable abbrev St := List (Option V)
noncomputable abbrev VK := V → Hp → Prop
noncomputable abbrev TE := St → Hp → VK → Prop
noncomputable abbrev TT := St → Hp → (Bool → Hp → Prop) → Prop
noncomputable abbrev TA := St → Hp → (List V → Hp → Prop) → Prop
structure Ends where
  nx : St → Hp → Prop
  rt : VK
  bk : St → Hp → Prop := fun _ _ => False
  ct : St → Hp → Prop := fun _ _ => False
noncomputable abbrev TS := Ends → St → Hp → Prop

noncomputable def EP (X : Cx) (pins : List (Addr × Obj)) (σ : St) (Q : VK) (u : Value) (s' : Shared) : Prop := ∃ v H', Inv X pins σ H' s' ∧ RelV v u ∧ Q v H'
noncomputable def TP (X : Cx) (pins : List (Addr × Obj)) (σ : St) (Q : Bool → Hp → Prop) (b : Bool) (s' : Shared) : Prop := ∃ H', Inv X pins σ H' s' ∧ Q b H'
noncomputable def AP (X : Cx) (pins : List (Addr × Obj)) (σ : St) (Q : List V → Hp → Prop) (us : List Value) (s' : Shared) : Prop := ∃ vs H', Inv X pins σ H' s' ∧ Vals vs us ∧ Q vs H'
noncomputable def SP (X : Cx) (pins : List (Addr × Obj)) (D : Ends) (f : Flow) (s' : Shared) : Prop :=
  match f with
  | .next => ∃ σ' H', Inv X pins σ' H' s' ∧ D.nx σ' H'
  | .brk => ∃ σ' H', Inv X pins σ' H' s' ∧ D.bk σ' H'
  | .cont => ∃ σ' H', Inv X pins σ' H' s' ∧ D.ct σ' H'
  | .ret u => ∃ v σ' H', Inv X pins σ' H' s' ∧ RelV v u ∧ D.rt v H'

noncomputable def PE (X : Cx) (e : Expr) (t : TE) : Prop :=
  ∀ (pins : List (Addr × Obj)) (s : Shared) (σ : St) (H : Hp) (Q : VK), Inv X pins σ H s → t σ H Q → wpAny (model X.prog X.w) X.A (eval e X.env) (EP X pins σ Q) X.xe s
noncomputable def PT (X : Cx) (e : Expr) (t : TT) : Prop :=
  ∀ (pins : List (Addr × Obj)) (s : Shared) (σ : St) (H : Hp) (Q : Bool → Hp → Prop), Inv X pins σ H s → t σ H Q → wpAny (model X.prog X.w) X.A (isTrue e X.env (eval e X.env)) (TP X pins σ Q) X.xe s
noncomputable def PW (X : Cx) (e : Expr) (t : TT) : Prop :=
  ∀ (whole : Sem Value) (pins : List (Addr × Obj)) (s : Shared) (σ : St) (H : Hp) (Q : Bool → Hp → Prop), Inv X pins σ H s → t σ H Q → wpAny (model X.prog X.w) X.A (isTrue e X.env whole) (TP X pins σ Q) X.xe s
theorem PW.pt {X : Cx} {e : Expr} {t : TT} (h : PW X e t) : PT X e t := h _
noncomputable def PA (X : Cx) (es : List Expr) (t : TA) : Prop :=
  ∀ (pos : Pos) (pins : List (Addr × Obj)) (s : Shared) (σ : St) (H : Hp) (Q : List V → Hp → Prop), Inv X pins σ H s → t σ H Q → wpAny (model X.prog X.w) X.A (spliced (backTo pos (starEach es X.env))) (AP X pins σ Q) X.xe s
noncomputable def PS (X : Cx) (st : Stmt) (t : TS) : Prop :=
  ∀ (pins : List (Addr × Obj)) (s : Shared) (σ : St) (H : Hp) (D : Ends), Inv X pins σ H s → t D σ H → wpAny (model X.prog X.w) X.A (exec st X.env) (SP X pins D) X.xe s
noncomputable def PSs (X : Cx) (st : List Stmt) (t : TS) : Prop :=
  ∀ (pins : List (Addr × Obj)) (s : Shared) (σ : St) (H : Hp) (D : Ends), Inv X pins σ H s → t D σ H → wpAny (model X.prog X.w) X.A (execs st X.env) (SP X pins D) X.xe s
theorem thn {α : Type} {t : Sem α} {Q Q' : α → Shared → Prop} {M : Model} {A : Around} {E : Value → Shared → Prop} {s : Shared} (h : wpAny M A t Q E s) (hQ : ∀ a s, Q a s → Q' a s) : wpAny M A t Q' E s := wpAny_mono h hQ fun _ _ x => x
end L2

namespace L2
open PySem PySem.Spec PyProof.Rows
section
variable {X : Cx}


noncomputable def tVar (i : Nat) : TE := fun σ H Q => ∃ v, σ[i]? = some (some v) ∧ Q v H
noncomputable def tC (v : V) : TE := fun _ H Q => Q v H
theorem pe_var {i : Nat} {x : Str} {pos : Pos} (hN : X.N[i]? = some x) (hv : Vis X.env.scope x) (hd : autoParam ((x == ("__debug__" : Str)) = false) aT1._auto_1) (hcd : autoParam ((x == ("__classdict__" : Str)) = false) aT1._auto_1) : PE X (.Name x pos) (tVar i) := by
  intro pins s σ H Q I h
  obtain ⟨v, e, h⟩ := h
  obtain ⟨m, hn, hl⟩ := I.loc
  obtain ⟨u, r, l⟩ := hl i x v hN e hv
  have fin : EP X pins σ Q u s := ⟨v, H, I, r, h⟩
  rcases l with ⟨hk, hm⟩ | ⟨hk, c, hc, hcell⟩
  · exact wpAny_Name (wpAny_loadName_local I.ok.kind hk hn hm fin) hd
  · rcases hk with hk | hk
    · exact wpAny_Name (wpAny_loadName_cell I.ok.kind hk hc hcell fin) hd
    · exact wpAny_Name (wpAny_loadName_free I.ok.kind hk hc hcell fin hcd) hd
theorem pe_int {i j pos} : PE X (.Constant (.int i) j pos) (tC (.int i)) := fun _ _ _ H _ I h => wpAny_Constant_int ⟨.int i, H, I.tok _, ⟨_, rfl⟩, h⟩
theorem pe_bl {b j pos} : PE X (.Constant (.bool b) j pos) (tC (.bl b)) := fun _ _ _ H _ I h => Constant_bool ⟨.bl b, H, I, rfl, h⟩
theorem pe_non {j pos} : PE X (.Constant .none j pos) (tC .non) := fun _ _ _ H _ I h => Constant_none ⟨.non, H, I, rfl, h⟩
theorem pe_str {x j pos} : PE X (.Constant (.str x) j pos) (tC (.str x)) := fun _ _ _ H _ I h => Calls.Constant_str ⟨.str x, H, I.tok _, ⟨_, rfl⟩, h⟩

noncomputable def Gl (X : Cx) (x : Str) : Prop := X.env.kindOf x = some .globalImplicit
theorem ld_glob {E : Value → Shared → Prop} {pins : List (Addr × Obj)} {s : Shared} {σ : St} {H : Hp} {x : Str} {u : Value} {pos : Pos} {Q : Value → Shared → Prop} (I : Inv X pins σ H s) (hg : Gl X x) (hm : X.mg x = some u) (h : Q u s)
    (hd : autoParam ((x == ("__debug__" : Str)) = false) aT1._auto_1) : wpAny (model X.prog X.w) X.A (eval (.Name x pos) X.env) Q E s :=
  Calls.Name_function_global I.ok.kind hg (Calls.loadGlobal_global (by rw [I.ok.glob]; exact I.mod.glob.keeps I.bk) hm h) hd
theorem ld_blt {E : Value → Shared → Prop} {pins : List (Addr × Obj)} {s : Shared} {σ : St} {H : Hp} {x : Str} {u : Value} {pos : Pos} {Q : Value → Shared → Prop} (I : Inv X pins σ H s) (hg : Gl X x) (hm : X.mg x = none) (hv : bootBuiltins x = some u) (h : Q u s)
    (hn : autoParam (x ≠ "__name__") aT1._auto_1) (hd : autoParam ((x == ("__debug__" : Str)) = false) aT1._auto_1) : wpAny (model X.prog X.w) X.A (eval (.Name x pos) X.env) Q E s := by
  obtain ⟨mb, h1, h2⟩ := I.mod.blt
  exact Calls.Name_function_global I.ok.kind hg (Calls.loadGlobal_builtin (by rw [I.ok.glob]; exact I.mod.glob.keeps I.bk) hm (by rw [I.ok.blt]; exact h1.keeps I.bk) ((h2 x hn).trans hv) h) hd
theorem pe_glob {x : Str} {v : V} {u : Value} {pos : Pos} (hg : Gl X x) (hm : X.mg x = some u) (r : RelV v u) (hd : autoParam ((x == ("__debug__" : Str)) = false) aT1._auto_1) : PE X (.Name x pos) (tC v) :=
  fun _ _ _ H _ I h => ld_glob I hg hm ⟨v, H, I, r, h⟩ hd
theorem pe_bltn {x : Str} {v : V} {u : Value} {pos : Pos} (hg : Gl X x) (hm : X.mg x = none) (hv : bootBuiltins x = some u) (r : RelV v u) (hn : autoParam (x ≠ "__name__") aT1._auto_1) (hd : autoParam ((x == ("__debug__" : Str)) = false) aT1._auto_1) : PE X (.Name x pos) (tC v) :=
  fun _ _ _ H _ I h => ld_blt I hg hm hv ⟨v, H, I, r, h⟩ hn hd

variable {a b : Expr} {ta tb : TE} {pos : Pos}

noncomputable def tB (t : TE) : TT := fun σ H Q => t σ H fun x H1 => ∃ c, x = .bl c ∧ Q c H1
theorem pt_val {e : Expr} {t : TE} (h : PE X e t) (he : ∀ whole, isTrue e X.env whole = (do let v ← whole; standAt e.pos; holding [v] (truthy v)) := by intro _; rfl) : PT X e (tB t) := by
  intro pins s σ H Q I hw
  refine isTrue_plain (thn (h pins s σ H _ I hw) fun v s1 hz9 => ?_) (he _)
  obtain ⟨x, H1, I1, r1, q1⟩ := hz9
  obtain ⟨d, rfl, q⟩ := q1
  cases r1
  exact wpAny_truthy_bool ⟨H1, I1, q⟩

variable {tA tB' : TT} {rest : List Expr}
noncomputable def tOr (t u : TT) : TT := fun σ H Q => t σ H fun c H1 => if c = true then Q true H1 else u σ H1 Q
noncomputable def tNot (t : TT) : TT := fun σ H Q => t σ H fun c H1 => Q (!c) H1
theorem pw_or1 (ha : PT X a tA) : PW X (.BoolOp .Or [a] pos) tA := by
  intro wh pins s σ H Q I h
  refine isTrue_or (thn (ha pins s σ H Q I h) fun c s1 e => ?_)
  cases c with
  | false => exact isTrue_or_nil e
  | true => exact e
theorem pw_or (ha : PT X a tA) (hb : PW X (.BoolOp .Or (b :: rest) pos) tB') : PW X (.BoolOp .Or (a :: b :: rest) pos) (tOr tA tB') := by
  intro wh pins s σ H Q I h
  refine isTrue_or (thn (ha pins s σ H _ I h) fun c s1 ⟨H1, I1, q1⟩ => ?_)
  cases c with
  | true => exact ⟨H1, I1, q1⟩
  | false => exact hb wh pins s1 σ H1 Q I1 q1
theorem pt_not (ha : PT X a tA) : PT X (.UnaryOp .Not a pos) (tNot tA) := by
  intro pins s σ H Q I h
  exact isTrue_not (ha pins s σ H (fun c H1 => Q (!c) H1) I h)
noncomputable def tAndV (ta tb : TE) : TE := fun σ H Q => ta σ H fun x H1 => ∃ c, x = .bl c ∧ if c = true then tb σ H1 Q else Q (.bl false) H1
noncomputable def tOrV (ta tb : TE) : TE := fun σ H Q => ta σ H fun x H1 => ∃ c, x = .bl c ∧ if c = true then Q (.bl true) H1 else tb σ H1 Q
noncomputable def tNotV (ta : TE) : TE := fun σ H Q => ta σ H fun x H1 => ∃ c, x = .bl c ∧ Q (.bl (!c)) H1
theorem pe_one {op} {t : TE} (h : PE X a t) : PE X (.BoolOp op [a] pos) t := fun pins s σ H Q I hw => BoolOp_one (h pins s σ H Q I hw)
theorem pe_and (ha : PE X a ta) (hb : PE X (.BoolOp .And (b :: rest) pos) tb) : PE X (.BoolOp .And (a :: b :: rest) pos) (tAndV ta tb) := by
  intro pins s σ H Q I h
  refine BoolOp_and (thn (ha pins s σ H _ I h) fun v s1 hz9 => ?_)
  obtain ⟨x, H1, I1, r1, q1⟩ := hz9
  obtain ⟨c, rfl, q1⟩ := q1
  cases r1
  refine wpAny_truthy_bool ?_
  cases c with
  | true => exact hb pins s1 σ H1 Q I1 q1
  | false => exact ⟨.bl false, H1, I1, rfl, q1⟩
theorem pe_or (ha : PE X a ta) (hb : PE X (.BoolOp .Or (b :: rest) pos) tb) : PE X (.BoolOp .Or (a :: b :: rest) pos) (tOrV ta tb) := by
  intro pins s σ H Q I h
  refine BoolOp_or (thn (ha pins s σ H _ I h) fun v s1 hz9 => ?_)
  obtain ⟨x, H1, I1, r1, q1⟩ := hz9
  obtain ⟨c, rfl, q1⟩ := q1
  cases r1
  refine wpAny_truthy_bool ?_
  cases c with
  | false => exact hb pins s1 σ H1 Q I1 q1
  | true => exact ⟨.bl true, H1, I1, rfl, q1⟩
theorem pe_not (ha : PE X a ta) : PE X (.UnaryOp .Not a pos) (tNotV ta) := by
  intro pins s σ H Q I h
  refine UnaryOp_ (thn (ha pins s σ H _ I h) fun v s1 hz9 => ?_)
  obtain ⟨x, H1, I1, r1, q1⟩ := hz9
  obtain ⟨c, rfl, q1⟩ := q1
  cases r1
  exact not_of (wpAny_truthy_bool ⟨.bl (!c), H1, I1, rfl, q1⟩)
noncomputable def tIf (t : TT) (ta tb : TE) : TE := fun σ H Q => t σ H fun c H1 => if c = true then ta σ H1 Q else tb σ H1 Q
theorem pe_ifExp {c : Expr} (hc : PT X c tA) (ha : PE X a ta) (hb : PE X b tb) : PE X (.IfExp c a b pos) (tIf tA ta tb) := by
  intro pins s σ H Q I h
  refine wpAny_IfExp (thn (hc pins s σ H _ I h) fun d s1 ⟨H1, I1, q1⟩ => ?_)
  cases d with
  | true => exact ha pins s1 σ H1 Q I1 q1
  | false => exact hb pins s1 σ H1 Q I1 q1
end
end L2

namespace L2
open PySem PySem.Spec PyProof.Rows

noncomputable def SqL (K : PySem.W.Frag) (H : Hp) (a : Addr) (xs : List V) : Prop :=
  Rd H a (.lst xs) ∨
    ∃ (o : Obj) (its : Array Value) (n : Nat), K.lookup a = some o ∧ o.cls = .type "list" ∧ o.dict = none ∧ o.data = .seq its n ∧ its.size ≤ sizeLine ∧ Vals xs its.toList
noncomputable def SqT (K : PySem.W.Frag) (H : Hp) (a : Addr) (xs : List V) : Prop :=
  Rd H a (.tup xs) ∨
    ∃ (o : Obj) (its : Array Value) (n : Nat), K.lookup a = some o ∧ o.cls = .type "tuple" ∧ o.data = .seq its n ∧ its.size ≤ sizeLine ∧ Vals xs its.toList
noncomputable def absV : Value → Option V
  | .none => some .non
  | .bool b => some (.bl b)
  | .int i _ => some (.int i)
  | .str x _ => some (.str x)
  | .bytes b _ => some (.byt b)
  | .float b _ => some (.flt b)
  | .ref a => some (.ref a)
  | .type n => some (.ty n)
  | _ => none
theorem RelV.abs {x : V} {u : Value} (r : RelV x u) : absV u = some x := by
  cases x with
  | non => cases r; rfl
  | bl _ => cases r; rfl
  | int _ => obtain ⟨t, rfl⟩ := r; rfl
  | str _ => obtain ⟨t, rfl⟩ := r; rfl
  | byt _ => obtain ⟨t, rfl⟩ := r; rfl
  | flt _ => obtain ⟨t, rfl⟩ := r; rfl
  | ref _ => cases r; rfl
  | ty _ => cases r; rfl
theorem RelV.inj {x y : V} {u : Value} (r : RelV x u) (q : RelV y u) : x = y := Option.some.inj (r.abs.symm.trans q.abs)
theorem Vals.inj : ∀ {xs ys : List V} {us : List Value}, Vals xs us → Vals ys us → xs = ys
  | _, _, _, .nil, .nil => rfl
  | _, _, _, .cons r t, .cons r' t' => by rw [r.inj r', Vals.inj t t']
section
variable {X : Cx} {pins : List (Addr × Obj)} {σ : St} {H : Hp} {s : Shared} {a : Addr} {xs ys : List V}
theorem SqL.of {K : PySem.W.Frag} (h : H a = some (.lst xs)) : SqL K H a xs := .inl (.inl h)
theorem SqT.of {K : PySem.W.Frag} (h : H a = some (.tup xs)) : SqT K H a xs := .inl (.inl h)
theorem Inv.list (I : Inv X pins σ H s) (h : SqL X.K H a xs) : ∃ its : List Value, Vals xs its ∧ PlainL s.heap a its.toArray ∧ xs.length ≤ sizeLine := by
  rcases h with h | ⟨o, its, n, hk, hc, hd, hs, hz, r⟩
  · obtain ⟨z, its, n, r, e⟩ := h.ok I.hok
    exact ⟨its, r, ⟨_, n, e, rfl, rfl, rfl⟩, z⟩
  · refine ⟨its.toList, r, ⟨o, n, I.kIn a o hk, hc, hd, by simpa using hs⟩, ?_⟩
    have e := r.length
    simp only [Array.length_toList] at e
    omega
theorem Inv.tuple (I : Inv X pins σ H s) (h : SqT X.K H a xs) : ∃ its : List Value, Vals xs its ∧ IsTup s.heap a its.toArray ∧ xs.length ≤ sizeLine := by
  rcases h with h | ⟨o, its, n, hk, hc, hs, hz, r⟩
  · obtain ⟨z, its, r, p⟩ := h.ok I.hok
    exact ⟨its, r, p, z⟩
  · refine ⟨its.toList, r, ⟨o, I.kIn a o hk, hc, n, by simpa using hs⟩, ?_⟩
    have e := r.length
    simp only [Array.length_toList] at e
    omega
theorem Inv.list_inj (I : Inv X pins σ H s) (h : SqL X.K H a xs) (h' : SqL X.K H a ys) : xs = ys := by
  obtain ⟨its, r, ⟨o, n, e, _, _, d⟩, _⟩ := I.list h
  obtain ⟨its', r', ⟨o', n', e', _, _, d'⟩, _⟩ := I.list h'
  rw [e] at e'; cases e'
  rw [d] at d'
  injection d' with d1 _
  have : its = its' := by simpa using congrArg Array.toList d1
  subst this
  exact r.inj r'
theorem Inv.tuple_inj (I : Inv X pins σ H s) (h : SqT X.K H a xs) (h' : SqT X.K H a ys) : xs = ys := by
  obtain ⟨its, r, ⟨o, e, _, n, d⟩, _⟩ := I.tuple h
  obtain ⟨its', r', ⟨o', e', _, n', d'⟩, _⟩ := I.tuple h'
  rw [e] at e'; cases e'
  rw [d] at d'
  injection d' with d1 _
  have : its = its' := by simpa using congrArg Array.toList d1
  subst this
  exact r.inj r'
end

noncomputable abbrev Cx.wish (X : Cx) (E : Value → Shared → Prop) : Cx := { X with xe := E }
noncomputable abbrev Cx.nox (X : Cx) : Cx := X.wish fun _ _ => False
theorem Cx.Ok.wish {X : Cx} (ok : X.Ok) (E : Value → Shared → Prop) : (X.wish E).Ok :=
  ⟨ok.mod, ok.kind, ok.glob, ok.blt, ok.above, ok.inj, ok.has, ok.cab, ok.hd, ok.frames, ok.stk, ok.exf, ok.bs, ok.bsz, ok.noex, ok.exfs, ok.funs, ok.frf⟩
theorem Cx.Ok.unwish {X : Cx} {E : Value → Shared → Prop} (ok : (X.wish E).Ok) : X.Ok :=
  ⟨ok.mod, ok.kind, ok.glob, ok.blt, ok.above, ok.inj, ok.has, ok.cab, ok.hd, ok.frames, ok.stk, ok.exf, ok.bs, ok.bsz, ok.noex, ok.exfs, ok.funs, ok.frf⟩
section
variable {X : Cx} {pins : List (Addr × Obj)} {σ : St} {H : Hp} {s : Shared} {E : Value → Shared → Prop}
theorem Inv.wish (I : Inv X pins σ H s) (E : Value → Shared → Prop) : Inv (X.wish E) pins σ H s := ⟨I.ok.wish E, I.os, I.bare, I.base, I.loc, I.cell, I.free, I.freeC, I.pin, I.hok, I.len⟩
theorem Inv.unwish (I : Inv (X.wish E) pins σ H s) : Inv X pins σ H s := ⟨I.ok.unwish, I.os, I.bare, I.base, I.loc, I.cell, I.free, I.freeC, I.pin, I.hok, I.len⟩
theorem SP.unwish {D : Ends} {f : Flow} {s' : Shared} (h : SP (X.wish E) pins D f s') : SP X pins D f s' := by
  cases f with
  | next => obtain ⟨σ', H', I, q⟩ := h; exact ⟨σ', H', I.unwish, q⟩
  | brk => obtain ⟨σ', H', I, q⟩ := h; exact ⟨σ', H', I.unwish, q⟩
  | cont => obtain ⟨σ', H', I, q⟩ := h; exact ⟨σ', H', I.unwish, q⟩
  | ret u => obtain ⟨v, σ', H', I, r, q⟩ := h; exact ⟨v, σ', H', I.unwish, r, q⟩
theorem PSs.nox {st : List Stmt} {t : TS} (h : PSs X.nox st t) : PSs X st t := fun pins s σ H D I hw =>
  wpAny_mono (h pins s σ H D (I.wish _) hw) (fun _ _ q => q.unwish) fun _ _ z => False.elim z
end

section
variable {X : Cx} {st : Stmt} {rest : List Stmt} {t u : TS} {e : Expr} {te : TE} {pos : Pos}
noncomputable def tNext : TS := fun D σ H => D.nx σ H
noncomputable def tSeq (t u : TS) : TS := fun D σ H => t { D with nx := u D } σ H
theorem pss_nil : PSs X [] tNext := fun _ _ σ H _ I h => wpAny_execs_nil ⟨σ, H, I, h⟩
theorem pss_cons (h1 : PS X st t) (h2 : PSs X rest u) : PSs X (st :: rest) (tSeq t u) := by
  intro pins s σ H D I h
  refine wpAny_execs_cons (thn (h1 pins s σ H { D with nx := u D } I h) fun f s1 q => ?_)
  cases f with
  | next =>
    obtain ⟨σ', H', I', q⟩ := q
    exact h2 pins s1 σ' H' D I' q
  | ret v => exact q
  | brk => exact q
  | cont => exact q
theorem pss_one (h1 : PS X st t) : PSs X [st] t := by
  intro pins s σ H D I h
  refine wpAny_execs_cons (thn (h1 pins s σ H D I h) fun f s1 q => ?_)
  cases f with
  | next => exact wpAny_execs_nil q
  | ret v => exact q
  | brk => exact q
  | cont => exact q
theorem Inv.quiet {pins : List (Addr × Obj)} {σ : St} {H : Hp} {s : Shared} (I : Inv X pins σ H s) : interactive X.env = false := by simp [interactive, I.ok.kind]
noncomputable def tDrop (te : TE) : TS := fun D σ H => te σ H fun _ H1 => D.nx σ H1
theorem ps_expr (he : PE X e te) (hs : autoParam (swapsWith e none pos.line X.env = pure false) aT2._auto_1) : PS X (.Expr e pos) (tDrop te) := by
  intro pins s σ H D I h
  exact wpAny_Expr_any (thn (he pins s σ H _ I h) fun v s1 ⟨x, H1, I1, r1, q1⟩ => ⟨σ, H1, I1, q1⟩) I.quiet hs
noncomputable def tRet (te : TE) : TS := fun D σ H => te σ H D.rt
theorem ps_ret (he : PE X e te) : PS X (.Return (some e) pos) (tRet te) := by
  intro pins s σ H D I h
  exact wpAny_Return_some (thn (he pins s σ H _ I h) fun v s1 ⟨x, H1, I1, r1, q1⟩ => ⟨x, σ, H1, I1, r1, q1⟩)
noncomputable def tIfS (c : TT) (t u : TS) : TS := fun D σ H => c σ H fun b H1 => if b = true then t D σ H1 else u D σ H1
theorem ps_if {c : Expr} {a b : List Stmt} {tc : TT} (hc : PT X c tc) (ha : PSs X a t) (hb : PSs X b u) : PS X (.If c a b pos) (tIfS tc t u) := by
  intro pins s σ H D I h
  refine wpAny_If (thn (hc pins s σ H _ I h) fun d s1 ⟨H1, I1, q1⟩ => ?_)
  cases d with
  | true => exact ha pins s1 σ H1 D I1 q1
  | false => exact hb pins s1 σ H1 D I1 q1
noncomputable def tNever : TS := fun _ _ _ => False
theorem ps_never : PS X st tNever := fun _ _ _ _ _ _ h => h.elim
end

noncomputable abbrev TG := V → St → Hp → (St → Hp → Prop) → Prop
noncomputable abbrev TGs := List V → St → Hp → (St → Hp → Prop) → Prop
noncomputable def PG (X : Cx) (target : Expr) (t : TG) : Prop :=
  ∀ (pins : List (Addr × Obj)) (s : Shared) (σ : St) (H : Hp) (v : V) (u : Value) (Q : St → Hp → Prop), Inv X pins σ H s → RelV v u → t v σ H Q →
    wpAny (model X.prog X.w) X.A (assign target X.env u) (fun _ s' => ∃ σ' H', Inv X pins σ' H' s' ∧ Q σ' H') X.xe s
noncomputable def PGs (X : Cx) (ts : List Expr) (t : TGs) : Prop :=
  ∀ (pins : List (Addr × Obj)) (s : Shared) (σ : St) (H : Hp) (vs : List V) (us : List Value) (Q : St → Hp → Prop), Inv X pins σ H s → Vals vs us → t vs σ H Q →
    wpAny (model X.prog X.w) X.A (assignInOrder ((assignEach ts X.env).map (·.2)) us) (fun _ s' => ∃ σ' H', Inv X pins σ' H' s' ∧ Q σ' H') X.xe s
noncomputable abbrev TSet := V → V → V → Hp → (Hp → Prop) → Prop
noncomputable def PSet (X : Cx) (t : TSet) : Prop :=
  ∀ (pins : List (Addr × Obj)) (s : Shared) (σ : St) (H : Hp) (o i v : V) (ov iv u : Value) (Q : Hp → Prop), Inv X pins σ H s → RelV o ov → RelV i iv → RelV v u → t o i v H Q →
    wpAny (model X.prog X.w) X.A (setItem ov iv u) (fun _ s' => ∃ H', Inv X pins σ H' s' ∧ Q H') X.xe s
section
variable {X : Cx} {pos : Pos}
noncomputable def gName (i : Nat) : TG := fun v σ H Q => Q (σ.set i (some v)) H
theorem pg_name {i : Nat} {x : Str} (hN : X.N.Nodup) (hi : X.N[i]? = some x) (hx : Loc X.env.scope x) (hf : autoParam (X.fn x = true ∨ X.env.scope.names.lookup x = some .local) aT0._auto_1) : PG X (.Name x pos) (gName i) := by
  intro pins s σ H v u Q I r h
  exact wpAny_assign_Name (store_ok I hN hi hx r (fun s' I' => ⟨_, H, I', h⟩) hf)
noncomputable def gNil : TGs := fun vs σ H Q => vs = [] ∧ Q σ H
noncomputable def gCons (t : TG) (u : TGs) : TGs := fun vs σ H Q => ∃ v r, vs = v :: r ∧ t v σ H fun σ' H' => u r σ' H' Q
theorem pgs_nil : PGs X [] gNil := by
  intro pins s σ H vs us Q I r h
  obtain ⟨e, h⟩ := h
  subst e
  cases r
  exact assignInOrder_nil ⟨σ, H, I, h⟩
theorem pgs_cons {e : Expr} {es : List Expr} {t : TG} {u : TGs} (h1 : PG X e t) (h2 : PGs X es u)
    (hs : autoParam ((assignEach (e :: es) X.env).map (·.2) = assign e X.env :: (assignEach es X.env).map (·.2)) aT2._auto_1) : PGs X (e :: es) (gCons t u) := by
  intro pins s σ H vs us Q I r h
  obtain ⟨v, vr, e1, h⟩ := h
  subst e1
  cases r with
  | cons r rr =>
    rw [hs]
    refine assignInOrder_cons (thn (h1 pins s σ H _ _ _ I r h) fun _ s1 hz9 => ?_)
    obtain ⟨σ1, H1, I1, q1⟩ := hz9
    exact h2 pins s1 σ1 H1 _ _ Q I1 rr q1
noncomputable def gTup (K : PySem.W.Frag) (n : Nat) (t : TGs) : TG := fun v σ H Q => ∃ a xs, v = .ref a ∧ SqT K H a xs ∧ xs.length = n ∧ t xs σ H Q
theorem pg_tup {es : List Expr} {k : Nat} {t : TGs} {n : Nat} (hc : X.calm = true) (h : PGs X es t)
    (hn : autoParam ((assignEach es X.env).length = n) aT2._auto_1) (hst : autoParam ((assignEach es X.env).findIdx? (·.1) = none) aT2._auto_1) : PG X (.Tuple es k pos) (gTup X.K n t) := by
  intro pins s σ H v u Q I r hw
  obtain ⟨a, xs, e1, hq, hl, hw⟩ := hw
  subst e1
  cases r
  obtain ⟨its, rv, ht, hz⟩ := I.tuple hq
  refine assign_Tuple_tuple (I.ok.hd hc) ht (by simp [hn, ← hl, rv.length]) hst fun h' hx => ?_
  have I1 : Inv X pins σ H { s with heap := h' } := I.kept (t' := s.toks) fun b o e => hx b o (Nat.ne_of_lt (Heap.lt_size e)) e
  exact h pins _ σ H xs _ Q I1 (by simpa using rv) hw
noncomputable def gSub (to ti : TE) (t : TSet) : TG := fun v σ H Q => to σ H fun o H1 => ti σ H1 fun i H2 => t o i v H2 fun H3 => Q σ H3
theorem pg_sub {o i : Expr} {to ti : TE} {t : TSet} (ho : PE X o to) (hi : PE X i ti) (hs : PSet X t)
    (ha : ∀ v, assign (.Subscript o i pos) X.env v = (do
      let ov ← holding [v] (eval o X.env)
      let iv ← holding [v, ov] (eval i X.env)
      standAt pos
      holding [v, ov, iv] (setItem ov iv v)
      release [v, ov, iv] []) := by intro _; rfl) : PG X (.Subscript o i pos) (gSub to ti t) := by
  intro pins s σ H v u Q I r h
  rw [ha]
  refine wpAny_bind (wpAny_holding (thn (ho pins s σ H _ I h) fun ov s1 hz9 => ?_))
  obtain ⟨x, H1, I1, r1, q1⟩ := hz9
  refine wpAny_bind (wpAny_holding (thn (hi pins s1 σ H1 _ I1 q1) fun iv s2 hz9 => ?_))
  obtain ⟨y, H2, I2, r2, q2⟩ := hz9
  refine wpAny_bind (wpAny_standAt (wpAny_bind (wpAny_holding (thn (hs pins s2 σ H2 x y v ov iv u _ I2 r1 r2 r q2) fun _ s3 ⟨H3, I3, q3⟩ => ?_))))
  exact wpAny_release ⟨σ, H3, I3, q3⟩
noncomputable def tAsg (te : TE) (g : TG) : TS := fun D σ H => te σ H fun x H1 => g x σ H1 D.nx
theorem ps_asg {tg e : Expr} {te : TE} {g : TG} (he : PE X e te) (hg : PG X tg g) (hs : autoParam (swapsWithSole [tg] e pos.line X.env = pure false) aT2._auto_1) (hw : autoParam (swappedStores [tg] e X.env = pure none) aT2._auto_1)
    (h1 : autoParam ((assignEach [tg] X.env).map (·.2) = [assign tg X.env]) aT2._auto_1) : PS X (.Assign [tg] e pos) (tAsg te g) := by
  intro pins s σ H D I h
  refine wpAny_Assign_stores (thn (he pins s σ H _ I h) fun v s1 hz9 => ?_) hs hw
  obtain ⟨x, H1, I1, r1, q1⟩ := hz9
  rw [h1]
  exact thn (hg pins s1 σ H1 x v _ I1 r1 q1) fun _ s2 q => q
theorem ps_set {i : Nat} {x : Str} {e : Expr} {te : TE} {pos' : Pos} (hN : X.N.Nodup) (hi : X.N[i]? = some x) (hx : Loc X.env.scope x) (he : PE X e te) (hs : autoParam (swapsWith e (some (.Name x pos')) pos.line X.env = pure false) aT2._auto_1) (hf : autoParam (X.fn x = true ∨ X.env.scope.names.lookup x = some .local) aT0._auto_1) :
    PS X (.Assign [.Name x pos'] e pos) (tAsg te (gName i)) := by
  intro pins s σ H D I h
  refine wpAny_Assign_Name (thn (he pins s σ H _ I h) fun v s1 hz9 => ?_) hs
  obtain ⟨y, H1, I1, r1, q1⟩ := hz9
  exact store_ok I1 hN hi hx r1 (fun s2 I2 => ⟨_, H1, I2, q1⟩) hf
end

section
variable {X : Cx} {pos : Pos}
end

structure It where
  go : Nat → Hp → Prop
  yld : Nat → Hp → V → Hp → Prop
  stop : Nat → Hp → Prop
noncomputable def FpOk (X : Cx) (pins : List (Addr × Obj)) (H : Hp) (b : Addr) : Prop :=
  H b = none ∧ b ≠ X.env.locals ∧ b ∉ X.fs ∧ (b ∈ X.ex ∨ X.s₀.heap.objs.size ≤ b) ∧ (∀ x c, X.env.cells.lookup x = some c → c ≠ b) ∧ ∀ p ∈ X.pn ++ pins, p.1 ≠ b
theorem Inv.fpOk {X : Cx} {pins : List (Addr × Obj)} {σ : St} {H H' : Hp} {s : Shared} {b : Addr} (I : Inv X pins σ H s) (hb : s.heap.objs.size ≤ b) (hn : H' b = none) : FpOk X pins H' b := by
  refine ⟨hn, Nat.ne_of_gt (Nat.lt_of_lt_of_le I.lt hb), I.nofs hb, .inr (Nat.le_trans I.sz hb), fun x c e z => ?_, fun p hp z => ?_⟩
  · obtain ⟨v, q⟩ := I.cell x c e
    exact absurd (Nat.lt_of_lt_of_le q.lt (by rw [z]; exact hb)) (Nat.lt_irrefl _)
  · exact absurd (Nat.lt_of_lt_of_le (Heap.lt_size (I.pin p hp).1) (by rw [z]; exact hb)) (Nat.lt_irrefl _)
structure Turn (P : Program) (w : World) (K : PySem.W.Frag) (tg : Expr) (J : It) (fp : List Addr) (it : Addr) (tn : Nat → Heap → Prop) : Prop where
  mem : it ∈ fp
  obj : ∀ i h, tn i h → ∀ b ∈ fp, ∃ o, h.get? b = some o ∧ ∀ v, o.data ≠ .cell v
  keep : ∀ i h h', tn i h → (∀ b ∈ fp, ∀ o, h.get? b = some o → h'.get? b = some o) → tn i h'
  item : ∀ (X : Cx), X.prog = P → X.w = w → X.K = K → X.calm = true → ∀ (i : Nat) (pins : List (Addr × Obj)) (s : Shared) (σ : St) (H : Hp) (E : Value → Shared → Prop), Inv X pins σ H s → (∀ b ∈ fp, FpOk X pins H b) → tn i s.heap → J.go i H →
    wpAny (model P w) X.A (pyNext (.ref it)) (fun r s1 => ∃ u, r = some u ∧
      wpAny (model P w) X.A (letOwnedTupleGo tg (.ref it) u) (fun _ s2 => ∃ x H', Inv X pins σ H' s2 ∧ RelV x u ∧ J.yld i H x H' ∧ tn (i + 1) s2.heap ∧ ∀ b ∈ fp, H' b = none) E s1) E s
  done : ∀ (X : Cx), X.prog = P → X.w = w → X.K = K → X.calm = true → ∀ (i : Nat) (pins : List (Addr × Obj)) (s : Shared) (σ : St) (H : Hp) (E : Value → Shared → Prop), Inv X pins σ H s → (∀ b ∈ fp, FpOk X pins H b) → tn i s.heap → J.stop i H →
    wpAny (model P w) X.A (pyNext (.ref it)) (fun r s1 => r = none ∧ Inv X pins σ H s1) E s
  self : ∀ (A : Around) (i : Nat) (s : Shared) (Q : Value → Shared → Prop) (E : Value → Shared → Prop), tn i s.heap → Q (.ref it) s → wpAny (model P w) A (pyIter (.ref it)) Q E s
noncomputable abbrev TI := St → Hp → (It → Hp → Prop) → Prop
noncomputable def PIE (X : Cx) (pins : List (Addr × Obj)) (σ : St) (tg : Expr) (R : It → Hp → Prop) (itv : Value) (s2 : Shared) : Prop :=
  ∃ (it : Addr) (fp : List Addr) (tn : Nat → Heap → Prop) (J : It) (H' : Hp), itv = .ref it ∧ Inv X pins σ H' s2 ∧ Turn X.prog X.w X.K tg J fp it tn ∧ tn 0 s2.heap ∧ (∀ b ∈ fp, FpOk X pins H' b) ∧ R J H'
noncomputable def PI (X : Cx) (tg iter : Expr) (wi : TI) : Prop :=
  ∀ (pins : List (Addr × Obj)) (s : Shared) (σ : St) (H : Hp) (R : It → Hp → Prop), Inv X pins σ H s → wi σ H R →
    wpAny (model X.prog X.w) X.A (eval iter X.env) (fun v s1 => wpAny (model X.prog X.w) X.A (pyIter v) (PIE X pins σ tg R) X.xe s1) X.xe s

theorem go_of {M : Model} {A : Around} {E : Value → Shared → Prop} {s : Shared} {tg : Expr} {it : Addr} {u : Value} {o : Obj} {n : String} {vs : Array Value} {Q : Unit → Shared → Prop} (ho : s.heap.get? it = some o) (hc : o.cls = .type n) (hd : o.data = .fields vs)
    (hn : ["enumerate", "zip", "dict_itemiterator", "dict_reverseitemiterator", "odict_iterator", "itertools.zip_longest", "itertools.pairwise"].contains n = false) (hQ : Q () s) : wpAny M A (letOwnedTupleGo tg (.ref it) u) Q E s := by
  unfold letOwnedTupleGo
  cases tg <;> first
    | exact wpAny_pure hQ
    | (cases u <;> first
        | exact wpAny_pure hQ
        | (refine wpAny_bind (wpAny_load ho ?_)
           rw [hc, hd]
           show wpAny M A (if (["enumerate", "zip", "dict_itemiterator", "dict_reverseitemiterator", "odict_iterator", "itertools.zip_longest", "itertools.pairwise"].contains n && vs[0]? == some (rawInt _)) = true then _ else _) Q E s
           rw [if_neg (by intro h; rw [hn, Bool.false_and] at h; cases h)]
           exact wpAny_pure hQ))

noncomputable def Itl (K : PySem.W.Frag) (a : Addr) : It :=
  ⟨fun i H => ∃ xs x, SqL K H a xs ∧ xs[i]? = some x, fun i H x H' => H' = H ∧ ∀ xs, SqL K H a xs → xs[i]? = some x, fun i H => ∃ xs, SqL K H a xs ∧ xs.length ≤ i⟩
noncomputable def Itt (K : PySem.W.Frag) (a : Addr) : It :=
  ⟨fun i H => ∃ xs x, SqT K H a xs ∧ xs[i]? = some x, fun i H x H' => H' = H ∧ ∀ xs, SqT K H a xs → xs[i]? = some x, fun i H => ∃ xs, SqT K H a xs ∧ xs.length ≤ i⟩
noncomputable def Itr (lo : Int) (n : Nat) : It := ⟨fun i _ => i < n, fun i H x H' => H' = H ∧ x = .int (lo + i), fun i _ => n ≤ i⟩
theorem turn_list {P : Program} {w : World} {K : PySem.W.Frag} {tg : Expr} (a it : Addr) : Turn P w K tg (Itl K a) [it] it (fun i h => h.IsListIter it a i) where
  mem := by simp
  obj := fun i h st b hb => by
    have e : b = it := by simpa using hb
    subst e
    obtain ⟨o, e, c, d⟩ := st
    exact ⟨o, e, fun v z => by rw [d] at z; cases z⟩
  keep := fun i h h' st k => st.at fun o e => k it (by simp) o e
  item := by
    intro X hP hw hK hc i pins s σ H E I hf st hg
    subst hP hw hK
    obtain ⟨xs, x, hq, hx⟩ := hg
    obtain ⟨its, rv, p, hz⟩ := I.list hq
    obtain ⟨u, hu, ru⟩ := rv.get hx
    obtain ⟨f0, f1, f2, f3, f4, f5⟩ := hf it (by simp)
    refine wpAny_pyNext_list_item st p.isList (x := u) (by simpa using hu) fun h' st' sb => ?_
    have I1 : Inv X pins σ H { s with heap := h' } := I.turned (t' := s.toks) (fun b o hb e => (sb.2 b hb).trans e) f0 f1 f3 f4 f5
    obtain ⟨o, e, c, d⟩ := id st'
    exact ⟨u, rfl, go_of (s := { s with heap := h' }) e c d (by decide) ⟨x, H, I1, ru, ⟨rfl, fun ys hy => by rw [I.list_inj hy hq]; exact hx⟩, st', fun b hb => (hf b hb).1⟩⟩
  done := by
    intro X hP hw hK hc i pins s σ H E I hf st hg
    subst hP hw hK
    obtain ⟨xs, hq, hx⟩ := hg
    obtain ⟨its, rv, p, hz⟩ := I.list hq
    obtain ⟨f0, f1, f2, f3, f4, f5⟩ := hf it (by simp)
    have hl := rv.length
    exact wpAny_pyNext_list_end (I.ok.hd hc) st p.isList (by simp; omega) fun h' eb => ⟨rfl, I.turned (t' := s.toks) (fun b o hb e => eb b o hb e) f0 f1 f3 f4 f5⟩
  self := fun _ _ _ _ _ st h => wpAny_pyIter_listiter st h
theorem turn_tuple {P : Program} {w : World} {K : PySem.W.Frag} {tg : Expr} (a it : Addr) : Turn P w K tg (Itt K a) [it] it (fun i h => h.IsTupleIter it a i) where
  mem := by simp
  obj := fun i h st b hb => by
    have e : b = it := by simpa using hb
    subst e
    obtain ⟨o, e, c, d⟩ := st
    exact ⟨o, e, fun v z => by rw [d] at z; cases z⟩
  keep := fun i h h' st k => st.at fun o e => k it (by simp) o e
  item := by
    intro X hP hw hK hc i pins s σ H E I hf st hg
    subst hP hw hK
    obtain ⟨xs, x, hq, hx⟩ := hg
    obtain ⟨its, rv, p, hz⟩ := I.tuple hq
    obtain ⟨u, hu, ru⟩ := rv.get hx
    obtain ⟨f0, f1, f2, f3, f4, f5⟩ := hf it (by simp)
    refine wpAny_pyNext_tuple_item st (show s.heap.IsTuple a its.toArray from p) (x := u) (by simpa using hu) fun h' st' sb => ?_
    have I1 : Inv X pins σ H { s with heap := h' } := I.turned (t' := s.toks) (fun b o hb e => (sb.2 b hb).trans e) f0 f1 f3 f4 f5
    obtain ⟨o, e, c, d⟩ := id st'
    exact ⟨u, rfl, go_of (s := { s with heap := h' }) e c d (by decide) ⟨x, H, I1, ru, ⟨rfl, fun ys hy => by rw [I.tuple_inj hy hq]; exact hx⟩, st', fun b hb => (hf b hb).1⟩⟩
  done := by
    intro X hP hw hK hc i pins s σ H E I hf st hg
    subst hP hw hK
    obtain ⟨xs, hq, hx⟩ := hg
    obtain ⟨its, rv, p, hz⟩ := I.tuple hq
    obtain ⟨f0, f1, f2, f3, f4, f5⟩ := hf it (by simp)
    have hl := rv.length
    exact wpAny_pyNext_tuple_end (I.ok.hd hc) st (show s.heap.IsTuple a its.toArray from p) (by simp; omega) fun h' eb => ⟨rfl, I.turned (t' := s.toks) (fun b o hb e => eb b o hb e) f0 f1 f3 f4 f5⟩
  self := fun _ _ _ _ _ st h => wpAny_pyIter_tupleiter st h
theorem turn_range {P : Program} {w : World} {K : PySem.W.Frag} {tg : Expr} (it : Addr) (lo : Int) (n : Nat) : Turn P w K tg (Itr lo n) [it] it (fun i h => IsRangeIter h it (lo + (i : Nat) * 1) ((n : Int) - (i : Nat)) 1) where
  mem := by simp
  obj := fun i h st b hb => by
    have e : b = it := by simpa using hb
    subst e
    exact ⟨_, st, fun v z => by
      have z' : Data.fields _ = Data.cell v := z
      cases z'⟩
  keep := fun i h h' st k => k it (by simp) _ st
  item := by
    intro X hP hw hK hc i pins s σ H E I hf st hg
    subst hP hw hK
    obtain ⟨f0, f1, f2, f3, f4, f5⟩ := hf it (by simp)
    have W := Walks.range (prog := X.prog) (w := X.w) (I.ok.hd hc) it lo 1 n
    refine W.item i s _ _ hg st fun v h' tk hv st' kk => ?_
    obtain ⟨t, rfl⟩ := hv
    have I1 : Inv X pins σ H { s with heap := h', toks := tk } := I.turned (fun b o hb e => kk b o (by simpa using hb) e) f0 f1 f3 f4 f5
    refine ⟨_, rfl, go_of (s := { s with heap := h', toks := tk }) (n := "range_iterator") st' rfl rfl (by decide) ⟨.int (lo + i), H, I1, ⟨t, ?_⟩, ⟨rfl, rfl⟩, st', fun b hb => (hf b hb).1⟩⟩
    rw [Int.mul_one]
  done := by
    intro X hP hw hK hc i pins s σ H E I hf st hg
    subst hP hw hK
    obtain ⟨f0, f1, f2, f3, f4, f5⟩ := hf it (by simp)
    exact wpAny_pyNext_range_end (I.ok.hd hc) st (by have : n ≤ i := hg; omega) fun h' eb => ⟨rfl, I.turned (t' := s.toks) (fun b o hb e => eb b o hb e) f0 f1 f3 f4 f5⟩
  self := fun _ _ _ _ _ st h => wpAny_pyIter_rangeiter st h
end L2

namespace L2
open PySem PySem.Spec PyProof.Rows
section
variable {X : Cx} {tg : Expr}
noncomputable def iList (K : PySem.W.Frag) (tl : TE) : TI := fun σ H R => tl σ H fun x H1 => ∃ a, x = .ref a ∧ (∃ xs, SqL K H1 a xs) ∧ R (Itl K a) H1
noncomputable def iTup (K : PySem.W.Frag) (tl : TE) : TI := fun σ H R => tl σ H fun x H1 => ∃ a, x = .ref a ∧ (∃ xs, SqT K H1 a xs) ∧ R (Itt K a) H1
theorem pi_list {l : Expr} {tl : TE} (hl : PE X l tl) : PI X tg l (iList X.K tl) := by
  intro pins s σ H R I h
  refine thn (hl pins s σ H _ I h) fun v s1 hz9 => ?_
  obtain ⟨x, H1, I1, r1, q1⟩ := hz9
  obtain ⟨a, e, ⟨xs, hq⟩, q⟩ := q1
  subst e
  cases r1
  obtain ⟨its, rv, p, hz⟩ := I1.list hq
  refine wpAny_pyIter_list p.isList ?_
  refine ⟨s1.heap.objs.size, [s1.heap.objs.size], _, _, H1, rfl, I1.kept (t' := s1.toks) fun b o e => Heap.get?_push_of_some _ e, turn_list a _, ⟨_, Heap.get?_push_size _ rfl, rfl, rfl⟩, fun b hb => ?_, q⟩
  have e : b = s1.heap.objs.size := by simpa using hb
  subst e
  exact I1.fpOk (Nat.le_refl _) (I1.hok.fresh (Nat.le_refl _))
theorem pi_tup {l : Expr} {tl : TE} (hl : PE X l tl) : PI X tg l (iTup X.K tl) := by
  intro pins s σ H R I h
  refine thn (hl pins s σ H _ I h) fun v s1 hz9 => ?_
  obtain ⟨x, H1, I1, r1, q1⟩ := hz9
  obtain ⟨a, e, ⟨xs, hq⟩, q⟩ := q1
  subst e
  cases r1
  obtain ⟨its, rv, p, hz⟩ := I1.tuple hq
  refine wpAny_pyIter_tuple (show s1.heap.IsTuple a its.toArray from p) ?_
  refine ⟨s1.heap.objs.size, [s1.heap.objs.size], _, _, H1, rfl, I1.kept (t' := s1.toks) fun b o e => Heap.get?_push_of_some _ e, turn_tuple a _, ⟨_, Heap.get?_push_size _ rfl, rfl, rfl⟩, fun b hb => ?_, q⟩
  have e : b = s1.heap.objs.size := by simpa using hb
  subst e
  exact I1.fpOk (Nat.le_refl _) (I1.hok.fresh (Nat.le_refl _))
theorem range_it {pins : List (Addr × Obj)} {σ : St} {H : Hp} {s : Shared} {R : It → Hp → Prop} {E : Value → Shared → Prop} {lo hi : Int} {t u v : Tok} {tk : Nat} (I : Inv X pins σ H s) (h1 : -(2 ^ 62) ≤ lo) (h2 : lo < 2 ^ 62) (h3 : -(2 ^ 62) ≤ hi) (h4 : hi < 2 ^ 62)
    (q : R (Itr lo (hi - lo).toNat) H) : wpAny (model X.prog X.w) X.A (pyIter (.ref s.heap.objs.size)) (PIE X pins σ tg R) E { s with heap := s.heap.push { cls := .type "range", data := .fields #[.int lo t, .int hi u, .int 1 v] }, toks := tk } := by
  refine wpAny_pyIter_range (IsRange.new ..) (small_one h1 h2 h3 h4) ?_
  have I1 : Inv X pins σ H { s with heap := s.heap.push { cls := .type "range", data := .fields #[.int lo t, .int hi u, .int 1 v] }, toks := tk } := I.kept fun b o e => Heap.get?_push_of_some _ e
  refine ⟨(s.heap.push { cls := .type "range", data := .fields #[.int lo t, .int hi u, .int 1 v] }).objs.size, [(s.heap.push { cls := .type "range", data := .fields #[.int lo t, .int hi u, .int 1 v] }).objs.size], _, _, H, rfl,
    I1.kept (t' := tk) fun b o e => Heap.get?_push_of_some _ e, turn_range _ lo (hi - lo).toNat, ?_, fun b hb => ?_, q⟩
  · have e1 : lo + ((0 : Nat) : Int) * 1 = lo := by simp
    have e2 : (((hi - lo).toNat : Nat) : Int) - ((0 : Nat) : Int) = Builtin.Range.rangeSize lo hi 1 := by rw [rangeSize_one]; split <;> omega
    show IsRangeIter _ _ (lo + ((0 : Nat) : Int) * 1) ((((hi - lo).toNat : Nat) : Int) - ((0 : Nat) : Int)) 1
    rw [e1, e2]
    exact Heap.get?_push_size _ rfl
  · have e : b = (s.heap.push { cls := .type "range", data := .fields #[.int lo t, .int hi u, .int 1 v] }).objs.size := by simpa using hb
    subst e
    exact I1.fpOk (Nat.le_refl _) (I1.hok.fresh (Nat.le_refl _))
noncomputable def iRng1 (ta : TA) : TI := fun σ H R => ta σ H fun vs H1 => ∃ j : Int, vs = [.int j] ∧ -(2 ^ 62) ≤ j ∧ j < 2 ^ 62 ∧ R (Itr 0 j.toNat) H1
theorem pi_range1 {a : Expr} {ta : TA} {p pos : Pos} (hg : Gl X "range") (hm : X.mg "range" = none) (ha : PA X [a] ta) (hs : autoParam (starEach [a] X.env = [(false, eval a X.env)]) aT2._auto_1) : PI X tg (.Call (.Name "range" p) [a] [] pos) (iRng1 ta) := by
  intro pins s σ H R I h
  refine Call_ (ld_blt I hg hm boot_range (PyProof.Rows.callWith_type1 (thn (ha pos pins s σ H _ I h) fun us s1 hz9 => ?_) hs rfl))
  obtain ⟨vs, H1, I1, r1, q1⟩ := hz9
  obtain ⟨j, e, q1, q2, q⟩ := q1
  subst e
  cases r1 with
  | cons r rr =>
    cases rr
    obtain ⟨t, rfl⟩ := r
    exact call_range_1 (range_it I1 (by omega) (by omega) q1 q2 (by simpa using q))

noncomputable def tFor (wi : TI) (g : TG) (tb : TS) : TS := fun D σ H => wi σ H fun J H1 => ∃ W : Nat → Nat → St → Hp → Prop, (∃ m, W 0 m σ H1) ∧ ∀ i m σ H, W i m σ H →
  (J.stop i H ∧ D.nx σ H) ∨ (J.go i H ∧ ∃ N : St → Hp → Prop, (∀ σ' H', N σ' H' → ∃ m', m' < m ∧ W (i + 1) m' σ' H') ∧ ∀ x H', J.yld i H x H' → g x σ H' fun σ2 H2 => tb { D with nx := N, ct := N, bk := D.nx } σ2 H2)
noncomputable def pinsAt (fp : List Addr) (h : Heap) : List (Addr × Obj) := fp.filterMap fun b => (h.get? b).map fun o => (b, o)
theorem mem_pinsAt {fp : List Addr} {h : Heap} {b : Addr} {o : Obj} (hb : b ∈ fp) (e : h.get? b = some o) : (b, o) ∈ pinsAt fp h := List.mem_filterMap.mpr ⟨b, hb, by rw [e]; rfl⟩
theorem of_pinsAt {fp : List Addr} {h : Heap} {p : Addr × Obj} (hp : p ∈ pinsAt fp h) : p.1 ∈ fp ∧ h.get? p.1 = some p.2 := by
  obtain ⟨b, hb, e⟩ := List.mem_filterMap.mp hp
  cases q : h.get? b with
  | none => rw [q] at e; cases e
  | some o =>
    rw [q] at e
    have e' : (b, o) = p := Option.some.inj e
    subst e'
    exact ⟨hb, q⟩
theorem Inv.pinned {pins : List (Addr × Obj)} {σ : St} {H : Hp} {s : Shared} {fp : List Addr} (I : Inv X pins σ H s) (hf : ∀ b ∈ fp, FpOk X pins H b) (ho : ∀ b ∈ fp, ∃ o, s.heap.get? b = some o ∧ ∀ v, o.data ≠ .cell v) : Inv X (pins ++ pinsAt fp s.heap) σ H s :=
  I.pins_of fun p hp => (List.mem_append.mp hp).elim (fun z => I.pin p (List.mem_append_right _ z)) fun z => by
    obtain ⟨hb, e⟩ := of_pinsAt z
    obtain ⟨f0, f1, f2, _⟩ := hf p.1 hb
    obtain ⟨o, e', d⟩ := ho p.1 hb
    rw [e] at e'; cases e'
    exact ⟨e, f0, f1, f2, d⟩
theorem Inv.unpinned {pins pl : List (Addr × Obj)} {σ : St} {H : Hp} {s : Shared} (I : Inv X (pins ++ pl) σ H s) : Inv X pins σ H s := I.pins_of fun p hp => I.pin p (List.mem_append_right _ (List.mem_append_left _ hp))
theorem ps_for {iter : Expr} {body : List Stmt} {wi : TI} {g : TG} {tb : TS} {pos : Pos} (hp : PassesOwn (model X.prog X.w) X.A X.env X.xe) (hc : X.calm = true) (hi : PI X tg iter wi) (hg : PG X tg g) (hb : PSs X body tb)
    (hs : ∀ x, foldedSetIterable iter X.env x = pure x := by intro _; rfl) : PS X (.For tg iter body [] pos) (tFor wi g tb) := by
  intro pins s σ H D I h
  refine wpAny_For (thn (hi pins s σ H _ I h) fun v s1 h1 => thn h1 fun itv s2 h2 => ?_) hs
  obtain ⟨it, fp, tn, J, H2, e, I2, T, st2, f2, W, ⟨m0, w0⟩, turn⟩ := h2
  subst e
  have stat : ∀ {H' : Hp}, (∀ b ∈ fp, H' b = none) → ∀ b ∈ fp, FpOk X pins H' b := fun hn b hb => ⟨hn b hb, (f2 b hb).2⟩
  refine codeAny_forLoop_any (fun n s' => ∃ i σ' H', Inv X pins σ' H' s' ∧ tn i s'.heap ∧ (∀ b ∈ fp, H' b = none) ∧ W i n σ' H') ?_ m0 ⟨0, σ, H2, I2, st2, fun b hb => (f2 b hb).1, w0⟩
  rintro n s3 ⟨i, σ3, H3, I3, st3, fr3, w3⟩
  rcases turn i n σ3 H3 w3 with ⟨stop, qn⟩ | ⟨go, N, hN, step⟩
  · refine wpAny_passesOwn hp (thn (T.done X rfl rfl rfl hc i pins s3 σ3 H3 X.xe I3 (stat fr3) st3 stop) fun r s4 ⟨hr, I4⟩ => ?_)
    subst hr
    exact wpAny_execs_nil ⟨σ3, H3, I4, qn⟩
  · refine wpAny_passesOwn hp (thn (T.item X rfl rfl rfl hc i pins s3 σ3 H3 X.xe I3 (stat fr3) st3 go) fun r s4 ⟨u, hr, h4⟩ => ?_)
    subst hr
    refine wpAny_passesOwn hp (thn h4 fun _ s5 hz9 => ?_)
    obtain ⟨x, H5, I5, r5, y5, st5, fr5⟩ := hz9
    have I5' := I5.pinned (stat fr5) (T.obj _ _ st5)
    refine wpAny_passesOwn hp (thn (hg _ s5 σ3 H5 x u _ I5' r5 (step x H5 y5)) fun _ s6 hz9 => ?_)
    obtain ⟨σ6, H6, I6, q6⟩ := hz9
    refine wpAny_passesOwn hp (thn (hb _ s6 σ6 H6 _ I6 q6) fun f s7 q7 => ?_)
    have again : ∀ {σ7 : St} {H7 : Hp}, Inv X (pins ++ pinsAt fp s5.heap) σ7 H7 s7 → N σ7 H7 → ∃ m, m < n ∧ ∃ i σ' H', Inv X pins σ' H' s7 ∧ tn i s7.heap ∧ (∀ b ∈ fp, H' b = none) ∧ W i m σ' H' := fun {σ7 H7} I7 n7 => by
      obtain ⟨m', hm, w7⟩ := hN σ7 H7 n7
      refine ⟨m', hm, i + 1, σ7, H7, I7.unpinned, T.keep _ _ _ st5 fun b hb o e => (I7.pin (b, o) (List.mem_append_right _ (List.mem_append_right _ (mem_pinsAt hb e)))).1, fun b hb => ?_, w7⟩
      obtain ⟨o, e, d⟩ := T.obj _ _ st5 b hb
      exact (I7.pin (b, o) (List.mem_append_right _ (List.mem_append_right _ (mem_pinsAt hb e)))).2.1
    cases f with
    | next => obtain ⟨σ7, H7, I7, n7⟩ := q7; exact again I7 n7
    | cont => obtain ⟨σ7, H7, I7, n7⟩ := q7; exact again I7 n7
    | brk => obtain ⟨σ7, H7, I7, q7⟩ := q7; exact ⟨σ7, H7, I7.unpinned, q7⟩
    | ret v => obtain ⟨x7, σ7, H7, I7, r7, q7⟩ := q7; exact ⟨x7, σ7, H7, I7.unpinned, r7, q7⟩
end

end L2

namespace L2
open PySem PySem.Spec PyProof.Rows

noncomputable abbrev R2 := V → V → Hp → VK → Prop
noncomputable def OpR (X : Cx) (f : Value → Value → Sem Value) (r : R2) : Prop :=
  ∀ (pins : List (Addr × Obj)) (s : Shared) (σ : St) (H : Hp) (x y : V) (v u : Value) (Q : VK), Inv X pins σ H s → RelV x v → RelV y u → r x y H Q →
    wpAny (model X.prog X.w) X.A (f v u) (EP X pins σ Q) X.xe s
noncomputable def UnR (X : Cx) (f : Value → Sem Value) (r : V → Hp → VK → Prop) : Prop :=
  ∀ (pins : List (Addr × Obj)) (s : Shared) (σ : St) (H : Hp) (x : V) (v : Value) (Q : VK), Inv X pins σ H s → RelV x v → r x H Q →
    wpAny (model X.prog X.w) X.A (f v) (EP X pins σ Q) X.xe s
noncomputable def CallR (X : Cx) (f : Value) (r : List V → Hp → VK → Prop) : Prop :=
  ∀ (pins : List (Addr × Obj)) (s : Shared) (σ : St) (H : Hp) (xs : List V) (us : List Value) (Q : VK), Inv X pins σ H s → Vals xs us → r xs H Q →
    wpAny (model X.prog X.w) X.A (call f us) (EP X pins σ Q) X.xe s

noncomputable def tOp (r : R2) (ta tb : TE) : TE := fun σ H Q => ta σ H fun x H1 => tb σ H1 fun y H2 => r x y H2 Q
noncomputable def tUn (r : V → Hp → VK → Prop) (ta : TE) : TE := fun σ H Q => ta σ H fun x H1 => r x H1 Q
noncomputable def rI (C : Int → Int → Prop) (g : Int → Int → V) : R2 := fun x y H Q => ∃ i j, x = .int i ∧ y = .int j ∧ C i j ∧ Q (g i j) H
noncomputable def rI0 (g : Int → Int → V) : R2 := fun x y H Q => ∃ i j, x = .int i ∧ y = .int j ∧ Q (g i j) H
noncomputable def rU (g : Int → V) : V → Hp → VK → Prop := fun x H Q => ∃ i, x = .int i ∧ Q (g i) H

section
variable {X : Cx} {a b c : Expr} {ta tb tc : TE} {pos : Pos}

theorem binT (ha : PE X a ta) (hb : PE X b tb) {pins : List (Addr × Obj)} {s : Shared} {σ : St} {H : Hp} {R : V → V → Hp → Prop} (I : Inv X pins σ H s)
    (h : ta σ H fun x H1 => tb σ H1 fun y H2 => R x y H2) {Q : Value → Shared → Prop} {f : Value → Value → Sem Value}
    (hf : ∀ v u s2 x y H2, Inv X pins σ H2 s2 → RelV x v → RelV y u → R x y H2 → wpAny (model X.prog X.w) X.A (f v u) Q X.xe s2) :
    wpAny (model X.prog X.w) X.A (eval a X.env) (fun v s₁ => wpAny (model X.prog X.w) X.A (eval b X.env) (fun u s₂ => wpAny (model X.prog X.w) X.A (f v u) Q X.xe s₂) X.xe s₁) X.xe s := by
  refine thn (ha pins s σ H _ I h) fun v s1 hz9 => ?_
  obtain ⟨x, H1, I1, r1, q1⟩ := hz9
  refine thn (hb pins s1 σ H1 _ I1 q1) fun u s2 hz9 => ?_
  obtain ⟨y, H2, I2, r2, q2⟩ := hz9
  exact hf v u s2 x y H2 I2 r1 r2 q2

theorem pe_op {op : Operator} {r : R2} (ho : OpR X (binaryOp op) r) (ha : PE X a ta) (hb : PE X b tb) : PE X (.BinOp a op b pos) (tOp r ta tb) := by
  intro pins s σ H Q I h
  exact wpAny_BinOp (binT ha hb I h fun v u s2 x y H2 I2 rx ry q => ho pins s2 σ H2 x y v u Q I2 rx ry q)
theorem pe_un {op : UnaryOp} {r : V → Hp → VK → Prop} (ho : UnR X (unaryOp op) r) (ha : PE X a ta) : PE X (.UnaryOp op a pos) (tUn r ta) := by
  intro pins s σ H Q I h
  exact UnaryOp_ (thn (ha pins s σ H _ I h) fun v s1 ⟨x, H1, I1, r1, q1⟩ => ho pins s1 σ H1 x v Q I1 r1 q1)

theorem opI {f : Value → Value → Sem Value} {C : Int → Int → Prop} {g : Int → Int → Int}
    (rule : ∀ (i j : Int) (t u : Tok) (s : Shared) (Q : Value → Shared → Prop) (E : Value → Shared → Prop), C i j → Q (.int (g i j) s.toks) { s with toks := s.toks + 1 } → wpAny (model X.prog X.w) X.A (f (.int i t) (.int j u)) Q E s) :
    OpR X f (rI C fun i j => .int (g i j)) := by
  intro pins s σ H x y v u Q I rx ry h
  obtain ⟨i, j, rfl, rfl, hc, q⟩ := h
  obtain ⟨t, rfl⟩ := rx
  obtain ⟨t', rfl⟩ := ry
  exact rule i j t t' s _ _ hc ⟨.int (g i j), H, I.tok _, ⟨_, rfl⟩, q⟩
theorem opI0 {f : Value → Value → Sem Value} {g : Int → Int → Int}
    (rule : ∀ (i j : Int) (t u : Tok) (s : Shared) (Q : Value → Shared → Prop) (E : Value → Shared → Prop), Q (.int (g i j) s.toks) { s with toks := s.toks + 1 } → wpAny (model X.prog X.w) X.A (f (.int i t) (.int j u)) Q E s) :
    OpR X f (rI0 fun i j => .int (g i j)) := by
  intro pins s σ H x y v u Q I rx ry h
  obtain ⟨i, j, rfl, rfl, q⟩ := h
  obtain ⟨t, rfl⟩ := rx
  obtain ⟨t', rfl⟩ := ry
  exact rule i j t t' s _ _ ⟨.int (g i j), H, I.tok _, ⟨_, rfl⟩, q⟩
theorem opB0 {f : Value → Value → Sem Value} {g : Int → Int → Bool}
    (rule : ∀ (i j : Int) (t u : Tok) (s : Shared) (Q : Value → Shared → Prop) (E : Value → Shared → Prop), Q (.bool (g i j)) s → wpAny (model X.prog X.w) X.A (f (.int i t) (.int j u)) Q E s) :
    OpR X f (rI0 fun i j => .bl (g i j)) := by
  intro pins s σ H x y v u Q I rx ry h
  obtain ⟨i, j, rfl, rfl, q⟩ := h
  obtain ⟨t, rfl⟩ := rx
  obtain ⟨t', rfl⟩ := ry
  exact rule i j t t' s _ _ ⟨.bl (g i j), H, I, rfl, q⟩

noncomputable def CPow (i j : Int) : Prop := 0 ≤ j ∧ j ≤ 1000000 ∧ i.natAbs < 2 ^ 64
noncomputable def CMul (i j : Int) : Prop := (-(2 ^ 64) < i ∧ i < 2 ^ 64) ∨ (-(2 ^ 64) < j ∧ j < 2 ^ 64)
theorem CMul.ok {i j : Int} (h : CMul i j) : IntMulOk i j := by
  rcases h with ⟨h1, h2⟩ | ⟨h1, h2⟩
  · exact .of_left (intBits_le_64 h1 h2)
  · exact .of_right (intBits_le_64 h1 h2)

theorem op_add : OpR X (binaryOp .Add) (rI0 fun i j => .int (i + j)) := opI0 fun _ _ _ _ _ _ _ q => add_int q
theorem op_sub : OpR X (binaryOp .Sub) (rI0 fun i j => .int (i - j)) := opI0 fun _ _ _ _ _ _ _ q => sub_int q
theorem op_mul : OpR X (binaryOp .Mult) (rI CMul fun i j => .int (i * j)) := opI fun _ _ _ _ _ _ _ hc q => mul_int q hc.ok
theorem op_mod : OpR X (binaryOp .Mod) (rI (fun _ j => 0 < j) fun i j => .int (i % j)) := opI fun i j _ _ _ _ _ hc q => by
  have h1 : (0 : Int) < j := hc
  exact mod_int' (by omega) (by rw [Int.fmod_eq_emod_of_nonneg i (by omega)]; exact q)
theorem op_pow : OpR X (binaryOp .Pow) (rI CPow fun i j => .int (i ^ j.toNat)) := opI fun _ _ _ _ _ _ _ hc q => pow_int_small hc.1 hc.2.1 hc.2.2 q


theorem unI {f : Value → Sem Value} {g : Int → Int}
    (rule : ∀ (i : Int) (t : Tok) (s : Shared) (Q : Value → Shared → Prop) (E : Value → Shared → Prop), Q (.int (g i) s.toks) { s with toks := s.toks + 1 } → wpAny (model X.prog X.w) X.A (f (.int i t)) Q E s) :
    UnR X f (rU fun i => .int (g i)) := by
  intro pins s σ H x v Q I rx h
  obtain ⟨i, rfl, q⟩ := h
  obtain ⟨t, rfl⟩ := rx
  exact rule i t s _ _ ⟨.int (g i), H, I.tok _, ⟨_, rfl⟩, q⟩
theorem un_neg : UnR X (unaryOp .USub) (rU fun i => .int (-i)) := unI fun _ _ _ _ _ q => neg_int q

end

noncomputable def scal : V → V → Bool
  | .non, .non => true | .non, .int _ => true | .int _, .non => true | .non, .bl _ => true | .bl _, .non => true | .non, .str _ => true | .str _, .non => true
  | .int _, .int _ => true | .bl _, .bl _ => true | .str _, .str _ => true | .byt _, .byt _ => true
  | .int _, .str _ => true | .str _, .int _ => true | .bl _, .str _ => true | .str _, .bl _ => true
  | _, _ => false
noncomputable def rEq : R2 := fun x y H Q => scal x y = true ∧ Q (.bl (decide (x = y))) H
noncomputable def rNe : R2 := fun x y H Q => scal x y = true ∧ Q (.bl (!decide (x = y))) H

theorem dec_int {i j : Int} : decide (V.int i = V.int j) = (i == j) := by
  rw [Bool.eq_iff_iff]
  simp
theorem dec_bl {i j : Bool} : decide (V.bl i = V.bl j) = (i == j) := by
  rw [Bool.eq_iff_iff]
  simp
theorem dec_str {i j : Str} : decide (V.str i = V.str j) = (i == j) := by
  rw [Bool.eq_iff_iff]
  simp
theorem dec_byt {i j : Array UInt8} : decide (V.byt i = V.byt j) = (i.toList == j.toList) := by
  rw [Bool.eq_iff_iff]
  cases i
  cases j
  simp

section
variable {X : Cx} {a b c : Expr} {ta tb tc : TE} {pos : Pos}
theorem fin_bl {pins : List (Addr × Obj)} {σ : St} {H : Hp} {s : Shared} {Q : VK} {k k' : Bool} (I : Inv X pins σ H s) (q : Q (.bl k) H) (e : k = k') : EP X pins σ Q (.bool k') s := by
  subst e
  exact ⟨.bl k, H, I, rfl, q⟩
theorem op_eq : OpR X (compareOp .Eq) rEq := by
  intro pins s σ H x y v u Q I rx ry h
  obtain ⟨hs, q⟩ := h
  cases x with
  | non =>
    cases rx
    cases y with
    | non => cases ry; exact PySem.EqNone.eq_none_none (fin_bl I q (by simp))
    | bl j => cases ry; exact PySem.EqNone.eq_none_bool (fin_bl I q (by simp))
    | int j => obtain ⟨t', rfl⟩ := ry; exact PySem.EqNone.eq_none_int (fin_bl I q (by simp))
    | str j => obtain ⟨t', rfl⟩ := ry; exact PySem.EqNone.eq_none_str (fin_bl I q (by simp))
    | _ => exact absurd (show false = true from hs) Bool.false_ne_true
  | bl i =>
    cases rx
    cases y with
    | non => cases ry; exact PySem.EqNone.eq_bool_none (fin_bl I q (by simp))
    | bl j => cases ry; exact eq_bool (fin_bl I q dec_bl)
    | str j => obtain ⟨t', rfl⟩ := ry; exact PySem.EqMixed.eq_bool_str (fin_bl I q (by simp))
    | _ => exact absurd (show false = true from hs) Bool.false_ne_true
  | int i =>
    obtain ⟨t, rfl⟩ := rx
    cases y with
    | non => cases ry; exact PySem.EqNone.eq_int_none (fin_bl I q (by simp))
    | int j => obtain ⟨t', rfl⟩ := ry; exact eq_int (fin_bl I q dec_int)
    | str j => obtain ⟨t', rfl⟩ := ry; exact PySem.EqMixed.eq_int_str (fin_bl I q (by simp))
    | _ => exact absurd (show false = true from hs) Bool.false_ne_true
  | str i =>
    obtain ⟨t, rfl⟩ := rx
    cases y with
    | non => cases ry; exact PySem.EqNone.eq_str_none (fin_bl I q (by simp))
    | bl j => cases ry; exact PySem.EqMixed.eq_str_bool (fin_bl I q (by simp))
    | int j => obtain ⟨t', rfl⟩ := ry; exact PySem.EqMixed.eq_str_int (fin_bl I q (by simp))
    | str j => obtain ⟨t', rfl⟩ := ry; exact eq_str (fin_bl I q dec_str)
    | _ => exact absurd (show false = true from hs) Bool.false_ne_true
  | byt i =>
    obtain ⟨t, rfl⟩ := rx
    cases y with
    | byt j => obtain ⟨t', rfl⟩ := ry; exact PySem.W.eq_bytes (fin_bl I q dec_byt)
    | _ => exact absurd (show false = true from hs) Bool.false_ne_true
  | _ => cases y <;> exact absurd (show false = true from hs) Bool.false_ne_true
theorem op_ne : OpR X (compareOp .NotEq) rNe := by
  intro pins s σ H x y v u Q I rx ry h
  obtain ⟨hs, q⟩ := h
  cases x with
  | non =>
    cases rx
    cases y with
    | non => cases ry; exact PySem.EqNone.ne_none_none (fin_bl I q (by simp))
    | bl j => cases ry; exact PySem.EqNone.ne_none_bool (fin_bl I q (by simp))
    | int j => obtain ⟨t', rfl⟩ := ry; exact PySem.EqNone.ne_none_int (fin_bl I q (by simp))
    | str j => obtain ⟨t', rfl⟩ := ry; exact PySem.EqNone.ne_none_str (fin_bl I q (by simp))
    | _ => exact absurd (show false = true from hs) Bool.false_ne_true
  | bl i =>
    cases rx
    cases y with
    | non => cases ry; exact PySem.EqNone.ne_bool_none (fin_bl I q (by simp))
    | bl j => cases ry; exact ne_bool (fin_bl I q (congrArg not dec_bl))
    | str j => obtain ⟨t', rfl⟩ := ry; exact PySem.EqMixed.ne_bool_str (fin_bl I q (by simp))
    | _ => exact absurd (show false = true from hs) Bool.false_ne_true
  | int i =>
    obtain ⟨t, rfl⟩ := rx
    cases y with
    | non => cases ry; exact PySem.EqNone.ne_int_none (fin_bl I q (by simp))
    | int j => obtain ⟨t', rfl⟩ := ry; exact ne_int (fin_bl I q (congrArg not dec_int))
    | str j => obtain ⟨t', rfl⟩ := ry; exact PySem.EqMixed.ne_int_str (fin_bl I q (by simp))
    | _ => exact absurd (show false = true from hs) Bool.false_ne_true
  | str i =>
    obtain ⟨t, rfl⟩ := rx
    cases y with
    | non => cases ry; exact PySem.EqNone.ne_str_none (fin_bl I q (by simp))
    | bl j => cases ry; exact PySem.EqMixed.ne_str_bool (fin_bl I q (by simp))
    | int j => obtain ⟨t', rfl⟩ := ry; exact PySem.EqMixed.ne_str_int (fin_bl I q (by simp))
    | str j => obtain ⟨t', rfl⟩ := ry; exact ne_str (fin_bl I q (congrArg not dec_str))
    | _ => exact absurd (show false = true from hs) Bool.false_ne_true
  | byt i =>
    obtain ⟨t, rfl⟩ := rx
    cases y with
    | byt j => obtain ⟨t', rfl⟩ := ry; exact PySem.W.ne_bytes (fin_bl I q (congrArg not dec_byt))
    | _ => exact absurd (show false = true from hs) Bool.false_ne_true
  | _ => cases y <;> exact absurd (show false = true from hs) Bool.false_ne_true

theorem op_lt : OpR X (compareOp .Lt) (rI0 fun i j => .bl (decide (i < j))) := opB0 fun _ _ _ _ _ _ _ q => lt_int q
theorem op_le : OpR X (compareOp .LtE) (rI0 fun i j => .bl (decide (i ≤ j))) := opB0 fun _ _ _ _ _ _ _ q => le_int q
theorem op_gt : OpR X (compareOp .Gt) (rI0 fun i j => .bl (decide (j < i))) := opB0 fun _ _ _ _ _ _ _ q => gt_int q
theorem op_ge : OpR X (compareOp .GtE) (rI0 fun i j => .bl (decide (j ≤ i))) := opB0 fun _ _ _ _ _ _ _ q => ge_int q

theorem op_notN : OpR X (compareOp .IsNot) (fun x y H Q => y = .non ∧ Q (.bl (!decide (x = .non))) H) := by
  intro pins s σ H x y v u Q I rx ry h
  obtain ⟨rfl, q⟩ := h
  cases ry
  refine isnot_none_gen (fin_bl I q ?_)
  cases x <;> first
    | (cases rx; rfl)
    | (obtain ⟨t, rfl⟩ := rx; rfl)


theorem OpR.or {f : Value → Value → Sem Value} {r r' : R2} (h : OpR X f r) (h' : OpR X f r') : OpR X f (fun x y H Q => r x y H Q ∨ r' x y H Q) := by
  intro pins s σ H x y v u Q I rx ry q
  rcases q with q | q
  · exact h pins s σ H x y v u Q I rx ry q
  · exact h' pins s σ H x y v u Q I rx ry q

theorem nomark (b : Expr) {op : CmpOp} (h : autoParam (op ≠ .In) aT1._auto_1) (h2 : autoParam (op ≠ .NotIn) aT1._auto_1) : behindInMarks op b = false := by
  have e1 : (op == CmpOp.In) = false := by cases op <;> first | rfl | exact absurd rfl h
  have e2 : (op == CmpOp.NotIn) = false := by cases op <;> first | rfl | exact absurd rfl h2
  cases b <;> simp [behindInMarks, e1, e2]
theorem pe_cmpR {op : CmpOp} {r : R2} (ho : OpR X (compareOp op) r) (ha : PE X a ta) (hb : PE X b tb) (hm : behindInMarks op b = false) : PE X (.Compare a [op] [b] pos) (tOp r ta tb) := by
  intro pins s σ H Q I h
  exact wpAny_Compare1 (binT ha hb I h fun v u s2 x y H2 I2 rx ry q => ho pins s2 σ H2 x y v u Q I2 rx ry q) hm
noncomputable def tTest (t : TE) : TT := fun σ H Q => t σ H fun x H' => ∃ k, x = .bl k ∧ Q k H'
theorem pt_cmpR {op : CmpOp} {r : R2} (ho : OpR X (compareOp op) r) (ha : PE X a ta) (hb : PE X b tb) (hm : behindInMarks op b = false) : PT X (.Compare a [op] [b] pos) (tTest (tOp r ta tb)) := by
  intro pins s σ H Q I h
  refine wpAny_isTrue_Compare1 (thn (ha pins s σ H _ I h) fun v s1 ⟨x, H1, I1, r1, q1⟩ => thn (hb pins s1 σ H1 _ I1 q1) fun u s2 ⟨y, H2, I2, r2, q2⟩ =>
    thn (ho pins s2 σ H2 x y v u _ I2 r1 r2 q2) fun c s3 ⟨z, H3, I3, r3, k, e, q3⟩ => ?_) hm
  subst e
  cases r3
  exact wpAny_truthy_bool ⟨H3, I3, q3⟩
noncomputable def tChain (r r' : R2) (ta tb tc : TE) : TE := fun σ H Q => ta σ H fun x H1 => tb σ H1 fun y H2 => r x y H2 fun z H3 => ∃ k, z = .bl k ∧
  (if k = true then tc σ H3 fun w' H4 => r' y w' H4 Q else Q (.bl false) H3)
theorem pe_chain {op op' : CmpOp} {r r' : R2} (ho : OpR X (compareOp op) r) (ho' : OpR X (compareOp op') r') (ha : PE X a ta) (hb : PE X b tb) (hc : PE X c tc)
    (hm : lastMarks [op, op'] [b, c] = false := by with_unfolding_all rfl) : PE X (.Compare a [op, op'] [b, c] pos) (tChain r r' ta tb tc) := by
  intro pins s σ H Q I h
  refine Compare_chain (thn (ha pins s σ H _ I h) fun v s1 ⟨x, H1, I1, r1, q1⟩ => chain_link (thn (hb pins s1 σ H1 _ I1 q1) fun u s2 ⟨y, H2, I2, r2, q2⟩ =>
    thn (ho pins s2 σ H2 x y v u _ I2 r1 r2 q2) fun d s3 ⟨z, H3, I3, r3, k, e, q3⟩ => ?_)) hm
  subst e
  cases r3
  refine wpAny_truthy_bool ?_
  cases k with
  | false => exact ite_ff ⟨.bl false, H3, I3, rfl, q3⟩
  | true => exact ite_tt (chain_last (thn (hc pins s3 σ H3 _ I3 q3) fun w' s4 ⟨z', H4, I4, r4, q4⟩ => ho' pins s4 σ H4 y z' u w' Q I4 r2 r4 q4))
theorem pt_chain {op op' : CmpOp} {r r' : R2} (ho : OpR X (compareOp op) r) (ho' : OpR X (compareOp op') r') (ha : PE X a ta) (hb : PE X b tb) (hc : PE X c tc)
    (hm : lastMarks [op, op'] [b, c] = false := by with_unfolding_all rfl) : PT X (.Compare a [op, op'] [b, c] pos) (tTest (tChain r r' ta tb tc)) := by
  intro pins s σ H Q I h
  refine isTrue_chain (thn (ha pins s σ H _ I h) fun v s1 ⟨x, H1, I1, r1, q1⟩ => test_link (thn (hb pins s1 σ H1 _ I1 q1) fun u s2 ⟨y, H2, I2, r2, q2⟩ =>
    thn (ho pins s2 σ H2 x y v u _ I2 r1 r2 q2) fun d s3 ⟨z, H3, I3, r3, k, e, q3⟩ => ?_)) hm
  subst e
  cases r3
  refine wpAny_truthy_bool ?_
  cases k with
  | false =>
    obtain ⟨k', e', q'⟩ := q3
    cases e'
    exact ite_ff ⟨H3, I3, q'⟩
  | true =>
    refine ite_tt (test_last (thn (hc pins s3 σ H3 _ I3 q3) fun w' s4 ⟨z', H4, I4, r4, q4⟩ => thn (ho' pins s4 σ H4 y z' u w' _ I4 r2 r4 q4) fun d' s5 ⟨z2, H5, I5, r5, k2, e2, q5⟩ => ?_))
    subst e2
    cases r5
    exact wpAny_truthy_bool ⟨H5, I5, q5⟩

theorem line63 : (sizeLine : Nat) < 2 ^ 63 := by rw [sizeLine_eq]; decide

theorem op_add_str : OpR X (binaryOp .Add) (fun x y H Q => ∃ i j, x = .str i ∧ y = .str j ∧ i.length + j.length ≤ sizeLine ∧ Q (.str (i ++ j)) H) := by
  intro pins s σ H x y v u Q I rx ry h
  obtain ⟨i, j, rfl, rfl, hz, q⟩ := h
  obtain ⟨t, rfl⟩ := rx
  obtain ⟨t', rfl⟩ := ry
  exact add_str (fun t' tk => ⟨.str (i ++ j), H, I.tok _, ⟨_, rfl⟩, q⟩) hz


theorem vals1 {x : V} {us : List Value} (r : Vals [x] us) : ∃ u, us = [u] ∧ RelV x u := by
  cases r with
  | cons r1 r2 => cases r2; exact ⟨_, rfl, r1⟩
theorem vals2 {x y : V} {us : List Value} (r : Vals [x, y] us) : ∃ u w', us = [u, w'] ∧ RelV x u ∧ RelV y w' := by
  cases r with
  | cons r1 r2 =>
    cases r2 with
    | cons r3 r4 => cases r4; exact ⟨_, _, rfl, r1, r3⟩
theorem call_min2 (hc : X.calm = true) : CallR X (.builtin "min") (fun xs H Q => ∃ i j, xs = [.int i, .int j] ∧ Q (.int (if j < i then j else i)) H) := by
  intro pins s σ H xs us Q I r h
  obtain ⟨i, j, rfl, q⟩ := h
  obtain ⟨u, w', rfl, ⟨t, rfl⟩, ⟨t', rfl⟩⟩ := vals2 r
  refine min_two_ints (I.ok.hd hc) fun h' tk k => ⟨_, H, I.kept k, ?_, q⟩
  by_cases hj : j < i
  · rw [if_pos hj, if_pos hj]; exact ⟨_, rfl⟩
  · rw [if_neg hj, if_neg hj]; exact ⟨_, rfl⟩
end
end L2

namespace L2
open PySem PySem.Spec PyProof.Rows

structure ObjM (h : Heap) (x dx C : Addr) (mA : Str → Option Value) : Prop where
  obj : h.get? x = some (PySem.W.instObj C dx)
  ns : h.Ns1 dx mA
  ne : dx ≠ x

theorem lookIn_ns {h : Heap} {dx : Addr} {mA : Str → Option Value} (n : h.Ns1 dx mA) : ∃ od, h.get? dx = some od ∧ ∀ name, PySem.W.lookIn name od = some (mA name) := by
  obtain ⟨o, es, ep, ho, hd, hk, _, hm⟩ := n
  refine ⟨o, ho, fun name => ?_⟩
  have e := hm name
  unfold nsFind findBy at e
  rw [← Array.find?_toList] at e
  unfold PySem.W.lookIn
  rw [hd]
  dsimp only
  split
  · rename_i y q
    rw [q] at e
    exact congrArg some e
  · rename_i q
    rw [q] at e
    have a : es.toList.any (·.refKey) = false := by
      rw [List.any_eq_false]
      intro y hy
      obtain ⟨z, t, hkey⟩ := hk y (Array.mem_toList_iff.mp hy)
      simp [DictEntry.refKey, hkey]
    have a' : ¬ es.toList.any (·.refKey) = true := by rw [a]; exact Bool.false_ne_true
    rw [if_neg a']
    exact congrArg some e

theorem ObjM.look {h : Heap} {x dx C : Addr} {mA : Str → Option Value} (I : ObjM h x dx C mA) : ∃ od, PySem.W.InstAt h x (PySem.W.instObj C dx) C (some od) ∧ ∀ name, PySem.W.lookIn name od = some (mA name) :=
  let ⟨od, ho, hl⟩ := lookIn_ns I.ns
  ⟨od, ⟨I.obj, rfl, rfl, ho⟩, hl⟩

section
variable {prog : Program} {w : World} {A : Around} {E : Value → Shared → Prop} {s : Shared} {K : PySem.W.Frag} {x dx C f : Addr} {mA : Str → Option Value} {name : Str} {v : Value}





end

noncomputable def putF (f : Str) (v : V) : List (Str × V) → List (Str × V)
  | [] => [(f, v)]
  | (g, x) :: r => if g = f then (g, v) :: r else (g, x) :: putF f v r


section
variable {P : Program} {w : World} {H H' : Hp} {h h' : Heap} {a C dx : Addr} {fs fs' : List (Str × V)}
theorem ins_get (hok : HOk P w H h) (e : H a = some (.ins C dx fs)) : ∃ mA, ObjM h a dx C mA ∧ (∀ f, RelO (fs.lookup f) (mA f)) ∧ PySem.Within mA (fs.map (·.1)) ∧ fs.length ≤ 1000 ∧ H dx = some (.own a) := by
  obtain ⟨d, z, ne, ob, mA, n, r, q⟩ := (show ObjOk P w H h a (.ins C dx fs) from hok a _ e)
  exact ⟨mA, ⟨ob, n, ne⟩, r, q, z, d⟩
end

structure Cls (K : PySem.W.Frag) (C : Addr) : Prop where
  pg : PySem.W.plainGet K C Str.empty = true
  hd : PySem.W.hasDictIn K C = true
  po : PySem.W.plainOver K C = true
  sa : PySem.W.findIn K (.ref C) "__setattr__" = some (some (.builtin "object.__setattr__"))
theorem Cls.get {K : PySem.W.Frag} {C : Addr} (c : Cls K C) (f : Str) : PySem.W.plainGet K C f = true := c.pg
noncomputable def NoAttr (K : PySem.W.Frag) (C : Addr) (f : Str) : Prop := PySem.W.findIn K (.ref C) f = some none
structure Con (K : PySem.W.Frag) (C : Addr) (f : Str) (v : V) (u : Value) : Prop where
  at_ : PySem.W.findIn K (.ref C) f = some (some u)
  rel : RelV v u
  get : PySem.W.specialIn K u "__get__" = some none
  cp : PySem.W.copiedNames.contains f = false
structure Meth (K : PySem.W.Frag) (C : Addr) (m : Str) (f : Addr) : Prop where
  at_ : PySem.W.findIn K (.ref C) m = some (some (.ref f))
  fn : PySem.W.isFn K (.ref f) = true
  kp : PySem.W.keepIn K (.ref f) = true

section
variable {X : Cx} {pins : List (Addr × Obj)} {σ : St} {H : Hp} {s : Shared} {a C dx : Addr} {fs : List (Str × V)} {f : Str} {v : V} {A : Around} {E : Value → Shared → Prop}






end

noncomputable def sFld (K : PySem.W.Frag) (ta tv : TE) (f : Str) : TS := fun D σ H => tv σ H fun y H1 => ta σ H1 fun x H2 => ∃ a C dx fs, x = .ref a ∧ H2 a = some (.ins C dx fs) ∧ Cls K C ∧ NoAttr K C f ∧ fs.length < 1000 ∧
  D.nx σ (upd H2 a (.ins C dx (putF f y fs)))

section
variable {X : Cx} {o e value : Expr} {f : Str} {pos pos' tpos : Pos} {ta tv : TE}

end

section
variable {X : Cx} {pins : List (Addr × Obj)} {σ : St} {H : Hp} {s : Shared} {A : Around} {E : Value → Shared → Prop} {Q : Value → Shared → Prop} {c : Value} {b : Bool}
inductive TyOf (K : PySem.W.Frag) (H : Hp) : V → Value → Prop where
  | non : TyOf K H .non (.type "NoneType")
  | bl (x : Bool) : TyOf K H (.bl x) (.type "bool")
  | int (i : Int) : TyOf K H (.int i) (.type "int")
  | str (x : Str) : TyOf K H (.str x) (.type "str")
  | flt (x : UInt64) : TyOf K H (.flt x) (.type "float")
  | lst {a : Addr} {xs : List V} (e : H a = some (.lst xs)) : TyOf K H (.ref a) (.type "list")
  | frz {a : Addr} {o : Obj} {xs : List V} (e : H a = some (.frz o (.lst xs))) : TyOf K H (.ref a) (.type "list")
  | tup {a : Addr} {xs : List V} (e : H a = some (.tup xs)) : TyOf K H (.ref a) (.type "tuple")
  | dK {a : Addr} {kvs : List (Key × V)} (e : H a = some (.dK kvs)) : TyOf K H (.ref a) (.type "dict")
  | dT {a : Addr} {kvs : List (List Key × V)} (e : H a = some (.dT kvs)) : TyOf K H (.ref a) (.type "dict")
  | ins {a C dx : Addr} {fs : List (Str × V)} (e : H a = some (.ins C dx fs)) (cl : Cls K C) (ha : PySem.W.findIn K (.ref C) "__class__" = some (some (.builtin "object.__class__")))
      (hn : PySem.W.specialIn K (.builtin "object.__class__") "__get__" = some (some (.builtin "getset_descriptor.__get__"))) (htk : PySem.W.takesIn K (.builtin "object.__class__") = some true)
      (hm : PySem.W.mroIn K C (.type "object") = some true) : TyOf K H (.ref a) (.ref C)
theorem isinst_ok {x : V} {u t : Value} (I : Inv X pins σ H s) (rx : RelV x u) (ty : TyOf X.K H x t) (e : PySem.W.kitOne X.K t c = some b) (h : ∀ tk, Q (.bool b) { s with toks := tk }) :
    wpAny (model X.prog X.w) A (call (.builtin "isinstance") [u, c]) Q E s := by
  cases ty with
  | non => cases (show u = Value.none from rx); exact PySem.W.kia_one PySem.W.kitx_none I.kIn True.intro e (fun z => nomatch z) h
  | bl y => cases (show u = Value.bool y from rx); exact PySem.W.kia_one PySem.W.kitx_bool I.kIn True.intro e (fun z => nomatch z) h
  | int i => obtain ⟨t, q⟩ := (show ∃ t, u = Value.int i t from rx); cases q; exact PySem.W.kia_one PySem.W.kitx_int I.kIn True.intro e (fun z => nomatch z) h
  | str y => obtain ⟨t, q⟩ := (show ∃ t, u = Value.str y t from rx); cases q; exact PySem.W.kia_one PySem.W.kitx_str I.kIn True.intro e (fun z => nomatch z) h
  | flt y => obtain ⟨t, q⟩ := (show ∃ t, u = Value.float y t from rx); cases q; exact PySem.W.kia_one PySem.W.kitx_float I.kIn True.intro e (fun z => nomatch z) h
  | @lst a xs ea =>
    cases (show u = Value.ref a from rx)
    obtain ⟨_, _, n, _, h1⟩ := (show ObjOk X.prog X.w H s.heap a (.lst xs) from I.hok a _ ea)
    exact PySem.W.kia_one PySem.W.kitx_list I.kIn ⟨_, h1, rfl⟩ e (fun z => nomatch z) h
  | @frz a ob xs ea =>
    cases (show u = Value.ref a from rx)
    obtain ⟨_, _, _, n, _, h1⟩ := (show ObjOk X.prog X.w H s.heap a (.frz ob (.lst xs)) from I.hok a _ ea)
    exact PySem.W.kia_one PySem.W.kitx_list I.kIn ⟨_, h1, rfl⟩ e (fun z => nomatch z) h
  | @tup a xs ea =>
    cases (show u = Value.ref a from rx)
    obtain ⟨_, _, _, p⟩ := (show ObjOk X.prog X.w H s.heap a (.tup xs) from I.hok a _ ea)
    obtain ⟨o, h1, h2, _⟩ := p
    exact PySem.W.kia_one PySem.W.kitx_tuple I.kIn ⟨o, h1, h2⟩ e (fun z => nomatch z) h
  | @dK a kvs ea =>
    cases (show u = Value.ref a from rx)
    obtain ⟨_, _, vs, _, p⟩ := (show ObjOk X.prog X.w H s.heap a (.dK kvs) from I.hok a _ ea)
    obtain ⟨o, es, ep, h1, h2, _⟩ := p
    exact PySem.W.kia_one PySem.W.kitx_dict I.kIn ⟨o, h1, h2.1⟩ e (fun z => nomatch z) h
  | @dT a kvs ea =>
    cases (show u = Value.ref a from rx)
    obtain ⟨_, _, xs, _, o, es, ep, h1, h2, _⟩ := (show ObjOk X.prog X.w H s.heap a (.dT kvs) from I.hok a _ ea)
    exact PySem.W.kia_one PySem.W.kitx_dict I.kIn ⟨o, h1, h2.1⟩ e (fun z => nomatch z) h
  | @ins a C dx fs ea cl ha hn htk hm =>
    cases (show u = Value.ref a from rx)
    obtain ⟨mA, O, _⟩ := ins_get I.hok ea
    obtain ⟨od, J, _⟩ := O.look
    exact PySem.W.kia_one (PySem.W.kitx_own (cl.get _) cl.hd ha hn htk hm) I.kIn J e (fun z => nomatch z) h
end
end L2

namespace L2
open PySem PySem.Spec PyProof.Rows

structure Room (k : Nat) (A : Around) : Prop where
  hd : A.handled = none
  dp : A.depth + 3 * k + 5 < recursionLimit
  un : A.units + 16 * k + 200 < cLine
  gd : A.guards = some []
theorem Room.mono {j k : Nat} {A : Around} (r : Room k A) (h : j ≤ k) : Room j A := ⟨r.hd, by have := r.dp; omega, by have := r.un; omega, r.gd⟩
theorem Room.deeper {k : Nat} {A : Around} (r : Room (k + 1) A) (env : Env) : Room k (A.deeper env) :=
  ⟨r.hd, by have := r.dp; show A.depth + 1 + 3 * k + 5 < _; omega, by have := r.un; show A.units + 3 + 16 * k + 200 < _; omega, r.gd⟩
theorem Room.depth {k : Nat} {A : Around} (r : Room k A) : A.depth < recursionLimit := by have := r.dp; omega
theorem Room.units {k : Nat} {A : Around} (r : Room k A) : A.units + 64 < cLine := by have := r.un; omega

noncomputable def tNil : TA := fun _ H Q => Q [] H
noncomputable def tCons (ta : TE) (tr : TA) : TA := fun σ H Q => ta σ H fun x H1 => tr σ H1 fun xs H2 => Q (x :: xs) H2
section
variable {X : Cx} {e : Expr} {es : List Expr} {te : TE} {t : TA} {pos : Pos}
theorem pa_nil : PA X [] tNil := fun _ _ _ _ H Q I h => Calls.spliced_nil ⟨[], H, I, .nil, h⟩
theorem pa_cons (ha : PE X e te) (hr : PA X es t) (hs : autoParam (starEach (e :: es) X.env = (false, eval e X.env) :: starEach es X.env) aT2._auto_1) : PA X (e :: es) (tCons te t) := by
  intro pos pins s σ H Q I h
  rw [hs]
  show wpAny _ _ (spliced ((false, eval e X.env) :: backTo pos (starEach es X.env))) _ _ s
  refine Calls.spliced_cons (thn (ha pins s σ H _ I h) fun u s1 hz9 => ?_)
  obtain ⟨x, H1, I1, r1, q1⟩ := hz9
  exact thn (hr pos pins s1 σ H1 _ I1 q1) fun us s2 ⟨xs, H2, I2, r2, q2⟩ => ⟨x :: xs, H2, I2, .cons r1 r2, q2⟩

noncomputable def tTup (t : TA) : TE := fun σ H Q => t σ H fun xs H1 => xs.length ≤ sizeLine ∧ ∀ p, H1 p = none → Q (.ref p) (upd H1 p (.tup xs))
noncomputable def tLst (t : TA) : TE := fun σ H Q => t σ H fun xs H1 => xs.length ≤ sizeLine ∧ ∀ p, H1 p = none → Q (.ref p) (upd H1 p (.lst xs))
theorem pe_tup {x1} (h : PA X es t) : PE X (.Tuple es x1 pos) (tTup t) := by
  intro pins s σ H Q I hq
  refine wpAny_Tuple_spliced (thn (h pos pins s σ H _ I hq) fun us s1 ⟨xs, H1, I1, r, z, q⟩ => ⟨by rw [← r.length]; exact z, ?_⟩)
  have hf : H1 s1.heap.objs.size = none := I1.hok.fresh (Nat.le_refl _)
  refine ⟨.ref s1.heap.objs.size, upd H1 s1.heap.objs.size (.tup xs), I1.laid (t' := s1.toks) (fun b u e => Heap.get?_push_of_some _ e) (Nat.le_refl _) ?_, rfl, q _ hf⟩
  exact ⟨z, us, r, ⟨_, Heap.get?_push_size _ rfl, rfl, _, rfl⟩⟩
theorem pe_lst (h : PA X es t) : PE X (.List es pos) (tLst t) := by
  intro pins s σ H Q I hq
  refine wpAny_List_spliced (thn (h pos pins s σ H _ I hq) fun us s1 ⟨xs, H1, I1, r, z, q⟩ => ⟨by rw [← r.length]; exact z, ?_⟩)
  have hf : H1 s1.heap.objs.size = none := I1.hok.fresh (Nat.le_refl _)
  refine ⟨.ref s1.heap.objs.size, upd H1 s1.heap.objs.size (.lst xs), I1.laid (t' := s1.toks) (fun b u e => Heap.get?_push_of_some _ e) (Nat.le_refl _) ?_, rfl, q _ hf⟩
  exact ⟨z, us, 0, r, Heap.get?_push_size _ rfl⟩
end

noncomputable abbrev Sp := List V → Hp → VK → XK → Prop
noncomputable abbrev CXT := List Env → Hp → Shared → XK → Value → Shared → Prop

structure Env0 (P : Program) (w : World) (K : PySem.W.Frag) (mg : Str → Option Value) (base : Heap) (A : Around) (outer : List Env) (s : Shared) (H : Hp) : Prop where
  frames : A.frames = some outer
  mod : Mod K mg base
  bs : ∀ b o, base.get? b = some o → s.heap.get? b = some o ∧ H b = none
  bsz : base.objs.size ≤ s.heap.objs.size
  funs : s.heap.FunFrames base outer
  frf : ∀ b ∈ frs outer, H b = none
  hok : HOk P w H s.heap
  bare : AllBare s.gens
noncomputable def CE (outer : List Env) (P : Program) (w : World) (H : Hp) (s : Shared) (Q : VK) (u : Value) (s' : Shared) : Prop :=
  ∃ v H', s'.os = s.os ∧ AllBare s'.gens ∧ Un (frs outer) [] H H' s.heap s'.heap ∧ HOk P w H' s'.heap ∧ RelV v u ∧ Q v H'
noncomputable def CR (CX : CXT) (outer : List Env) (P : Program) (w : World) (H : Hp) (s : Shared) (Q : VK) (E : XK) (r : Result) (s' : Shared) : Prop :=
  match r with
  | .ok (.ret u) => CE outer P w H s Q u s'
  | .ok _ => False
  | .error e => CX outer H s E e s'
structure FnOk (P : Program) (w : World) (K : PySem.W.Frag) (mg : Str → Option Value) (base : Heap) (CX : CXT) (k : Nat) (f : Addr) (fd : FuncData) (ps : List Str) (sp : Sp) : Prop where
  len : ∀ vs H Q E, sp vs H Q E → vs.length = ps.length
  run : ∀ (A : Around) (outer : List Env) (s : Shared) (H : Hp) (args : Args) (us : List Value) (vs : List V) (Q : VK) (E : XK), Room k A → Env0 P w K mg base A outer s H → BindsTo s fd args (ps.zip us) → Vals vs us → sp vs H Q E →
    codeAny (model P w) A (.call (.ref f) args) (CR CX outer P w H s Q E) s
theorem FnOk.imp {P : Program} {w : World} {K : PySem.W.Frag} {mg : Str → Option Value} {base : Heap} {CX : CXT} {k : Nat} {f : Addr} {fd : FuncData} {ps : List Str} {sp sp' : Sp} (F : FnOk P w K mg base CX k f fd ps sp)
    (h : ∀ vs H Q E, sp' vs H Q E → sp vs H Q E) : FnOk P w K mg base CX k f fd ps sp' :=
  ⟨fun vs H Q E q => F.len vs H Q E (h _ _ _ _ q), fun A outer s H args us vs Q E hr he hb hv hs => F.run A outer s H args us vs Q E hr he hb hv (h _ _ _ _ hs)⟩


section
variable {X : Cx} {pins : List (Addr × Obj)} {σ : St} {H : Hp} {s s' : Shared}
theorem Inv.env0 (I : Inv X pins σ H s) : Env0 X.prog X.w X.K X.mg X.base X.A X.stack s H :=
  ⟨I.ok.frames, I.ok.mod, I.bs, Nat.le_trans I.ok.bsz I.sz, I.stack, I.stkFree, I.hok, I.bare⟩
theorem Inv.after {Q : VK} {u : Value} (I : Inv X pins σ H s) (h : CE X.stack X.prog X.w H s Q u s') : EP X pins σ Q u s' := by
  obtain ⟨v, H', os, bare, un, hok, r, q⟩ := h
  obtain ⟨hh, g, d, t, os'⟩ := s'
  obtain rfl : os' = s.os := os
  exact ⟨v, H', I.call (h' := hh) (g' := g) (d' := d) (t' := t) (ch := []) un hok bare (fun b z => absurd z (by simp)), r, q⟩
end

noncomputable def tCall (sp : Sp) (dvs : List V) (E : XK) (t : TA) : TE := fun σ H Q => t σ H fun vs H1 => sp (vs ++ dvs) H1 Q E

noncomputable def Binds (K : PySem.W.Frag) (fd : FuncData) (ps : List Str) (ds : List Value) : Prop :=
  ∀ (s : Shared) (us : List Value), K.In s.heap → (us ++ ds).length = ps.length → BindsTo s fd ⟨us, []⟩ (ps.zip (us ++ ds))
theorem Binds.all {K : PySem.W.Frag} {fd : FuncData} {ps : List Str} (h : ∀ us : List Value, us.length = ps.length → bindArgs fd ⟨us, []⟩ = pure (ps.zip us)) : Binds K fd ps [] := fun s us _ hl => by
  rw [List.append_nil] at hl ⊢
  exact .of_eq (h us hl)

noncomputable def Passes (CX : CXT) (X : Cx) (E : XK) : Prop := ∀ (pins : List (Addr × Obj)) (σ : St) (H : Hp) (s : Shared) (e : Value) (s' : Shared), Inv X pins σ H s → CX X.stack H s E e s' → X.xe e s'

section
variable {X : Cx} {CX : CXT} {k : Nat} {f C : Addr} {fd : FuncData} {ps : List Str} {sp : Sp} {dvs : List V} {ds : List Value} {E : XK} {x m : Str} {p pos apos : Pos} {e o : Expr} {es : List Expr} {ta : TE} {t : TA}

theorem run_fn {pins : List (Addr × Obj)} {σ : St} {H : Hp} {s : Shared} {Q : VK} {us : List Value} {vs : List V} (F : FnOk X.prog X.w X.K X.mg X.base CX k f fd ps sp) (hr : Room k X.A) (hb : Binds X.K fd ps ds) (hd : Vals dvs ds) (hx : Passes CX X E)
    (I : Inv X pins σ H s) (r : Vals vs us) (h : sp (vs ++ dvs) H Q E) : wpAny (model X.prog X.w) X.A (call (.ref f) us) (EP X pins σ Q) X.xe s := by
  have r2 : Vals (vs ++ dvs) (us ++ ds) := r.append hd
  have hl : (us ++ ds).length = ps.length := by rw [← r2.length]; exact F.len _ _ _ _ h
  refine wpAny_call (codeAny_mono (F.run X.A X.stack s H ⟨us, []⟩ (us ++ ds) (vs ++ dvs) Q E hr I.env0 (hb s us I.kIn hl) r2 h) fun r s' hq => ?_)
  cases r with
  | error e => exact hx pins σ H s e s' I hq
  | ok fl =>
    cases fl with
    | ret u => exact I.after hq
    | next => exact False.elim hq
    | brk => exact False.elim hq
    | cont => exact False.elim hq

theorem pe_call (F : FnOk X.prog X.w X.K X.mg X.base CX k f fd ps sp) (hr : Room k X.A) (hg : Gl X x) (hm : X.mg x = some (.ref f)) (hk : PySem.W.keepIn X.K (.ref f) = true) (hb : Binds X.K fd ps ds) (hd : Vals dvs ds) (hx : Passes CX X E)
    (ha : PA X (e :: es) t) (hdb : autoParam ((x == ("__debug__" : Str)) = false) aT1._auto_1) (he : autoParam (starEach (e :: es) X.env = (false, eval e X.env) :: starEach es X.env) aT2._auto_1) (hpl : autoParam ((backTo pos (starEach es X.env)).any (·.1) = false) aT2._auto_1) :
    PE X (.Call (.Name x p) (e :: es) [] pos) (tCall sp dvs E t) := by
  intro pins s σ H Q I h
  refine wpAny_Call_Name_kw (ld_glob I hg hm ?_ hdb)
  refine PySem.W.callWith_K (h₀ := X.base) I.ok.mod.kin hk (thn (ha pos pins s σ H _ I h) fun us s1 ⟨vs, H1, I1, r, q⟩ => ⟨I1.kIn, ?_⟩) he hpl
  exact run_fn F hr hb hd hx I1 r q


structure Mk (K : PySem.W.Frag) (C f : Addr) : Prop where
  makes : PySem.W.makesIn K C = true
  init : PySem.W.findIn K (.ref C) "__init__" = some (some (.ref f))
  fn : PySem.W.isFn K (.ref f) = true
  kp : PySem.W.keepIn K (.ref C) = true

end

section
variable {X : Cx} {CX : CXT} {k : Nat} {f C : Addr} {fd : FuncData} {ps ks : List Str} {sp : Sp} {E : XK} {x m : Str} {p pos apos kpos : Pos} {e o : Expr} {es : List Expr} {kws : List Keyword} {te ta : TE} {t tk : TA} {nm : Option Str}

structure KBinds (K : PySem.W.Frag) (fd : FuncData) (ps ks : List Str) (g : List Value → List Value → List Value) (gV : List V → List V → List V) : Prop where
  to : ∀ (s : Shared) (us ws : List Value), K.In s.heap → (g us ws).length = ps.length → BindsTo s fd ⟨us, ks.zip ws⟩ (ps.zip (g us ws))
  rel : ∀ {vs : List V} {us : List Value} {zs : List V} {ws : List Value}, Vals vs us → Vals zs ws → Vals (gV vs zs) (g us ws)
variable {g : List Value → List Value → List Value} {gV : List V → List V → List V}
end

structure FnScope (N P : List Str) (sc : Scope) : Prop where
  kind : sc.kind = .function
  co : sc.isCoroutine = false
  gen : sc.isGenerator = false
  nd : N.Nodup
  pre : N.take P.length = P
  par : ∀ x ∈ P, sc.names.lookup x = some .local ∨ sc.names.lookup x = some .cell
  nofree : ∀ y ∈ sc.names, y.2 ≠ .free

theorem bindL_out {kindOf : Str → Option NameKind} {x : Str} : ∀ {binds : List (Str × Value)} {m : Str → Option Value}, (∀ v, (x, v) ∉ binds) → bindL kindOf binds m x = m x
  | [], _, _ => rfl
  | (n, v) :: r, m, h => by
    unfold bindL
    rw [bindL_out fun w hw => h w (List.mem_cons_of_mem _ hw)]
    split
    · have : x ≠ n := by rintro rfl; exact h v List.mem_cons_self
      simp [this]
    · rfl
theorem bindC_out {kindOf : Str → Option NameKind} {x : Str} : ∀ {binds : List (Str × Value)} {m : Str → Option Value}, (∀ v, (x, v) ∉ binds) → bindC kindOf binds m x = m x
  | [], _, _ => rfl
  | (n, v) :: r, m, h => by
    unfold bindC
    rw [bindC_out fun w hw => h w (List.mem_cons_of_mem _ hw)]
    split
    · rfl
    · have : x ≠ n := by rintro rfl; exact h v List.mem_cons_self
      simp [this]
theorem bindL_get {kindOf : Str → Option NameKind} {x : Str} {v : Value} : ∀ {P : List Str} {vs : List Value} {i : Nat} {m : Str → Option Value}, P.Nodup → P[i]? = some x → vs[i]? = some v → kindOf x = some .local →
    bindL kindOf (P.zip vs) m x = some v
  | [], _, _, _, _, h, _, _ => by simp at h
  | _ :: _, [], _, _, _, _, h, _ => by simp at h
  | p :: P, w :: vs, 0, m, nd, h1, h2, hk => by
    simp at h1 h2; subst h1; subst h2
    show bindL kindOf ((p, w) :: P.zip vs) m p = _
    unfold bindL
    rw [bindL_out fun v hv => (List.nodup_cons.mp nd).1 (List.of_mem_zip hv).1, if_pos hk]
    simp
  | p :: P, w :: vs, i + 1, m, nd, h1, h2, hk => by
    show bindL kindOf ((p, w) :: P.zip vs) m x = _
    unfold bindL
    exact bindL_get (i := i) (List.nodup_cons.mp nd).2 (by simpa using h1) (by simpa using h2) hk
theorem bindC_get {kindOf : Str → Option NameKind} {x : Str} {v : Value} : ∀ {P : List Str} {vs : List Value} {i : Nat} {m : Str → Option Value}, P.Nodup → P[i]? = some x → vs[i]? = some v → kindOf x ≠ some .local →
    bindC kindOf (P.zip vs) m x = some v
  | [], _, _, _, _, h, _, _ => by simp at h
  | _ :: _, [], _, _, _, _, h, _ => by simp at h
  | p :: P, w :: vs, 0, m, nd, h1, h2, hk => by
    simp at h1 h2; subst h1; subst h2
    show bindC kindOf ((p, w) :: P.zip vs) m p = _
    unfold bindC
    rw [bindC_out fun v hv => (List.nodup_cons.mp nd).1 (List.of_mem_zip hv).1, if_neg hk]
    simp
  | p :: P, w :: vs, i + 1, m, nd, h1, h2, hk => by
    show bindC kindOf ((p, w) :: P.zip vs) m x = _
    unfold bindC
    exact bindC_get (i := i) (List.nodup_cons.mp nd).2 (by simpa using h1) (by simpa using h2) hk

noncomputable def start (N : List Str) (vs : List V) : St := vs.map some ++ List.replicate (N.length - vs.length) none

noncomputable def cxOf (CX : CXT) (P : Program) (w : World) (K : PySem.W.Frag) (mg : Str → Option Value) (base : Heap) (N : List Str) (qual : Str) (scope : Scope) (f : Addr) (cd : Value) (A : Around) (outer : List Env) (s : Shared) (H : Hp) (E : XK) : Cx where
  prog := P
  w := w
  K := K
  mg := mg
  base := base
  A := A.deeper (envOfC qual scope s.heap.objs.size f cd)
  N := N
  s₀ := s
  H₀ := H
  env := envOfC qual scope s.heap.objs.size f cd
  outer := outer
  stack := envOfC qual scope s.heap.objs.size f cd :: outer
  ex := []
  calm := true
  fn := fun _ => true
  pn := []
  xe := fun e s' => wpAny (model P w) (A.deeper (envOfC qual scope s.heap.objs.size f cd)) (leaving (envOfC qual scope s.heap.objs.size f cd) e) (fun _ s'' => CX outer H s E e s'') (fun e' s'' => CX outer H s E e' s'') s'

theorem cell_has {sc : Scope} {n : Nat} {x : Str} (h : sc.names.lookup x = some .cell) : ∃ c, (cellsFrom n sc.names []).lookup x = some c := by
  have q := PySem.W.cellsFrom_some sc.names n [] (.inl h)
  exact Option.isSome_iff_exists.mp q

theorem inv_start {CX : CXT} {P : Program} {w : World} {K : PySem.W.Frag} {mg : Str → Option Value} {base : Heap} {N ps : List Str} {qual : Str} {scope : Scope} {f : Addr} {cd : Value} {A : Around} {outer : List Env} {s s1 : Shared} {H : Hp} {E : XK} {us : List Value} {vs : List V}
    (S : FnScope N ps scope) (hd : A.handled = none) (e0 : Env0 P w K mg base A outer s H) (hl : vs.length = ps.length) (r : Vals vs us)
    (x : InCallC s s.heap.objs.size (bindL (envOfC qual scope s.heap.objs.size f cd).kindOf (ps.zip us) fun _ => none) (cellsFrom (s.heap.objs.size + 1) scope.names []) (bindC (envOfC qual scope s.heap.objs.size f cd).kindOf (ps.zip us) fun _ => none) s1) :
    Inv (cxOf CX P w K mg base N qual scope f cd A outer s H E) [] (start N vs) H s1 := by
  have hpl : ps.length ≤ N.length := by have := congrArg List.length S.pre; rw [List.length_take] at this; omega
  obtain ⟨h1, tk, rfl, hk⟩ := x.done
  have noA : ∀ b : Addr, b ∉ (cxOf CX P w K mg base N qual scope f cd A outer s H E).ex := fun b z => absurd (show b ∈ ([] : List Addr) from z) (by simp)
  refine ⟨⟨e0.mod, S.kind, rfl, rfl, Nat.le_refl _, fun y z c h1 h2 => ?_, fun y hy => ?_, fun y c _ h => ?_, fun _ => hd, Around.frames_deeper e0.frames, .inr ⟨rfl, rfl⟩, fun b z => absurd z (noA b), e0.bs, e0.bsz, fun b _ _ => noA b, fun b z => absurd z (noA b), e0.funs, e0.frf⟩,
    rfl, e0.bare, Un.kept hk, ⟨_, x.toInCall.ns, fun i y v h1 h2 h3 => ?_⟩, fun y c h => ⟨_, x.cell y c h⟩, e0.hok.fresh (Nat.le_refl _), fun y c h => ?_, fun p hp => absurd (show p ∈ ([] : List (Addr × Obj)) from hp) (by simp), e0.hok.kept hk, ?_⟩
  · exact name_of_addr x.apart (PySem.mem_of_lookup h1) (PySem.mem_of_lookup h2)
  · have hy : scope.names.lookup y = some .cell ∨ scope.names.lookup y = some .free := hy
    rcases hy with hy | hy
    · exact cell_has hy
    · exact absurd rfl (S.nofree _ (PySem.mem_of_lookup hy))
  · exact Nat.le_of_lt (x.above y c (PySem.mem_of_lookup h))
  · have hi : i < vs.length := by
      unfold start at h2
      by_cases hi : i < vs.length
      · exact hi
      · rw [List.getElem?_append_right (by simpa using hi)] at h2
        rw [List.getElem?_replicate] at h2
        split at h2 <;> cases h2
    have ha : vs[i]? = some v := by
      unfold start at h2
      rw [List.getElem?_append_left (by simpa using hi), List.getElem?_map] at h2
      cases e : vs[i]? with
      | none => rw [e] at h2; cases h2
      | some a => rw [e] at h2; cases h2; rfl
    obtain ⟨u, hu, rv⟩ := r.get ha
    have hp : ps[i]? = some y := by
      rw [← S.pre, List.getElem?_take_of_lt (by omega)]; exact h1
    have ndP : ps.Nodup := by rw [← S.pre]; exact S.nd.sublist (List.take_sublist _ _)
    refine ⟨u, rv, ?_⟩
    rcases S.par y (List.mem_of_getElem? hp) with k | k
    · exact .inl ⟨k, bindL_get ndP hp hu k⟩
    · obtain ⟨c, e⟩ := cell_has (n := s.heap.objs.size + 1) k
      refine .inr ⟨.inl k, c, e, ?_⟩
      have q := x.cell y c e
      rw [bindC_get ndP hp hu (by show scope.names.lookup y ≠ _; rw [k]; decide)] at q
      exact q
  · exact e0.hok.fresh (Nat.le_of_lt (x.above y c (PySem.mem_of_lookup h)))
  · unfold start
    show _ = N.length
    rw [List.length_append, List.length_map, List.length_replicate]
    omega

theorem fn_of {CX : CXT} {P : Program} {w : World} {K : PySem.W.Frag} {mg : Str → Option Value} {base : Heap} {k : Nat} {f : Addr} {name qual : Str} {params : Arguments} {body : List Stmt} {scope : Scope} {dV kV doc pm cdv ct oc : Value} {an od : Option Addr}
    {osl : Array (Option Value)} {N ps : List Str} {sp : Sp} (lk : K.lookup f = some ⟨oc, od, .func (PySem.W.fnOf name qual params body scope dV kV doc pm an cdv ct), osl⟩) (hcd : PySem.W.codeIn K cdv qual = true) (S : FnScope N ps scope)
    (len : ∀ vs H Q E, sp vs H Q E → vs.length = ps.length)
    (hbody : ∀ (A : Around) (outer : List Env) (s : Shared) (H : Hp) (vs : List V) (Q : VK) (E : XK), Room k (A.deeper (envOfC qual scope s.heap.objs.size f cdv)) → sp vs H Q E →
      ∃ t, PSs (cxOf CX P w K mg base N qual scope f cdv A outer s H E) body t ∧ t { nx := fun _ H' => Q .non H', rt := Q } (start N vs) H) :
    FnOk P w K mg base CX (k + 1) f (PySem.W.fnOf name qual params body scope dV kV doc pm an cdv ct) ps sp := by
  refine ⟨len, fun A outer s H args us vs Q E hr e0 hb r hsp => ?_⟩
  have hl := len _ _ _ _ hsp
  have KX : K.In s.heap := e0.mod.kin.keeps fun b o e => (e0.bs b o e).1
  have lim : s.heap.NoLimit := e0.mod.nolimit.keeps fun b o e => (e0.bs b o e).1
  have hkind : ∀ y ∈ ps.zip us, scope.names.lookup y.1 = some .local ∨ (scope.names.lookup y.1 = some .cell ∧ ((cellsFrom (s.heap.objs.size + 1) scope.names []).lookup y.1).isSome = true) := fun ⟨n, v⟩ hy => by
    rcases S.par n (List.of_mem_zip hy).1 with q | q
    · exact .inl q
    · exact .inr ⟨q, PySem.W.cellsFrom_some _ _ _ (.inl q)⟩
  refine codeAny_call_function hr.depth (KX _ _ lk) rfl S.co S.gen rfl (PySem.W.codeRec_of KX hcd) (hb _ _ _ _ ?_)
  refine wpAny_newFunctionEnv_cells S.kind hkind fun env he s1 x => ?_
  subst he
  refine ⟨lim.keeps x.toInCall.keep, codeAny_func ?_⟩
  obtain ⟨t, ht, hq⟩ := hbody A outer s H vs Q E (hr.deeper _) hsp
  have I : Inv (cxOf CX P w K mg base N qual scope f cdv A outer s H E) [] (start N vs) H s1 := inv_start S hr.hd e0 hl r x
  refine wpAny_mono (ht [] s1 (start N vs) H _ I hq) (fun fl s' hs => ?_) fun e s' hs => hs
  have fin : ∀ {σ' : St} {H' : Hp} {v : V} {u : Value}, Inv (cxOf CX P w K mg base N qual scope f cdv A outer s H E) [] σ' H' s' → RelV v u → Q v H' → CE outer P w H s Q u s' :=
    fun {σ' H' v u} J rv q => ⟨v, H', J.os, J.bare, J.base, J.hok, rv, q⟩
  cases fl with
  | ret u =>
    obtain ⟨v, σ', H', J, rv, q⟩ := hs
    exact fin J rv q
  | next =>
    obtain ⟨σ', H', J, q⟩ := hs
    exact fin (v := V.non) (u := Value.none) J rfl q
  | brk =>
    obtain ⟨_, _, _, q⟩ := hs
    exact False.elim q
  | cont =>
    obtain ⟨_, _, _, q⟩ := hs
    exact False.elim q
end L2

namespace L2
open PySem PySem.Spec PyProof.Rows
section
variable {X : Cx} {x : Str} {p pos : Pos} {e : Expr} {es : List Expr} {t : TA} {id T : String} {r : List V → Hp → VK → Prop}

noncomputable def tCB (r : List V → Hp → VK → Prop) (t : TA) : TE := fun σ H Q => t σ H fun vs H1 => r vs H1 Q
theorem pe_callB (hc : CallR X (.builtin id) r) (hg : Gl X x) (hm : X.mg x = none) (hv : bootBuiltins x = some (.builtin id)) (ha : PA X (e :: es) t) (hn : autoParam (x ≠ "__name__") aT1._auto_1) (hdb : autoParam ((x == ("__debug__" : Str)) = false) aT1._auto_1)
    (he : autoParam (starEach (e :: es) X.env = (false, eval e X.env) :: starEach es X.env) aT2._auto_1) (hpl : autoParam ((backTo pos (starEach es X.env)).any (·.1) = false) aT2._auto_1) : PE X (.Call (.Name x p) (e :: es) [] pos) (tCB r t) := by
  intro pins s σ H Q I h
  refine wpAny_Call_Name_kw (ld_blt I hg hm hv ?_ hn hdb)
  exact PyProof.Rows.callWith_builtin1 (thn (ha pos pins s σ H _ I h) fun us s1 ⟨vs, H1, I1, r1, q1⟩ => hc pins s1 σ H1 vs us Q I1 r1 q1) he hpl
theorem pe_callTy (hc : CallR X (.type T) r) (hg : Gl X x) (hm : X.mg x = none) (hv : bootBuiltins x = some (.type T)) (ha : PA X (e :: es) t) (hn : autoParam (x ≠ "__name__") aT1._auto_1) (hdb : autoParam ((x == ("__debug__" : Str)) = false) aT1._auto_1)
    (he : autoParam (starEach (e :: es) X.env = (false, eval e X.env) :: starEach es X.env) aT2._auto_1) (hpl : autoParam ((backTo pos (starEach es X.env)).any (·.1) = false) aT2._auto_1) : PE X (.Call (.Name x p) (e :: es) [] pos) (tCB r t) := by
  intro pins s σ H Q I h
  refine wpAny_Call_Name_kw (ld_blt I hg hm hv ?_ hn hdb)
  exact PyProof.Rows.callWith_type1 (thn (ha pos pins s σ H _ I h) fun us s1 ⟨vs, H1, I1, r1, q1⟩ => hc pins s1 σ H1 vs us Q I1 r1 q1) he hpl
end
end L2

namespace HT
open PySem PyProof.Rows

noncomputable def lexLt : List Int → List Int → Bool
  | [], [] => false
  | [], _ :: _ => true
  | _ :: _, [] => false
  | x :: xs, y :: ys => if x = y then lexLt xs ys else decide (x < y)


section
open PySem.SeqAt
open PySem.AutoSeq1 (wpAny_loadPart')
open PySem.MeetsSeq PySem.MeetsSeq2 PySem.MeetsSeq3

end

section
variable {prog : Program} {w : World} {A : Around} {E : Value → Shared → Prop} {s : Shared}



noncomputable def sIx (n d : Nat) : Option Int → Nat
  | none => d
  | some v => if v < 0 then (v + (n : Int)).toNat else min v.toNat n
theorem sIx_le (n d : Nat) (hd : d ≤ n) (o : Option Int) : sIx n d o ≤ n := by
  cases o with
  | none => exact hd
  | some v =>
    show (if v < 0 then (v + (n : Int)).toNat else min v.toNat n) ≤ n
    by_cases hv : v < 0
    · rw [if_pos hv]; omega
    · rw [if_neg hv]; exact Nat.min_le_right _ _
theorem clip_eq (v : Int) (n d : Nat) : (if v < 0 then max (v + (n : Int)) 0 else min v (n : Int)) = ((sIx n d (some v) : Nat) : Int) := by
  show (if v < 0 then max (v + (n : Int)) 0 else min v (n : Int)) = (((if v < 0 then (v + (n : Int)).toNat else min v.toNat n) : Nat) : Int)
  by_cases hv : v < 0
  · simp only [if_pos hv]; omega
  · simp only [if_neg hv]; omega
theorem adjust_gen (lo hi : Option Int) (n : Nat) : Builtin.Slice.sliceAdjust lo hi 1 (n : Int) = (((sIx n 0 lo : Nat) : Int), ((sIx n n hi : Nat) : Int)) := by
  have h1 : ¬ ((1 : Int) < 0) := by omega
  unfold Builtin.Slice.sliceAdjust
  simp only [h1, if_false]
  refine Prod.ext ?_ ?_
  · cases lo with
    | none => rfl
    | some v => exact clip_eq v n 0
  · cases hi with
    | none => rfl
    | some v => exact clip_eq v n n
theorem places_gen (i j : Nat) : Builtin.Slice.slicePlaces (i : Int) (j : Int) 1 = j - i := by
  unfold Builtin.Slice.slicePlaces
  have h1 : (1 : Int) > 0 := by omega
  simp only [h1, if_true, Int.ediv_one]
  split <;> omega
theorem slicePart_ {v : Value} {o : Option Int} {Q : Option Int → Shared → Prop} (p : IsPart v o) (h : Q o s) : wpAny (model prog w) A (Builtin.Slice.slicePartIndex v) Q E s := by
  cases p with
  | none => exact slicePart_none h
  | int i t => exact slicePart_int h
theorem sliceApplied_gen {sl : Addr} {vl vu : Value} {lo hi : Option Int} {n : Nat} {Q : Int × Int × Nat → Shared → Prop} (hs : s.heap.IsSliceOf sl vl vu .none) (pl : IsPart vl lo) (pu : IsPart vu hi)
    (h : Q (((sIx n 0 lo : Nat) : Int), 1, sIx n n hi - sIx n 0 lo) s) : wpAny (model prog w) A (Builtin.Slice.sliceApplied (.ref sl) (pure (n : Int))) Q E s := by
  obtain ⟨os, hos, hcs, hds⟩ := id hs
  unfold Builtin.Slice.sliceApplied Builtin.Slice.sliceFields
  refine wpAny_bind (wpAny_bind (wpAny_field hos hds (x := vl) rfl (wpAny_bind (wpAny_field hos hds (x := vu) rfl (wpAny_bind (wpAny_field hos hds (x := .none) rfl (wpAny_pure ?_)))))))
  refine wpAny_bind (slicePart_none ?_)
  show wpAny _ _ (if ((1 : Int) == 0) = true then _ else _) _ _ s
  rw [if_neg (by decide)]
  refine wpAny_bind (slicePart_ pl (wpAny_bind (slicePart_ pu (wpAny_bind (wpAny_pure ?_)))))
  show wpAny _ _ (match Builtin.Slice.sliceAdjust lo hi 1 (n : Int) with | (lo, hi) => pure (lo, (1 : Int), Builtin.Slice.slicePlaces lo hi 1)) _ _ s
  rw [adjust_gen lo hi n]
  show wpAny _ _ (pure (((sIx n 0 lo : Nat) : Int), (1 : Int), Builtin.Slice.slicePlaces ((sIx n 0 lo : Nat) : Int) ((sIx n n hi : Nat) : Int) 1)) _ _ s
  rw [places_gen]
  exact wpAny_pure h
theorem pick_gen (xs : Array Value) (i k : Nat) : ((List.range k).filterMap fun (m : Nat) => xs[((i : Int) + (m : Int) * 1).toNat]?).toArray = ((xs.toList.drop i).take k).toArray := by
  have e : (fun (m : Nat) => xs[((i : Int) + (m : Int) * 1).toNat]?) = fun m => xs[i + m]? := by
    funext m
    have : ((i : Int) + (m : Int) * 1).toNat = i + m := by omega
    rw [this]
  rw [e]
  have := pick_run xs i k
  rw [List.filterMap_map] at this
  have e2 : ((fun x => xs[x]?) ∘ fun x => i + x) = fun m => xs[i + m]? := rfl
  rw [e2] at this
  rw [this]

theorem getItem_tuple_cut {t sl : Addr} {items : Array Value} {vl vu : Value} {lo hi : Option Int} {Q : Value → Shared → Prop} (ht : IsTup s.heap t items) (hs : s.heap.IsSliceOf sl vl vu .none) (pl : IsPart vl lo) (pu : IsPart vu hi)
    (hw : ¬ (sIx items.size 0 lo = 0 ∧ sIx items.size items.size hi = items.size))
    (h : Q (.ref s.heap.objs.size) { s with heap := s.heap.push { cls := .type "tuple", data := .seq ((items.toList.drop (sIx items.size 0 lo)).take (sIx items.size items.size hi - sIx items.size 0 lo)).toArray } })
    (hsz : items.size ≤ sizeLine) : wpAny (model prog w) A (getItem (.ref t) (.ref sl)) Q E s := by
  have htake : sizeOk (.seq ((items.toList.drop (sIx items.size 0 lo)).take (sIx items.size items.size hi - sIx items.size 0 lo)).toArray) := by
    show ((items.toList.drop (sIx items.size 0 lo)).take (sIx items.size items.size hi - sIx items.size 0 lo)).toArray.size ≤ sizeLine
    rw [List.size_toArray, List.length_take, List.length_drop, Array.length_toList]
    omega
  have hj : sIx items.size items.size hi ≤ items.size := sIx_le _ _ (Nat.le_refl _) hi
  obtain ⟨os, hos, hcs, hds⟩ := id hs
  have hTs : s.TypeIs (.ref sl) "slice" := ⟨os, hos, hcs⟩
  unfold getItem
  try with_reducible refine wpAny_holding ?_
  first | refine wpAny_bind (wpAny_pure ?_) | skip
  refine wpAny_bind (wpAny_sequenceKey ht.typeIs (by decide) ?_)
  refine wpAny_bind (wpAny_callSpecial?_slot (name := Str.ofString "__getitem__") ht.typeIs PyProof.Rows.slot_tuple_getitem
    (wpAny_call_entry PyProof.Rows.slot_tuple_getitem ht.typeIs entry_tuple_getitem ?_ (args_tuple_getitem _ _)))
  show wpAny _ _ (Builtin.Tuple.tupleItemsOf (.ref t) >>= _) _ _ s
  refine wpAny_bind (tupleItemsOf_ ht ?_)
  refine wpAny_bind (wpAny_typeOf hTs ?_)
  rw [if_pos (by decide)]
  refine wpAny_bind (sliceApplied_gen hs pl pu ?_)
  have hno : ¬ ((((sIx items.size 0 lo : Nat) : Int) == 0 && (1 : Int) == 1 && (sIx items.size items.size hi - sIx items.size 0 lo) == items.size) = true) := by
    intro q
    rw [Bool.and_eq_true, Bool.and_eq_true] at q
    have q1 : ((sIx items.size 0 lo : Nat) : Int) = 0 := eq_of_beq q.1.1
    have q2 : sIx items.size items.size hi - sIx items.size 0 lo = items.size := eq_of_beq q.2
    exact hw ⟨by omega, by omega⟩
  show wpAny _ _ (if (((sIx items.size 0 lo : Nat) : Int) == 0 && (1 : Int) == 1 && (sIx items.size items.size hi - sIx items.size 0 lo) == items.size) = true then _ else _) _ _ s
  rw [if_neg hno, pick_gen]
  first
    | exact wpAny_bind (m := Builtin.Tuple.tupleExact _) (wpAny_newObj_type (wpAny_pure ⟨_, rfl, wpAny_pure h⟩) htake)
    | exact wpAny_bind (m := Builtin.Tuple.tupleExact _) (wpAny_newObj_type (wpAny_bind (wpAny_pure (wpAny_pure ⟨_, rfl, wpAny_pure h⟩))) htake)
    | exact wpAny_bind (wpAny_bind (m := Builtin.Tuple.tupleExact _) (wpAny_newObj_type (wpAny_pure (wpAny_pure ⟨_, rfl, wpAny_pure h⟩)) htake))
    | exact wpAny_bind (wpAny_bind (m := Builtin.Tuple.tupleExact _) (wpAny_newObj_type (wpAny_pure ⟨_, rfl, wpAny_pure h⟩) htake))
end
end HT

namespace L2
open PySem PySem.Spec PyProof.Rows

noncomputable abbrev TO := St → Hp → (Option Int → Hp → Prop) → Prop
noncomputable def PO (X : Cx) (e : Option Expr) (t : TO) : Prop :=
  ∀ (pins : List (Addr × Obj)) (s : Shared) (σ : St) (H : Hp) (Q : Option Int → Hp → Prop), Inv X pins σ H s → t σ H Q →
    wpAny (model X.prog X.w) X.A (evalPart e X.env) (fun u s' => ∃ o H', Inv X pins σ H' s' ∧ IsPart u o ∧ Q o H') X.xe s
noncomputable def tNoPart : TO := fun _ H Q => Q none H
noncomputable def tPart (t : TE) : TO := fun σ H Q => t σ H fun x H1 => ∃ i, x = .int i ∧ Q (some i) H1


section
variable {X : Cx} {e : Expr} {te : TE} {lo hi : Option Expr} {tl th : TO} {pos p2 : Pos}

theorem po_none : PO X none tNoPart := by
  intro pins s σ H Q I h
  rw [evalPart_none]
  exact wpAny_pure ⟨none, H, I, .none, h⟩
theorem po_some (h : PE X e te) : PO X (some e) (tPart te) := by
  intro pins s σ H Q I hw
  rw [evalPart_some]
  refine thn (h pins s σ H _ I hw) fun u s1 hz9 => ?_
  obtain ⟨x, H1, I1, r1, q1⟩ := hz9
  obtain ⟨i, rfl, q⟩ := q1
  obtain ⟨t, rfl⟩ := r1
  exact ⟨some i, H1, I1, .int i t, q⟩

noncomputable def SlR (X : Cx) (r : V → Option Int → Option Int → Hp → VK → Prop) : Prop :=
  ∀ (pins : List (Addr × Obj)) (s : Shared) (σ : St) (H : Hp) (x : V) (v vl vu : Value) (lo hi : Option Int) (sl : Addr) (Q : VK), Inv X pins σ H s → RelV x v → s.heap.IsSliceOf sl vl vu .none → IsPart vl lo → IsPart vu hi → r x lo hi H Q →
    ∃ T id, typeLookup (.type T) "__getitem__" = pure (some (.builtin id)) ∧ s.TypeIs v T ∧ wpAny (model X.prog X.w) X.A (getItem v (.ref sl)) (EP X pins σ Q) X.xe s
noncomputable def tSl (r : V → Option Int → Option Int → Hp → VK → Prop) (te : TE) (tl th : TO) : TE := fun σ H Q => te σ H fun x H1 => tl σ H1 fun l H2 => th σ H2 fun u H3 => r x l u H3 Q
theorem pe_slice {r : V → Option Int → Option Int → Hp → VK → Prop} (hr : SlR X r) (he : PE X e te) (hl : PO X lo tl) (hu : PO X hi th) : PE X (.Subscript e (.Slice lo hi none p2) pos) (tSl r te tl th) := by
  intro pins s σ H Q I h
  refine Subscript_ (thn (he pins s σ H _ I h) fun v s1 hz9 => ?_)
  obtain ⟨x, H1, I1, r1, q1⟩ := hz9
  refine wpAny_Slice (thn (hl pins s1 σ H1 _ I1 q1) fun vl s2 ⟨l, H2, I2, pl, q2⟩ => thn (hu pins s2 σ H2 _ I2 q2) fun vu s3 ⟨u, H3, I3, pu, q3⟩ => ?_)
  rw [evalPart_none]
  refine wpAny_pure ?_
  have I4 : Inv X pins σ H3 { s3 with heap := s3.heap.push { cls := .type "slice", data := .fields #[vl, vu, .none] } } := I3.kept (t' := s3.toks) fun b ob q => Heap.get?_push_of_some _ q
  obtain ⟨T, id, hT, ht, hg⟩ := hr pins { s3 with heap := s3.heap.push { cls := .type "slice", data := .fields #[vl, vu, .none] } } σ H3 x v vl vu l u s3.heap.objs.size Q I4 r1 (Heap.IsSliceOf.new ..) pl pu q3
  show wpAny (model X.prog X.w) X.A (subscriptTail e (.Slice lo hi none p2) v (.ref s3.heap.objs.size)) (EP X pins σ Q) X.xe { s3 with heap := s3.heap.push { cls := .type "slice", data := .fields #[vl, vu, .none] } }
  exact tail_any (ops := [.ref s3.heap.objs.size, v]) ht hT hg (by with_unfolding_all rfl)

noncomputable def cutV (xs : List V) (lo hi : Option Int) : List V := (xs.drop (HT.sIx xs.length 0 lo)).take (HT.sIx xs.length xs.length hi - HT.sIx xs.length 0 lo)
theorem cutV_length (xs : List V) (lo hi : Option Int) : (cutV xs lo hi).length ≤ xs.length := by
  unfold cutV
  rw [List.length_take, List.length_drop]
  omega
noncomputable def rSlT (K : PySem.W.Frag) : V → Option Int → Option Int → Hp → VK → Prop := fun x lo hi H Q => ∃ a xs, x = .ref a ∧ SqT K H a xs ∧
  ¬ (HT.sIx xs.length 0 lo = 0 ∧ HT.sIx xs.length xs.length hi = xs.length) ∧ ∀ p, H p = none → Q (.ref p) (upd H p (.tup (cutV xs lo hi)))
theorem sl_tup : SlR X (rSlT X.K) := by
  intro pins s σ H x v vl vu lo hi sl Q I rx hs pl pu h
  obtain ⟨a, xs, rfl, hx, hw, q⟩ := h
  cases rx
  obtain ⟨its, r, ht, hz⟩ := I.tuple hx
  have hlen : its.toArray.size = xs.length := by rw [List.size_toArray]; exact r.length.symm
  refine ⟨"tuple", _, PyProof.Rows.slot_tuple_getitem.lookup, ht.typeIs, ?_⟩
  refine HT.getItem_tuple_cut ht hs pl pu (by rw [hlen]; exact hw) ?_ (by rw [hlen]; exact hz)
  rw [hlen]
  refine ⟨.ref s.heap.objs.size, _, I.laid (t' := s.toks) (o := .tup (cutV xs lo hi)) (fun b ob q => Heap.get?_push_of_some _ q) (Nat.le_refl _) ?_, rfl, q _ (I.hok.fresh (Nat.le_refl _))⟩
  exact ⟨Nat.le_trans (cutV_length xs lo hi) hz, _, (r.drop (HT.sIx xs.length 0 lo)).take (HT.sIx xs.length xs.length hi - HT.sIx xs.length 0 lo), IsTup.new _ _⟩

end
end L2

namespace L2
open PySem PySem.Spec PyProof.Rows

noncomputable def ixN (n : Nat) (i : Int) : Option Nat := if 0 ≤ i then (if i < n then some i.toNat else none) else if -(n : Int) ≤ i then some (i + n).toNat else none
noncomputable def atI {α : Type} (xs : List α) (i : Int) : Option α := (ixN xs.length i).bind fun j => xs[j]?
theorem ixN_seq {n : Nat} {i : Int} {j : Nat} (h : ixN n i = some j) : seqIndex? i n = some j ∧ j < n ∧ -(n : Int) ≤ i ∧ i < n := by
  unfold ixN at h
  by_cases h0 : 0 ≤ i
  · rw [if_pos h0] at h
    by_cases h1 : i < n
    · rw [if_pos h1] at h
      have e : i.toNat = j := Option.some.inj h
      exact ⟨by rw [seqIndex_of h0 h1, e], by omega, by omega, h1⟩
    · rw [if_neg h1] at h; cases h
  · rw [if_neg h0] at h
    by_cases h1 : -(n : Int) ≤ i
    · rw [if_pos h1] at h
      have e : (i + n).toNat = j := Option.some.inj h
      exact ⟨by rw [seqIndex_neg (by omega) h1, e], by omega, h1, by omega⟩
    · rw [if_neg h1] at h; cases h
theorem atI_get {α : Type} {xs : List α} {i : Int} {v : α} (h : atI xs i = some v) : ∃ j, seqIndex? i xs.length = some j ∧ xs[j]? = some v ∧ j < xs.length ∧ -(xs.length : Int) ≤ i ∧ i < xs.length := by
  unfold atI at h
  cases e : ixN xs.length i with
  | none => rw [e] at h; cases h
  | some j =>
    rw [e] at h
    obtain ⟨h1, h2, h3, h4⟩ := ixN_seq e
    exact ⟨j, h1, h, h2, h3, h4⟩

noncomputable def PlainIx (b : Expr) : Prop := ∀ o i, subscripted b false o i = operate [o, i] (getItem o i)
noncomputable def IxR (X : Cx) (r : R2) : Prop :=
  ∀ (value slice : Expr) (pins : List (Addr × Obj)) (s : Shared) (σ : St) (H : Hp) (x y : V) (v u : Value) (Q : VK), Inv X pins σ H s → RelV x v → RelV y u → r x y H Q →
    subscripted slice false v u = operate [v, u] (getItem v u) → wpAny (model X.prog X.w) X.A (subscriptTail value slice v u) (EP X pins σ Q) X.xe s
noncomputable def MtR (X : Cx) (id : String) (r : V → List V → Hp → VK → Prop) : Prop :=
  ∀ (pins : List (Addr × Obj)) (s : Shared) (σ : St) (H : Hp) (x : V) (xs : List V) (v : Value) (us : List Value) (Q : VK), Inv X pins σ H s → RelV x v → Vals xs us → r x xs H Q →
    wpAny (model X.prog X.w) X.A (call (.builtin id) (v :: us)) (EP X pins σ Q) X.xe s
section
variable {X : Cx} {a b : Expr} {ta tb : TE} {pos : Pos}
theorem IxR.or {r r' : R2} (h : IxR X r) (h' : IxR X r') : IxR X (fun x y H Q => r x y H Q ∨ r' x y H Q) := by
  intro value slice pins s σ H x y v u Q I rx ry q hs
  rcases q with q | q
  · exact h value slice pins s σ H x y v u Q I rx ry q hs
  · exact h' value slice pins s σ H x y v u Q I rx ry q hs
theorem pe_ix {r : R2} (hr : IxR X r) (ha : PE X a ta) (hb : PE X b tb) (hs : PlainIx b) : PE X (.Subscript a b pos) (tOp r ta tb) := by
  intro pins s σ H Q I h
  exact Subscript_ (binT ha hb I h fun v u s2 x y H2 I2 rx ry q => hr a b pins s2 σ H2 x y v u Q I2 rx ry q (hs _ _))

noncomputable def rIxL (K : PySem.W.Frag) : R2 := fun x y H Q => ∃ p xs i v, x = .ref p ∧ y = .int i ∧ SqL K H p xs ∧ atI xs i = some v ∧ Q v H
noncomputable def rIxT (K : PySem.W.Frag) : R2 := fun x y H Q => ∃ p xs i v, x = .ref p ∧ y = .int i ∧ SqT K H p xs ∧ atI xs i = some v ∧ Q v H
noncomputable def rIxS : R2 := fun x y H Q => ∃ z i c, x = .str z ∧ y = .int i ∧ z.length ≤ sizeLine ∧ atI z.cps.toList i = some c ∧ Q (.str ⟨#[c]⟩) H
theorem ix_list : IxR X (rIxL X.K) := by
  intro value slice pins s σ H x y v u Q I rx ry h hs
  obtain ⟨p, xs, i, z, rfl, rfl, hq, he, q⟩ := h
  cases rx
  obtain ⟨t, rfl⟩ := ry
  obtain ⟨its, r, pl, hz⟩ := I.list hq
  obtain ⟨j, h1, h2, h3, h4, h5⟩ := atI_get he
  obtain ⟨w, ew, rw'⟩ := r.get h2
  have hl := r.length
  have hn := line63
  have fin : EP X pins σ Q w s := ⟨z, H, I, rw', q⟩
  by_cases h0 : 0 ≤ i
  · have hj : i.toNat = j := by
      rw [seqIndex_of h0 h5] at h1
      exact Option.some.inj h1
    exact item_listR pl.isList h0 (by omega) (by rw [hj]; simpa using ew) fin hs
  · have hj : (i + (its.toArray.size : Int)).toNat = j := by
      rw [seqIndex_neg (by omega) h4] at h1
      rw [List.size_toArray, ← hl]
      exact Option.some.inj h1
    exact subscriptTail_builtinR (x := w) pl.isList.typeIs slot_list_getitem.lookup
      (wpAny_getItem_list_neg (Q := fun r s' => r = w ∧ EP X pins σ Q r s') pl.isList (by omega) (by rw [List.size_toArray] <;> omega) (by omega) (by rw [hj]; simpa using ew) ⟨rfl, fin⟩) hs
theorem ix_tup : IxR X (rIxT X.K) := by
  intro value slice pins s σ H x y v u Q I rx ry h hs
  obtain ⟨p, xs, i, z, rfl, rfl, hq, he, q⟩ := h
  cases rx
  obtain ⟨t, rfl⟩ := ry
  obtain ⟨its, r, pl, hz⟩ := I.tuple hq
  obtain ⟨j, h1, h2, h3, h4, h5⟩ := atI_get he
  obtain ⟨w, ew, rw'⟩ := r.get h2
  have hl := r.length
  have hn := line63
  have fin : EP X pins σ Q w s := ⟨z, H, I, rw', q⟩
  exact subscriptTail_builtinR (x := w) pl.typeIs slot_tuple_getitem.lookup
    (getItem_tuple (j := j) (Q := fun r s' => r = w ∧ EP X pins σ Q r s') pl (by omega) (by omega) (by rw [List.size_toArray, ← hl]; exact h1) (by simpa using ew) ⟨rfl, fin⟩) hs
theorem ix_str : IxR X rIxS := by
  intro value slice pins s σ H x y v u Q I rx ry h hs
  obtain ⟨z, i, c, rfl, rfl, hz, he, q⟩ := h
  obtain ⟨t, rfl⟩ := rx
  obtain ⟨t', rfl⟩ := ry
  obtain ⟨j, h1, h2, h3, h4, h5⟩ := atI_get he
  have hl : z.cps.toList.length = z.length := by simp [Str.length]
  rw [hl] at h1 h4 h5
  have hn := line63
  exact tail_any (typeIs_str s z t) slot_str_getitem.lookup (getItem_str (c := c) (by
    have e1 : decide (i < -(2 ^ 63 : Int)) = false := decide_eq_false (by omega)
    have e2 : decide (i ≥ 2 ^ 63) = false := decide_eq_false (by omega)
    rw [e1, e2, Bool.or_false]) (by rw [h1]; simpa using h2) ⟨.str ⟨#[c]⟩, H, I.tok _, ⟨_, rfl⟩, q⟩) hs
noncomputable def rIx (K : PySem.W.Frag) : R2 := fun x y H Q => rIxL K x y H Q ∨ rIxT K x y H Q ∨ rIxS x y H Q
theorem ix_seq : IxR X (rIx X.K) := ix_list.or (ix_tup.or ix_str)


theorem slice_bounds (lo hi : Option Int) (n : Nat) : (sliceBounds lo hi none n).1 = ((HT.sIx n 0 lo : Nat) : Int) ∧ (sliceBounds lo hi none n).2.1 = ((HT.sIx n n hi : Nat) : Int) ∧ (sliceBounds lo hi none n).2.2 = 1 := by
  refine ⟨?_, ?_, rfl⟩
  · cases lo with
    | none => simp [sliceBounds, HT.sIx]
    | some i =>
      simp only [sliceBounds, HT.sIx, Option.getD_none, show (1 : Int) > 0 by decide, if_true]
      by_cases h : i < 0
      · simp only [h, if_true] <;> omega
      · simp only [h, if_false] <;> omega
  · cases hi with
    | none => simp [sliceBounds, HT.sIx]
    | some i =>
      simp only [sliceBounds, HT.sIx, Option.getD_none, show (1 : Int) > 0 by decide, if_true]
      by_cases h : i < 0
      · simp only [h, if_true] <;> omega
      · simp only [h, if_false] <;> omega
theorem slicePick_cut (its : List Value) (lo hi : Option Int) : slicePick its.toArray lo hi none = ((its.drop (HT.sIx its.length 0 lo)).take (HT.sIx its.length its.length hi - HT.sIx its.length 0 lo)).toArray := by
  obtain ⟨h1, h2, h3⟩ := slice_bounds lo hi its.toArray.size
  unfold slicePick
  rw [h1, h2, h3]
  simp only [sliceRange_one, pick_run, List.size_toArray] <;> rfl
noncomputable def rSlL (K : PySem.W.Frag) : V → Option Int → Option Int → Hp → VK → Prop := fun x lo hi H Q => ∃ a xs, x = .ref a ∧ SqL K H a xs ∧ ∀ p, H p = none → Q (.ref p) (upd H p (.lst (cutV xs lo hi)))
theorem sl_list : SlR X (rSlL X.K) := by
  intro pins s σ H x v vl vu lo hi sl Q I rx hs pl pu h
  obtain ⟨a, xs, rfl, hx, q⟩ := h
  cases rx
  obtain ⟨its, r, ht, hz⟩ := I.list hx
  have hlen := r.length
  refine ⟨"list", _, slot_list_getitem.lookup, ht.isList.typeIs, ?_⟩
  refine wpAny_getItem_list_slice ht.isList hs pl pu .none (by simp) ?_ (by rw [List.size_toArray] <;> omega)
  rw [slicePick_cut, ← hlen]
  refine ⟨.ref s.heap.objs.size, _, I.laid (t' := s.toks) (o := .lst (cutV xs lo hi)) (fun b ob q => Heap.get?_push_of_some _ q) (Nat.le_refl _) ?_, rfl, q _ (I.hok.fresh (Nat.le_refl _))⟩
  exact ⟨Nat.le_trans (cutV_length xs lo hi) hz, _, 0, (r.drop (HT.sIx xs.length 0 lo)).take (HT.sIx xs.length xs.length hi - HT.sIx xs.length 0 lo), Heap.get?_push_size _ rfl⟩


theorem call_len_seq : CallR X (.builtin "len") (fun xs H Q => ∃ p ys, xs = [.ref p] ∧ (SqL X.K H p ys ∨ SqT X.K H p ys) ∧ Q (.int ys.length) H) := by
  intro pins s σ H xs us Q I r h
  obtain ⟨p, ys, rfl, hq, q⟩ := h
  obtain ⟨u, rfl, rx⟩ := vals1 r
  cases rx
  have hn := line63
  rcases hq with hq | hq
  · obtain ⟨its, r', pl, hz⟩ := I.list hq
    have hlen := r'.length
    exact Calls.call_len_list pl.isList (by simp only [List.size_toArray] <;> omega) ⟨.int ys.length, H, I.tok _, ⟨s.toks + 1, by rw [List.size_toArray, hlen]⟩, q⟩
  · obtain ⟨its, r', pl, hz⟩ := I.tuple hq
    have hlen := r'.length
    exact len_tuple pl (by simp only [List.size_toArray] <;> omega) ⟨.int ys.length, H, I.tok _, ⟨s.toks + 1, by rw [List.size_toArray, hlen]⟩, q⟩
theorem call_len_str : CallR X (.builtin "len") (fun xs H Q => ∃ z, xs = [.str z] ∧ z.length ≤ sizeLine ∧ Q (.int z.length) H) := by
  intro pins s σ H xs us Q I r h
  obtain ⟨z, rfl, hz, q⟩ := h
  obtain ⟨u, rfl, t, rfl⟩ := vals1 r
  have hn := line63
  exact len_str (by omega) ⟨.int z.length, H, I.tok _, ⟨_, rfl⟩, q⟩
theorem CallR.or {f : Value} {r r' : List V → Hp → VK → Prop} (h : CallR X f r) (h' : CallR X f r') : CallR X f (fun xs H Q => r xs H Q ∨ r' xs H Q) := by
  intro pins s σ H xs us Q I rs q
  rcases q with q | q
  · exact h pins s σ H xs us Q I rs q
  · exact h' pins s σ H xs us Q I rs q
theorem call_list_of : CallR X (.type "list") (fun xs H Q => ∃ p ys, xs = [.ref p] ∧ (SqL X.K H p ys ∨ SqT X.K H p ys) ∧ ∀ l, H l = none → Q (.ref l) (upd H l (.lst ys))) := by
  intro pins s σ H xs us Q I r h
  obtain ⟨p, ys, rfl, hq, q⟩ := h
  obtain ⟨u, rfl, rx⟩ := vals1 r
  cases rx
  have fin : ∀ (its : List Value), Vals ys its → ys.length ≤ sizeLine → ∀ (h' : Heap) (c' : Nat), (∀ b o', s.heap.get? b = some o' → h'.get? b = some o') →
      h'.get? s.heap.objs.size = some { cls := .type "list", dict := none, data := .seq its.toArray c', slots := #[] } → EP X pins σ Q (.ref s.heap.objs.size) { s with heap := h' } := fun its r' hz h' c' kp e =>
    ⟨.ref s.heap.objs.size, _, I.laid (t' := s.toks) kp (Nat.le_refl _) (show ObjOk X.prog X.w _ h' _ (.lst ys) from ⟨hz, its, c', r', e⟩), rfl, q _ (I.hok.fresh (Nat.le_refl _))⟩
  rcases hq with hq | hq
  · obtain ⟨its, r', pl, hz⟩ := I.list hq
    have hlen := r'.length
    obtain ⟨o, ho, hc, n, hd⟩ := pl.isList
    exact call_list_seq p (.inl rfl) ho hc hd (fun h' c' kp e => fin its r' hz h' c' kp e) (by simp only [List.size_toArray] <;> omega)
  · obtain ⟨its, r', pl, hz⟩ := I.tuple hq
    have hlen := r'.length
    obtain ⟨o, ho, hc, n, hd⟩ := pl
    exact call_list_seq p (.inr rfl) ho hc hd (fun h' c' kp e => fin its r' hz h' c' kp e) (by simp only [List.size_toArray] <;> omega)

noncomputable def tyV (K : PySem.W.Frag) (T : String) (x : V) (H : Hp) : Prop := match x with
  | .str _ => T = "str"
  | .int _ => T = "int"
  | .ref p => (T = "list" ∧ ∃ xs, SqL K H p xs) ∨ (T = "tuple" ∧ ∃ o, K.lookup p = some o ∧ o.cls = .type "tuple" ∧ o.dict = none) ∨
      (T = "dict" ∧ ((∃ kvs, H p = some (.dK kvs)) ∨ ∃ kvs, H p = some (.dT kvs))) ∨ (T = "set" ∧ ∃ S n, H p = some (.set S n))
  | _ => False
theorem tyV_is {pins : List (Addr × Obj)} {σ : St} {H : Hp} {s : Shared} {T : String} {x : V} {v : Value} (I : Inv X pins σ H s) (r : RelV x v) (ty : tyV X.K T x H) :
    s.TypeIs v T ∧ ∀ a, v = .ref a → ∃ ob, s.heap.get? a = some ob ∧ ob.dict = none := by
  cases x with
  | str z =>
    obtain ⟨t, rfl⟩ := r
    cases (show T = "str" from ty)
    exact ⟨typeIs_str s z t, fun _ e => nomatch e⟩
  | int i =>
    obtain ⟨t, rfl⟩ := r
    cases (show T = "int" from ty)
    exact ⟨typeIs_int s i t, fun _ e => nomatch e⟩
  | ref p =>
    cases r
    rcases ty with ⟨rfl, xs, hq⟩ | ⟨rfl, o, hk, hc, hd⟩ | ⟨rfl, hk⟩ | ⟨rfl, S, n, hk⟩
    · obtain ⟨its, _, pl, _⟩ := I.list hq
      refine ⟨pl.isList.typeIs, fun a e => ?_⟩
      cases e
      obtain ⟨o, n, e, c, hd, _⟩ := pl
      exact ⟨o, e, hd⟩
    · refine ⟨⟨o, I.kIn p o hk, hc⟩, fun a e => ?_⟩
      cases e
      exact ⟨o, I.kIn _ o hk, hd⟩
    · have z : ∃ o, s.heap.get? p = some o ∧ o.ExactDict := by
        rcases hk with ⟨kvs, hk⟩ | ⟨kvs, hk⟩
        · obtain ⟨_, _, _, _, o, _, _, e, ex, _⟩ := I.hok p _ hk
          exact ⟨o, e, ex⟩
        · obtain ⟨_, _, _, _, o, _, _, e, ex, _⟩ := I.hok p _ hk
          exact ⟨o, e, ex⟩
      obtain ⟨o, e, ex⟩ := z
      refine ⟨⟨o, e, ex.1⟩, fun a e2 => ?_⟩
      cases e2
      exact ⟨o, e, ex.2.1⟩
    · obtain ⟨o, _, _, _, e, ex, _⟩ := I.hok p _ hk
      refine ⟨⟨o, e, ex.1⟩, fun a e2 => ?_⟩
      cases e2
      exact ⟨o, e, ex.2.1⟩
  | _ => exact False.elim ty
noncomputable def tBM0 (K : PySem.W.Frag) (T : String) (r : V → List V → Hp → VK → Prop) (to : TE) : TE := fun σ H Q => to σ H fun x H1 => tyV K T x H1 ∧ r x [] H1 Q
noncomputable def tBM (K : PySem.W.Frag) (T : String) (r : V → List V → Hp → VK → Prop) (to : TE) (t : TA) : TE := fun σ H Q => to σ H fun x H1 => tyV K T x H1 ∧ t σ H1 fun xs H2 => r x xs H2 Q
variable {o e : Expr} {es : List Expr} {to : TE} {t : TA} {name : Str} {apos cpos : Pos} {T id : String} {r : V → List V → Hp → VK → Prop}
theorem pe_bm0 (pa : PlainAttrs T) (slot : Slot T name id) (hty : typeOf (.builtin id) = pure (.type "method_descriptor")) (hm : MtR X id r) (ho : PE X o to)
    (hbase : autoParam (attributeBase o name X.env (eval o X.env) = eval o X.env) aT2._auto_1) (hline : autoParam ((apos.endLine == cpos.line) = true) aT2._auto_1) : PE X (.Call (.Attribute o name apos) [] [] cpos) (tBM0 X.K T r to) := by
  intro pins s σ H Q I h
  refine wpAny_Call_method0_late hbase hline (thn (ho pins s σ H _ I h) fun v s1 hz9 => ?_)
  obtain ⟨x, H1, I1, r1, ty, q1⟩ := hz9
  obtain ⟨h1, h2⟩ := tyV_is I1 r1 ty
  exact ⟨T, id, pa, slot, hty, h1, h2, Calls.callWith_builtin rfl (PySem.evalArgs_none (hm pins s1 σ H1 x [] v [] Q I1 r1 .nil q1))⟩
theorem pe_bm (pa : PlainAttrs T) (slot : Slot T name id) (hty : typeOf (.builtin id) = pure (.type "method_descriptor")) (hm : MtR X id r) (ho : PE X o to) (ha : PA X (e :: es) t)
    (hbase : autoParam (attributeBase o name X.env (eval o X.env) = eval o X.env) aT2._auto_1)
    (hfew : ((backTo cpos (starEach (e :: es) X.env)).all (fun x => !x.1) && (backToKw cpos (keywordEach [] X.env)).all (fun x => x.1.isSome)
      && decide ((e :: es).length + ([] : List Keyword).length + (if ([] : List Keyword).isEmpty then 0 else 1) < 30)) = true := by rfl)
    (hline : autoParam ((apos.endLine == cpos.line) = true) aT2._auto_1) (hs : autoParam (starEach (e :: es) X.env = (false, eval e X.env) :: starEach es X.env) aT2._auto_1) (hplain : autoParam ((backTo cpos (starEach es X.env)).any (·.1) = false) aT2._auto_1) :
    PE X (.Call (.Attribute o name apos) (e :: es) [] cpos) (tBM X.K T r to t) := by
  intro pins s σ H Q I h
  refine wpAny_Call_method_late hbase hfew hline rfl (thn (ho pins s σ H _ I h) fun v s1 hz9 => ?_)
  obtain ⟨x, H1, I1, r1, ty, q1⟩ := hz9
  obtain ⟨h1, h2⟩ := tyV_is I1 r1 ty
  refine ⟨T, id, pa, slot, hty, h1, h2, ?_⟩
  have hA := ha cpos pins s1 σ H1 _ I1 q1
  rw [hs] at hA ⊢
  refine Calls.callWith_builtin (by show (false || (backTo cpos (starEach es X.env)).any (·.1)) = false; rw [hplain] <;> rfl) (Calls.evalArgs_plain ?_)
  exact thn hA fun us s2 ⟨vs, H2, I2, r2, q2⟩ => hm pins s2 σ H2 x vs v us Q I2 r1 r2 q2
/- xs.append(e), list.index on a module's tuple .. are MtR facts of 06m -/
end
end L2

namespace L2
open PySem PySem.Spec PyProof.Rows

noncomputable def MtM (X : Cx) (id : String) (r : V → List V → Hp → VK → Prop) : Prop :=
  ∀ (pins : List (Addr × Obj)) (s : Shared) (σ : St) (H : Hp) (x : V) (xs : List V) (v : Value) (us : List Value) (Q : VK), Inv X pins σ H s → RelV x v → Vals xs us → r x xs H Q →
    wpAny (model X.prog X.w) X.A (call (.builtin id) (v :: us)) (EP X pins σ Q) X.xe s

theorem Vals.one : ∀ {x : V} {us : List Value}, Vals [x] us → ∃ u, us = [u] ∧ RelV x u
  | _, _, .cons r .nil => ⟨_, rfl, r⟩
theorem Vals.zero : ∀ {us : List Value}, Vals [] us → us = []
  | _, .nil => rfl
theorem Vals.rep {xs : List V} {us : List Value} (h : Vals xs us) : ∀ k : Nat, Vals (List.replicate k xs).flatten (List.replicate k us).flatten
  | 0 => .nil
  | k + 1 => by
    rw [List.replicate_succ, List.replicate_succ, List.flatten_cons, List.flatten_cons]
    exact Vals.append h (Vals.rep h k)
theorem foldl_rep (its : List Value) : ∀ (k : Nat) (acc : List Value),
    List.foldl (fun x1 x2 => x1 ++ x2) acc.toArray (List.replicate k its.toArray) = (acc ++ (List.replicate k its).flatten).toArray
  | 0, acc => by simp
  | k + 1, acc => by
    have e : acc.toArray ++ its.toArray = (acc ++ its).toArray := by simp
    have e2 : (acc ++ its) ++ (List.replicate k its).flatten = acc ++ (List.replicate (k + 1) its).flatten := by
      rw [List.replicate_succ, List.flatten_cons, List.append_assoc]
    rw [← e2, ← foldl_rep its k (acc ++ its), ← e, List.replicate_succ, List.foldl_cons]

section
variable {X : Cx} {pins : List (Addr × Obj)} {σ : St} {H : Hp} {s : Shared} {l b : Addr} {xs ys zs : List V}

theorem Inv.lset {its its' : List Value} {n : Nat} {f : Array Value → Array Value} {t' : Nat} (I : Inv X pins σ H s) (hH : H l = some (.lst xs))
    (e : s.heap.get? l = some { cls := .type "list", data := .seq its.toArray n }) (hf : f its.toArray = its'.toArray) (hv : Vals ys its') (hz : ys.length ≤ sizeLine) :
    Inv X pins σ (upd H l (.lst ys)) { s with heap := s.heap.update l (Obj.mapSeq f), toks := t' } := by
  have q := PySem.IsL.update e f
  rw [hf] at q
  refine I.write (x := l) (e := l) (by rw [hH]; exact trivial) (.inl rfl) (fun b' u hb hu => (Heap.get?_update_other s.heap (Obj.mapSeq f) (Ne.symm hb)).trans hu) ⟨_, q⟩ ?_
  exact ⟨hz, its', _, hv, q⟩
theorem Inv.lnew {its : List Value} {t' : Nat} (I : Inv X pins σ H s) (hv : Vals ys its) (hz : ys.length ≤ sizeLine) :
    Inv X pins σ (upd H s.heap.objs.size (.lst ys)) { s with heap := s.heap.push { cls := .type "list", data := .seq its.toArray }, toks := t' } :=
  I.laid (fun _ _ q => Heap.get?_push_of_some _ q) (Nat.le_refl _) ⟨hz, its, 0, hv, Heap.get?_push_size _ rfl⟩
theorem Inv.fresh (I : Inv X pins σ H s) : H s.heap.objs.size = none := I.hok.fresh (Nat.le_refl _)
theorem Inv.lstM (I : Inv X pins σ H s) (hH : H l = some (.lst xs)) : xs.length ≤ sizeLine ∧ ∃ (its : List Value) (n : Nat), Vals xs its ∧ xs.length = its.length ∧ s.heap.get? l = some { cls := .type "list", data := .seq its.toArray n } := by
  obtain ⟨z, its, n, r, e⟩ := I.hok l _ hH
  exact ⟨z, its, n, r, r.length, e⟩

theorem notLongL {n : Nat} (h : n ≤ sizeLine) : Builtin.List.listTooLong n = false := by
  unfold Builtin.List.listTooLong
  exact decide_eq_false (by omega)
end

section
variable {X : Cx}

noncomputable def rAppend : V → List V → Hp → VK → Prop := fun x vs H Q => ∃ l xs y, x = .ref l ∧ vs = [y] ∧ H l = some (.lst xs) ∧ xs.length < sizeLine ∧ Q .non (upd H l (.lst (xs ++ [y])))
theorem mt_append : MtM X "list.append" rAppend := by
  intro pins s σ H x vs v us Q I rx rv h
  obtain ⟨l, xs, y, rfl, rfl, hH, hz, q⟩ := h
  cases rx
  obtain ⟨u, rfl, ru⟩ := rv.one
  obtain ⟨z, its, n, r, hl, e⟩ := I.lstM hH
  refine call_meets F.slot_list_append ⟨_, e, rfl⟩ F.entry_list_append (F.args_list_append_2 _ _) (PySem.list_append l its.toArray n u (by rw [List.size_toArray]; omega)) ⟨e, ?_⟩
  refine ⟨.non, _, I.lset (its' := its ++ [u]) hH e (by simp) (r.append (.cons ru .nil)) ?_, rfl, q⟩
  rw [List.length_append, List.length_singleton]
  omega





noncomputable def rClear : V → List V → Hp → VK → Prop := fun x vs H Q => ∃ l xs, x = .ref l ∧ vs = [] ∧ H l = some (.lst xs) ∧ Q .non (upd H l (.lst []))
theorem mt_clear : MtM X "list.clear" rClear := by
  intro pins s σ H x vs v us Q I rx rv h
  obtain ⟨l, xs, rfl, rfl, hH, q⟩ := h
  cases rx
  have hus := rv.zero
  subst hus
  obtain ⟨z, its, n, r, hl, e⟩ := I.lstM hH
  refine call_meets F.slot_list_clear ⟨_, e, rfl⟩ F.entry_list_clear (F.args_list_clear_1 _) (AutoSeq1.list_clear_list_0 l its.toArray n (by rw [List.size_toArray]; omega)) ⟨e, ?_⟩
  exact ⟨.non, _, I.lset (its' := []) (ys := []) hH e rfl .nil (Nat.zero_le _), rfl, q⟩

noncomputable def rCat : R2 := fun x y H Q => ∃ l b xs zs, x = .ref l ∧ y = .ref b ∧ H l = some (.lst xs) ∧ H b = some (.lst zs) ∧ xs.length + zs.length ≤ sizeLine ∧ ∀ p, H p = none → Q (.ref p) (upd H p (.lst (xs ++ zs)))
theorem op_cat : OpR X (binaryOp .Add) rCat := by
  intro pins s σ H x y v u Q I rx ry h
  obtain ⟨l, b, xs, zs, rfl, rfl, hH, hB, hz, q⟩ := h
  cases rx
  cases ry
  obtain ⟨z, its, n, r, hl, e⟩ := I.lstM hH
  obtain ⟨z2, its2, n2, r2, hl2, e2⟩ := I.lstM hB
  refine PySem.P.add_list e e2 ?_ (by rw [List.size_toArray, List.size_toArray]; omega)
  have ea : its.toArray ++ its2.toArray = (its ++ its2).toArray := by simp
  rw [ea]
  exact ⟨.ref _, _, I.lnew (t' := s.toks) (r.append r2) (by rw [List.length_append]; omega), rfl, q _ I.fresh⟩
noncomputable def rRep : R2 := fun x y H Q => ∃ l k xs, x = .ref l ∧ y = .int k ∧ H l = some (.lst xs) ∧ -(2 ^ 63) ≤ k ∧ k < 2 ^ 63 ∧ xs.length * k.toNat ≤ sizeLine ∧
  ∀ p, H p = none → Q (.ref p) (upd H p (.lst (List.replicate k.toNat xs).flatten))
theorem len_rep {α : Type} (xs : List α) (k : Nat) : (List.replicate k xs).flatten.length = k * xs.length := by
  induction k with
  | zero => simp
  | succ k ih => rw [List.replicate_succ, List.flatten_cons, List.length_append, ih, Nat.succ_mul, Nat.add_comm]
theorem op_rep : OpR X (binaryOp .Mult) rRep := by
  intro pins s σ H x y v u Q I rx ry h
  obtain ⟨l, k, xs, rfl, rfl, hH, h1, h2, hz, q⟩ := h
  cases rx
  obtain ⟨t, rfl⟩ := ry
  obtain ⟨z, its, n, r, hl, e⟩ := I.lstM hH
  have hlen : its.toArray.size * k.toNat ≤ sizeLine := by rw [List.size_toArray, ← hl]; exact hz
  have hcap : ¬ its.toArray.size * k.toNat > (2 ^ 63 - 1) / 8 := by
    have : (sizeLine : Nat) ≤ (2 ^ 63 - 1) / 8 := by decide
    omega
  have hfit : ¬ (!Builtin.List.listFitsIndex k) = true := by
    rw [fitsIndex_both h1 h2]
    exact Bool.false_ne_true
  have hlong : ¬ Builtin.List.listTooLong (its.toArray.size * k.toNat) = true := by
    rw [notLongL hlen]
    exact Bool.false_ne_true
  have hnew : List.foldl (fun x1 x2 => x1 ++ x2) #[] (List.replicate (if its.toArray.isEmpty = true then 0 else k.toNat) its.toArray) = (List.replicate k.toNat its).flatten.toArray := by
    have f0 : ∀ m : Nat, List.foldl (fun x1 x2 => x1 ++ x2) #[] (List.replicate m its.toArray) = (List.replicate m its).flatten.toArray := fun m => by
      have := foldl_rep its m []
      rw [List.nil_append] at this
      exact this
    rw [f0]
    cases its with
    | nil => simp
    | cons a r' => rw [if_neg (by simp)]
  refine wpAny_binaryOp_repeat_ref (T := "list") (U := "int") (by decide) ⟨_, e, rfl⟩ (fun s' => typeIs_int s' k t) noFill_list_mul F.fills_int_mul F.slot_int_rmul repeat_list F.slot_int_index.lookup
    (call_meets F.slot_int_rmul (typeIs_int s k t) F.entry_int_rmul (F.args_int_rmul_2 _ _) (int___rmul___int_list k t l its.toArray n)
      ⟨e, rfl, ⟨_, e, rfl⟩, call_meets F.slot_list_mul ⟨_, e, rfl⟩ F.entry_list_mul (F.args_list_mul_2 _ _) (AutoListH.list___mul___list_int_3 l its.toArray n k t hfit hcap hlong) ⟨e, ?_⟩⟩)
  rw [hnew]
  exact ⟨.ref _, _, I.lnew (t' := s.toks) (r.rep k.toNat) (by rw [len_rep, Nat.mul_comm]; exact hz), rfl, q _ I.fresh⟩

end

section
variable {prog : Program} {w : World} {A : Around} {E : Value → Shared → Prop} {s : Shared}
set_option maxRecDepth 100000 in
end

section
variable {X : Cx}
end
end L2

namespace Att
open PySem PySem.W PySem.Calls PyProof.Rows

theorem ints_of_wellAll {P : Params} {h : Heap} : ∀ (ns : List Int) (vs : List Value), WellAll P h vs (ns.map WData.int) → IntsAre vs ns := by
  intro ns
  induction ns with
  | nil =>
    intro vs w
    rw [List.map_nil] at w
    cases w
    exact .nil
  | cons n ns ih =>
    intro vs w
    rw [List.map_cons] at w
    cases w with
    | cons a b =>
      cases a
      exact .cons _ _ (ih _ b)

theorem script_of {l : OpenLaw} {n : Nat} (hn : l.most = some n) {P : Params} {h : Heap} {args : List WData} {vals : List Value}
    (hpre : l.row.toRowW.claim.pre args = true) (hwl : WellAll P h vals args) :
    ∃ a vs ns, vals = [Value.ref a] ∧ args = [WData.list (ns.map WData.int)] ∧ h.get? a = some { cls := .type "list", data := .seq vs.toArray } ∧ IntsAre vs ns ∧ ns.length ≤ n := by
  have hsh : WShape.hasAll [] args [.list .int] = true := (pre_splitW hpre).1
  have hc : l.pre.holds [] { args := args } = true := (pre_splitW hpre).2
  obtain ⟨d, r, rfl, h1, h2⟩ := hasAllW_cons hsh
  obtain rfl := hasAllW_nil h2
  obtain ⟨xs, rfl, h3⟩ := hasW_list h1
  obtain ⟨ns, rfl⟩ := items_int h3
  have hlen : ns.length ≤ n := by
    unfold OpenLaw.pre at hc
    have h4 : (WTm.not (.lt (.lit (.int (n : Int))) (.len (.arg 0)))).holds [] { args := [.list (ns.map .int)] } = true := by
      have h4 := (holds_andW hc).1
      rw [hn] at h4
      exact h4
    have h5 := condW_of h4 (w_not (w_lt w_lit (w_len_list (w_arg rfl))))
    rw [List.length_map] at h5
    refine Nat.le_of_not_lt fun q => ?_
    have q' : (n : Int) < ((ns.length : Nat) : Int) := by omega
    first
      | (rw [decide_eq_true q'] at h5; exact absurd h5 (by decide))
      | (simp at h5; omega)
  cases hwl with
  | cons w1 w2 =>
    cases w2
    cases w1 with
    | list ho hall => exact ⟨_, _, ns, rfl, rfl, ho, ints_of_wellAll ns _ hall, hlen⟩

theorem post_true (l : OpenLaw) (args : List WData) : l.row.toRowW.claim.post args (.bool true) args = true :=
  postW_of (r := l.row.toRowW) (X := (true == true))
    (show WShape.has [] (.bool true) .bool = true by first | rfl | decide | simp [WShape.has, WShape.arms, WShape.armsAll])
    (show (WTm.eq .res (.lit (.bool true))).value [] { args := args, res := some (.bool true), after := args } = some (.bool (true == true)) from w_eq_bool (w_res rfl) w_lit) rfl


theorem attach_call {l : OpenLaw} {n : Nat} {q : Program} {loose : List Str} {XP : (Str → Option Value) → Heap → Prop} {YP : World → Heap → Prop} {d : DefRec}
    (hn : l.most = some n) (hdf : d.params.defaults = [])
    (call : ∀ (w : World) (s₀ s₁ : Shared) (mg mb : Str → Option Value) (fa : Addr) (o : Obj) (pm cd doc : Value) (a : Addr) (vs : List Value) (ns : List Int),
      Ground q loose [] XP w s₀ mg mb s₁.heap → YP w s₁.heap →
      s₁.heap.get? fa = some o → o.data = .func (docDef d.name d.params d.body d.scope pm cd doc) → s₁.heap.CodeRec cd d.name → mg d.name = some (.ref fa) →
      s₁.heap.get? a = some { cls := .type "list", data := .seq vs.toArray } → IntsAre vs ns → ns.length ≤ n → s₁.gens = #[] →
      codeAny (model l.prog w) callerA (.call (.ref fa) ⟨[.ref a], []⟩) (fun r s' => r = .ok (.ret (.bool true)) ∧ OldK s₁.heap s'.heap ∧ s'.os = s₁.os ∧ AllBare s'.gens) s₁) :
    WalkO q loose XP YP l.row.toRowW d [] (fun f vs => PySem.call f vs) := by
  intro w s₀ s₁ mg mb G Y fa o pm cd doc dV kV ho hd hcd hD hmg hg args vals as hpre hlay hrd hwl hlo
  obtain rfl : dV = .none := Dflts.none hD hdf
  obtain rfl : kV = .none := Dflts.noKw hD
  obtain ⟨a, vs, ns, rfl, rfl, hobj, hints, hlen⟩ := script_of hn hpre hwl
  refine enter_call (codeAny_mono (call w s₀ s₁ mg mb fa o pm cd doc a vs ns G Y ho (fd_plain hd) hcd hmg hobj hints hlen hg) fun r s' hq => ?_)
  obtain ⟨rfl, h2, h3, h4⟩ := hq
  exact ⟨.inl ⟨.bool true, .bool true, [], rfl, fun _ => rfl, .bool true, post_true l _, fun _ => ⟨List.Pairwise.nil, fun _ hm => (nomatch hm)⟩⟩, h2, h3, h4⟩


section
variable {prog : Program} {w : World} {A : Around} {E : Value → Shared → Prop} {s : Shared} {K : Frag}






end
end Att

namespace L2
open PySem PySem.Spec PyProof.Rows

theorem vals_ints : ∀ {vs : List Value} {ns : List Int}, IntsAre vs ns → Vals (ns.map V.int) vs
  | _, _, .nil => .nil
  | _, _, .cons n t h => .cons ⟨t, rfl⟩ (vals_ints h)

noncomputable def Only (H : Hp) : Prop := ∀ b, H b = none ∨ ∃ o xs, H b = some (.frz o (.lst xs))

theorem law_call {P : Program} {w : World} {K : PySem.W.Frag} {mg mb : Str → Option Value} {CX : CXT} {k : Nat} {fa a : Addr} {fd : FuncData} {x : Str} {sp : Sp} {s₁ : Shared} {vs : List Value} {ns : List Int}
    (KX : K.In s₁.heap) (hns : s₁.heap.Ns mainGlobals mg) (hb : s₁.heap.Ns builtinsNs mb) (hbb : ∀ x : Str, x ≠ "__name__" → mb x = bootBuiltins x) (hlim : s₁.heap.NoLimit) (hg : s₁.gens = #[])
    (ha : s₁.heap.get? a = some { cls := .type "list", data := .seq vs.toArray }) (hi : IntsAre vs ns) (hl : ns.length ≤ sizeLine) (hr : Room k callerA)
    (F : ∀ base : Heap, K.In base → base.Ns mainGlobals mg → FnOk P w K mg base CX k fa fd [x] sp) (hbind : ∀ (s : Shared) (u : Value), BindsTo s fd ⟨[u], []⟩ [(x, u)])
    (hsp : ∀ H : Hp, Only H → SqL K H a (ns.map V.int) → sp [.ref a] H (fun v _ => v = .bl true) fun _ _ _ => False)
    (hCX : ∀ H e s', CX [] H s₁ (fun _ _ _ => False) e s' → False) :
    codeAny (model P w) callerA (.call (.ref fa) ⟨[.ref a], []⟩) (fun r s' => r = .ok (.ret (.bool true)) ∧ OldK s₁.heap s'.heap ∧ s'.os = s₁.os ∧ AllBare s'.gens) s₁ := by
  have rv := vals_ints hi
  have lenV := hi.length
  have core : ∀ H : Hp, Only H → SqL K H a (ns.map V.int) → HOk P w H s₁.heap → (∀ b, H b ≠ none → b = a) → (H a ≠ none → K.lookup a = none) →
      codeAny (model P w) callerA (.call (.ref fa) ⟨[.ref a], []⟩) (fun r s' => r = .ok (.ret (.bool true)) ∧ OldK s₁.heap s'.heap ∧ s'.os = s₁.os ∧ AllBare s'.gens) s₁ := by
    intro H hO hS hok hA hK
    have base_of : ∀ {b : Addr} {o : Obj}, s₁.heap.get? b = some o → H b = none → (hidT s₁.heap H).get? b = some o := fun e n => hidT_get e n
    have noA : ∀ {b : Addr} {o : Obj} {es : Array DictEntry} {ep : Nat}, s₁.heap.get? b = some o → o.data = .dict es ep → H b = none := fun {b o es ep} e d => by
      cases q : H b with
      | none => rfl
      | some u =>
        have e' : b = a := hA b (by rw [q]; simp)
        subst e'
        rw [ha] at e; cases e
        have d' : Data.seq vs.toArray _ = Data.dict es ep := d
        cases d'
    have nsK : ∀ {b : Addr} {m : Str → Option Value}, s₁.heap.Ns b m → (hidT s₁.heap H).Ns b m := fun {b m} ⟨o, es, ep, e, d, r⟩ => ⟨o, es, ep, base_of e (noA e d), d, r⟩
    have hKb : K.In (hidT s₁.heap H) := fun b o e => base_of (KX b o e) (by
      cases q : H b with
      | none => rfl
      | some u =>
        have e' : b = a := hA b (by rw [q]; simp)
        subst e'
        rw [hK (by rw [q]; simp)] at e; cases e)
    have hM : Mod K mg (hidT s₁.heap H) := ⟨hKb, nsK hns, ⟨mb, nsK hb, hbb⟩, let ⟨mc, h1, h2⟩ := hlim; ⟨mc, nsK h1, h2⟩⟩
    have e0 : Env0 P w K mg (hidT s₁.heap H) callerA [] s₁ H := ⟨rfl, hM, fun b o e => of_hidT e, Nat.le_of_eq (hidT_size _ _), trivial, fun b hb => absurd (show b ∈ ([] : List Addr) from hb) (by simp), hok, .of_eq hg⟩
    refine codeAny_mono ((F _ hKb (nsK hns)).run callerA [] s₁ H ⟨[.ref a], []⟩ [.ref a] [.ref a] _ _ hr e0 (hbind s₁ (.ref a)) (.cons rfl .nil) (hsp H hO hS)) fun r s' h => ?_
    cases r with
    | error e => exact (hCX H e s' h).elim
    | ok fl =>
      cases fl with
      | next => exact False.elim h
      | brk => exact False.elim h
      | cont => exact False.elim h
      | ret u =>
        obtain ⟨v, H', os, bare, un, hok', r', q⟩ := h
        have q' : v = .bl true := q
        subst q'
        obtain rfl : u = Value.bool true := r'
        refine ⟨rfl, OldK.of_keep fun b o e => ?_, os, bare⟩
        cases q : H b with
        | none => exact un.keep b o e q (by intro z; exact absurd (show b ∈ ([] : List Addr) from z) (by simp)) (by simp)
        | some u =>
          rcases hO b with z | ⟨ob, xs, z⟩
          · rw [q] at z; cases z
          · have z2 := un.frzs b ob _ z
            obtain ⟨e1, _⟩ := hok b _ z
            obtain ⟨e2, _⟩ := hok' b _ z2
            rw [e] at e1; cases e1
            exact e2
  cases hk : K.lookup a with
  | some o =>
    have e := KX a o hk
    rw [ha] at e
    cases e
    refine core (fun _ => none) (fun _ => .inl rfl) (.inr ⟨_, vs.toArray, _, hk, rfl, rfl, rfl, by rw [List.size_toArray, lenV]; exact hl, by simpa using rv⟩) (fun b u z => by have z' : (none : Option HO) = some u := z; cases z') (fun b z => absurd rfl z) fun z => absurd rfl z
  | none =>
    refine core (fun b => if b = a then some (.frz { cls := .type "list", data := .seq vs.toArray } (.lst (ns.map V.int))) else none) (fun b => ?_) (.inl (.inr ⟨{ cls := .type "list", data := .seq vs.toArray }, if_pos rfl⟩)) (fun b u z => ?_) (fun b z => ?_) fun _ => hk
    · by_cases hb : b = a
      · exact .inr ⟨_, _, if_pos hb⟩
      · exact .inl (if_neg hb)
    · by_cases hb : b = a
      · have z' := (if_pos hb).symm.trans z
        cases z'
        subst hb
        exact ⟨ha, by rw [List.length_map]; exact hl, vs, _, rv, ha⟩
      · have z' := (if_neg hb).symm.trans z
        cases z'
    · by_cases hb : b = a
      · exact hb
      · exact absurd (if_neg hb) z
end L2

namespace L2
open PySem PySem.Spec PyProof.Rows

noncomputable abbrev KOf {K : PySem.W.Frag} {h : Heap} (_ : K.In h) : PySem.W.Frag := K

theorem walk_of {l : PySem.W.OpenLaw} {n k : Nat} {q : Program} {loose : List Str} {XP : (Str → Option Value) → Heap → Prop} {YP : World → Heap → Prop} {d : DefRec} {K : Params → PySem.W.Frag} {CX : World → CXT} {sp : World → Sp} {x : Str}
    (hn : l.most = some n) (hn2 : n ≤ sizeLine) (hdf : d.params.defaults = []) (hr : Room k callerA)
    (hY : ∀ (w : World) (h : Heap), YP w h → (K w.params).In h)
    (F : ∀ (w : World) (mg : Str → Option Value) (fa : Addr) (h : Heap), (K w.params).In h → h.Ns mainGlobals mg → mg d.name = some (.ref fa) →
      ∃ fd : FuncData, (∀ (s : Shared) (u : Value), BindsTo s fd ⟨[u], []⟩ [(x, u)]) ∧
        ∀ base : Heap, (K w.params).In base → base.Ns mainGlobals mg → FnOk l.prog w (K w.params) mg base (CX w) k fa fd [x] (sp w))
    (hsp : ∀ (w : World) (H : Hp) (a : Addr) (ns : List Int), ns.length ≤ n → Only H → SqL (K w.params) H a (ns.map V.int) → sp w [.ref a] H (fun v _ => v = .bl true) fun _ _ _ => False)
    (hCX : ∀ (w : World) (H : Hp) (s : Shared) (e : Value) (s' : Shared), CX w [] H s (fun _ _ _ => False) e s' → False) :
    PySem.W.WalkO q loose XP YP l.row.toRowW d [] (fun f vs => PySem.call f vs) := by
  refine Att.attach_call hn hdf fun w s₀ s₁ mg mb fa o pm cd doc a vs ns G Y ho hd hcd hmg hobj hints hlen hg => ?_
  have KX := hY w _ Y
  obtain ⟨fd, hb, hF⟩ := F w mg fa _ KX G.T.g hmg
  exact law_call KX G.T.g G.T.b G.T.builtins G.T.nolimit hg hobj hints (Nat.le_trans hlen hn2) hr hF hb (fun H hO hS => hsp w H a ns hlen hO hS) fun H e s' => hCX w H s₁ e s'
end L2

/- THE LAST THEOREM (shape; LID, My.* are yours):
   My.Adr: a structure of the addresses that your layer names (classes, functions); My.Txt K t: a structure (Prop) of the equations over K;
   My.txt_mk : {K} {implicit addresses ..} (e1 : nsIn K mainGlobals "law" = some (some (.ref f))) (e2 : K.lookup f = some ⟨oc, od, .func (fnOf "law" "law" params body scope dV kV doc pm an cdv ct), sl⟩) (e3 : codeIn K cdv "law" = true) .. : ∃ t, My.Txt K t

set_option maxRecDepth 100000 in
set_option maxHeartbeats 0 in
theorem PySem.Challenge.cw_LID_holds : PySem.Challenge.rw_LID.Holds := by
  w_on; o_law; k_head; (case hw => w_witness2)
  k_fill
  refine L2.walk_of (l := PySem.Challenge.rw_LID) (n := 63) (k := 40) (x := "script") (CX := fun w => ..) (sp := fun _ => My.sp_law) rfl (by decide) rfl ⟨rfl, by decide, by decide⟩ (fun w h Y => PySem.W.kIn_of Y) ?F ?S ?C
  case F =>
    intro w mg fa h KX G hmg
    have T : ∃ t, My.Txt (L2.KOf KX) t := by
      dsimp only [L2.KOf]                          -- K must stand as «<heap const> w.params» for k_is
      refine' My.txt_mk ?e1 ?e2 ?e3 ..
      (case e1 => PySem.W.k_is)                    -- in the order: a name -> its address -> its object -> its parts
      (case e2 => PySem.W.k_is)
      ..
    obtain ⟨t, T⟩ := T
    have e0 := hmg.symm.trans (PySem.W.mg_of KX G T.law)
    cases e0                                       -- fa is the law's own address
    exact ⟨_, fun s u => .of_eq rfl, fun base kb nb => My.law_fn T kb nb⟩     -- if «.of_eq rfl» comes too early: refine' ⟨_, ?b, fun base kb nb => My.law_fn T kb nb⟩; exact fun s u => .of_eq rfl
  case S => exact fun w H a ns hl hO hS => ..
  case C => exact ..
(the tactic k_is has no namespace: write k_is) -/

namespace L2
open PySem PySem.Spec PyProof.Rows

noncomputable def defArgs (s : Stmt) : Arguments := match s with
  | .FunctionDef _ a _ _ _ _ _ _ _ _ => a
  | _ => { posonlyargs := [], args := [], vararg := none, kwonlyargs := [], kw_defaults := [], kwarg := none, defaults := [] }
noncomputable def defBody (s : Stmt) : List Stmt := match s with
  | .FunctionDef _ _ b _ _ _ _ _ _ _ => b
  | _ => []
noncomputable def defScope (s : Stmt) : Scope := match s with
  | .FunctionDef _ _ _ _ _ _ sc _ _ _ => sc
  | _ => { kind := .function, names := [], isGenerator := false, isCoroutine := false }

noncomputable abbrev CX0 : CXT := fun _ _ _ _ _ _ => False
noncomputable abbrev E0 : XK := fun _ _ _ => False
theorem pass0 {X : Cx} : Passes CX0 X E0 := fun _ _ _ _ _ _ _ h => h.elim

structure Fun (K : PySem.W.Frag) (x qual : Str) (st : Stmt) (f : Addr) (fd : FuncData) : Prop where
  ex : ∃ (oc : Value) (od : Option Addr) (kV doc pm : Value) (an : Option Addr) (cdv ct : Value) (osl : Array (Option Value)),
    fd = PySem.W.fnOf x qual (defArgs st) (defBody st) (defScope st) .none kV doc pm an cdv ct ∧ K.lookup f = some ⟨oc, od, .func fd, osl⟩ ∧ PySem.W.codeIn K cdv qual = true
  kp : PySem.W.keepIn K (.ref f) = true
section
variable {P : Program} {w : World} {K : PySem.W.Frag} {mg : Str → Option Value} {base : Heap}
theorem Fun.ok {x qual : Str} {st : Stmt} {f : Addr} {fd : FuncData} {N ps : List Str} {k : Nat} {sp : Sp} (F : Fun K x qual st f fd) (S : FnScope N ps (defScope st)) (len : ∀ vs H Q E, sp vs H Q E → vs.length = ps.length)
    (hbody : ∀ (cdv : Value) (A : Around) (outer : List Env) (s : Shared) (H : Hp) (vs : List V) (Q : VK) (E : XK), Room k (A.deeper (envOfC qual (defScope st) s.heap.objs.size f cdv)) → sp vs H Q E →
      ∃ t, PSs (cxOf CX0 P w K mg base N qual (defScope st) f cdv A outer s H E).nox (defBody st) t ∧ t { nx := fun _ H' => Q .non H', rt := Q } (start N vs) H) : FnOk P w K mg base CX0 (k + 1) f fd ps sp := by
  obtain ⟨oc, od, kV, doc, pm, an, cdv, ct, osl, rfl, lk, hcd⟩ := F.ex
  refine fn_of lk hcd S len fun A outer s H vs Q E hr hsp => ?_
  obtain ⟨t, h, q⟩ := hbody cdv A outer s H vs Q E hr hsp
  exact ⟨t, h.nox, q⟩
theorem Fun.binds {x qual : Str} {st : Stmt} {f : Addr} {fd : FuncData} {ps : List Str} (F : Fun K x qual st f fd)
    (h : ∀ (kV doc pm : Value) (an : Option Addr) (cdv ct : Value) (us : List Value), us.length = ps.length → bindArgs (PySem.W.fnOf x qual (defArgs st) (defBody st) (defScope st) .none kV doc pm an cdv ct) ⟨us, []⟩ = pure (ps.zip us)) : Binds K fd ps [] := by
  obtain ⟨oc, od, kV, doc, pm, an, cdv, ct, osl, rfl, lk, hcd⟩ := F.ex
  exact .all (h kV doc pm an cdv ct)
theorem fun_mk {x qual : Str} {st : Stmt} {f : Addr} {oc : Value} {od an : Option Addr} {osl : Array (Option Value)} {kV doc pm cdv ct : Value} (l : K.lookup f = some ⟨oc, od, .func (PySem.W.fnOf x qual (defArgs st) (defBody st) (defScope st) .none kV doc pm an cdv ct), osl⟩)
    (c : PySem.W.codeIn K cdv qual = true) (k : PySem.W.keepIn K (.ref f) = true) : Fun K x qual st f (PySem.W.fnOf x qual (defArgs st) (defBody st) (defScope st) .none kV doc pm an cdv ct) := ⟨⟨oc, od, kV, doc, pm, an, cdv, ct, osl, rfl, l, c⟩, k⟩
end

section
variable {X : Cx}
theorem pv (i : Nat) {x : Str} {pos : Pos} (hN : autoParam (X.N[i]? = some x) aT2._auto_1) (hv : autoParam (Vis X.env.scope x) aT3._auto_1) (hd : autoParam ((x == ("__debug__" : Str)) = false) aT1._auto_1)
    (hcd : autoParam ((x == ("__classdict__" : Str)) = false) aT1._auto_1) : PE X (.Name x pos) (tVar i) := pe_var hN hv hd hcd
end


noncomputable def Same (H H' : Hp) : Prop := ∀ b o, H b = some o → H' b = some o
theorem Same.refl (H : Hp) : Same H H := fun _ _ h => h
theorem Same.trans {H H1 H2 : Hp} (a : Same H H1) (b : Same H1 H2) : Same H H2 := fun c o h => b c o (a c o h)
theorem Same.free {H H' : Hp} (e : Same H H') {l : Addr} (h : H' l = Option.none) : H l = Option.none := by
  cases q : H l with
  | none => rfl
  | some o =>
    rw [e l o q] at h
    cases h

end L2

namespace L2
open PySem PySem.Spec PyProof.Rows

theorem star_bin {a b : Expr} {op : Operator} {pos : Pos} {es : List Expr} {env : Env} : starEach (.BinOp a op b pos :: es) env = (false, eval (.BinOp a op b pos) env) :: starEach es env := rfl

theorem star_const {c : Const} {k : Nat} {pos : Pos} {es : List Expr} {env : Env} : starEach (.Constant c k pos :: es) env = (false, eval (.Constant c k pos) env) :: starEach es env := rfl
theorem star_name {x : Str} {pos : Pos} {es : List Expr} {env : Env} : starEach (.Name x pos :: es) env = (false, eval (.Name x pos) env) :: starEach es env := rfl
theorem star_sub {a b : Expr} {pos : Pos} {es : List Expr} {env : Env} : starEach (.Subscript a b pos :: es) env = (false, eval (.Subscript a b pos) env) :: starEach es env := rfl
theorem star_call {a : Expr} {as : List Expr} {ks : List Keyword} {pos : Pos} {es : List Expr} {env : Env} : starEach (.Call a as ks pos :: es) env = (false, eval (.Call a as ks pos) env) :: starEach es env := rfl
theorem star_list {as : List Expr} {pos : Pos} {es : List Expr} {env : Env} : starEach (.List as pos :: es) env = (false, eval (.List as pos) env) :: starEach es env := rfl
theorem star_tup {as : List Expr} {k : Nat} {pos : Pos} {es : List Expr} {env : Env} : starEach (.Tuple as k pos :: es) env = (false, eval (.Tuple as k pos) env) :: starEach es env := rfl
theorem star_un {op : UnaryOp} {a : Expr} {pos : Pos} {es : List Expr} {env : Env} : starEach (.UnaryOp op a pos :: es) env = (false, eval (.UnaryOp op a pos) env) :: starEach es env := rfl
theorem star_comp {a : Expr} {gs : List Comprehension} {sc : Scope} {pos : Pos} {es : List Expr} {env : Env} : starEach (.ListComp a gs sc pos :: es) env = (false, eval (.ListComp a gs sc pos) env) :: starEach es env := rfl
theorem plain_sub {a b : Expr} {pos : Pos} : PlainIx (.Subscript a b pos) := fun _ _ => rfl
theorem plain_name {x : Str} {pos : Pos} : PlainIx (.Name x pos) := fun _ _ => rfl
theorem plain_const {c : Const} {k : Nat} {pos : Pos} : PlainIx (.Constant c k pos) := fun _ _ => rfl
theorem plain_bin {a b : Expr} {op : Operator} {pos : Pos} : PlainIx (.BinOp a op b pos) := fun _ _ => rfl

noncomputable def rAddA : R2 := fun x y H Q => rI0 (fun i j => .int (i + j)) x y H Q ∨ (∃ i j, x = .str i ∧ y = .str j ∧ i.length + j.length ≤ sizeLine ∧ Q (.str (i ++ j)) H) ∨ rCat x y H Q
noncomputable def rMulA : R2 := fun x y H Q => rI CMul (fun i j => .int (i * j)) x y H Q ∨ rRep x y H Q
noncomputable def CDivL (_ j : Int) : Prop := 0 < j ∧ j < 2 ^ 200
section
variable {X : Cx}
theorem op_addA : OpR X (binaryOp .Add) rAddA := op_add.or (op_add_str.or op_cat)
theorem op_mulA : OpR X (binaryOp .Mult) rMulA := op_mul.or op_rep
theorem log2_small {j : Int} (h1 : 0 < j) (h2 : j < 2 ^ 200) : j.natAbs.log2 < 9000 := by
  have h3 : j.natAbs < 2 ^ 200 := by omega
  exact Nat.lt_trans ((Nat.log2_lt (by omega)).mpr h3) (by decide)
theorem op_fdivL : OpR X (binaryOp .FloorDiv) (rI CDivL fun i j => .int (i / j)) := opI fun i j _ _ _ _ _ hc q => by
  have h1 : (0 : Int) < j := hc.1
  have h2 : j < 2 ^ 200 := hc.2
  exact floordiv_int (by omega) (by rw [Int.fdiv_eq_ediv_of_nonneg i (by omega)]; exact q) (.inl (PyProof.noPylong_of_log2 (log2_small h1 h2)))
end

mutual
inductive Dn (K : PySem.W.Frag) (H : Hp) : V → PyData → Prop
  | non : Dn K H .non .none
  | bl (b : Bool) : Dn K H (.bl b) (.bool b)
  | int (i : Int) : Dn K H (.int i) (.int i)
  | str (x : Str) : Dn K H (.str x) (.str x)
  | lst {a : Addr} {xs : List V} {ds : List PyData} : SqL K H a xs → DnA K H xs ds → Dn K H (.ref a) (.list ds)
  | tup {a : Addr} {xs : List V} {ds : List PyData} : SqT K H a xs → DnA K H xs ds → Dn K H (.ref a) (.tuple ds)
inductive DnA (K : PySem.W.Frag) (H : Hp) : List V → List PyData → Prop
  | nil : DnA K H [] []
  | cons {x : V} {d : PyData} {xs : List V} {ds : List PyData} : Dn K H x d → DnA K H xs ds → DnA K H (x :: xs) (d :: ds)
end



section
variable {X : Cx} {pins : List (Addr × Obj)} {σ : St} {H : Hp} {s : Shared}
mutual
theorem Dn.reads (I : Inv X pins σ H s) : ∀ {x : V} {d : PyData} {u : Value}, Dn X.K H x d → RelV x u → ∃ as, Reads s.heap u d as
  | _, _, _, .non, r => by cases (show _ = Value.none from r); exact ⟨_, .none⟩
  | _, _, _, .bl b, r => by cases (show _ = Value.bool b from r); exact ⟨_, .bool b⟩
  | _, _, _, .int i, r => by obtain ⟨t, q⟩ := (show ∃ t, _ = Value.int i t from r); cases q; exact ⟨_, .int i t⟩
  | _, _, _, .str x, r => by obtain ⟨t, q⟩ := (show ∃ t, _ = Value.str x t from r); cases q; exact ⟨_, .str x t⟩
  | _, _, _, .lst (a := a) h ra, r => by
    cases (show _ = Value.ref a from r)
    obtain ⟨its, rv, pl, _⟩ := I.list h
    obtain ⟨as, q⟩ := DnA.reads I ra rv
    obtain ⟨o, ho, hc, n, hd⟩ := pl.isList
    exact ⟨_, .list ho hc hd q⟩
  | _, _, _, .tup (a := a) h ra, r => by
    cases (show _ = Value.ref a from r)
    obtain ⟨its, rv, pl, _⟩ := I.tuple h
    obtain ⟨as, q⟩ := DnA.reads I ra rv
    obtain ⟨o, ho, hc, n, hd⟩ := pl
    exact ⟨_, .tuple ho hc hd q⟩
theorem DnA.reads (I : Inv X pins σ H s) : ∀ {xs : List V} {ds : List PyData} {us : List Value}, DnA X.K H xs ds → Vals xs us → ∃ as, ReadsAll s.heap us ds as
  | _, _, _, .nil, .nil => ⟨_, .nil⟩
  | _, _, _, .cons h ra, .cons r rs => by
    obtain ⟨as, q⟩ := Dn.reads I h r
    obtain ⟨bs, q'⟩ := DnA.reads I ra rs
    exact ⟨_, .cons q q'⟩
end
end

noncomputable def rEqD (K : PySem.W.Frag) : R2 := fun x y H Q => ∃ dx dy, Dn K H x dx ∧ Dn K H y dy ∧ SeqAt.shaped dx = true ∧ SeqAt.shaped dy = true ∧ Q (.bl (PyData.eqv dx dy)) H
noncomputable def rNeD (K : PySem.W.Frag) : R2 := fun x y H Q => ∃ dx dy, Dn K H x dx ∧ Dn K H y dy ∧ SeqAt.shaped dx = true ∧ SeqAt.shaped dy = true ∧ Q (.bl (!PyData.eqv dx dy)) H
noncomputable def rEqA (K : PySem.W.Frag) : R2 := fun x y H Q => rEq x y H Q ∨ rEqD K x y H Q
noncomputable def rNeA (K : PySem.W.Frag) : R2 := fun x y H Q => rNe x y H Q ∨ rNeD K x y H Q
section
variable {X : Cx}
theorem op_eqD (hu : X.A.units + 64 < cLine) : OpR X (compareOp .Eq) (rEqD X.K) := by
  intro pins s σ H x y v u Q I rx ry h
  obtain ⟨dx, dy, h1, h2, s1, s2, q⟩ := h
  obtain ⟨as, ra⟩ := h1.reads I rx
  obtain ⟨bs, rb⟩ := h2.reads I ry
  exact eq_dataH ra rb s1 s2 hu ⟨.bl _, H, I, rfl, q⟩
theorem op_neD (hu : X.A.units + 64 < cLine) : OpR X (compareOp .NotEq) (rNeD X.K) := by
  intro pins s σ H x y v u Q I rx ry h
  obtain ⟨dx, dy, h1, h2, s1, s2, q⟩ := h
  obtain ⟨as, ra⟩ := h1.reads I rx
  obtain ⟨bs, rb⟩ := h2.reads I ry
  exact ne_dataH ra rb s1 s2 hu ⟨.bl _, H, I, rfl, q⟩
theorem op_eqA (hu : X.A.units + 64 < cLine) : OpR X (compareOp .Eq) (rEqA X.K) := op_eq.or (op_eqD hu)
theorem op_neA (hu : X.A.units + 64 < cLine) : OpR X (compareOp .NotEq) (rNeA X.K) := op_ne.or (op_neD hu)
end

noncomputable def rLenA (K : PySem.W.Frag) : List V → Hp → VK → Prop := fun xs H Q => (∃ p ys, xs = [.ref p] ∧ (SqL K H p ys ∨ SqT K H p ys) ∧ Q (.int ys.length) H) ∨ ∃ z, xs = [.str z] ∧ z.length ≤ sizeLine ∧ Q (.int z.length) H
noncomputable def rIsI (K : PySem.W.Frag) : List V → Hp → VK → Prop := fun xs H Q => ∃ x c t b, xs = [x, .ty c] ∧ TyOf K H x t ∧ PySem.W.kitOne K t (.type c) = some b ∧ Q (.bl b) H
noncomputable def rngV (lo : Int) (n : Nat) : List V := (List.range n).map fun (k : Nat) => V.int (lo + (k : Int))
noncomputable def rList (K : PySem.W.Frag) : List V → Hp → VK → Prop := fun xs H Q => (∃ p ys, xs = [.ref p] ∧ (SqL K H p ys ∨ SqT K H p ys) ∧ ∀ l, H l = none → Q (.ref l) (upd H l (.lst ys))) ∨
  ∃ p i j, xs = [.ref p] ∧ H p = some (.rng i j) ∧ -(2 ^ 62) ≤ i ∧ i < 2 ^ 62 ∧ -(2 ^ 62) ≤ j ∧ j < 2 ^ 62 ∧ (j - i).toNat ≤ 1000000 ∧ ∀ l, H l = none → Q (.ref l) (upd H l (.lst (rngV i (j - i).toNat)))
section
variable {X : Cx}
theorem call_lenA : CallR X (.builtin "len") (rLenA X.K) := call_len_seq.or call_len_str
theorem call_isinst : CallR X (.builtin "isinstance") (rIsI X.K) := by
  intro pins s σ H xs us Q I r h
  obtain ⟨x, c, t, b, rfl, ty, e, q⟩ := h
  obtain ⟨u, w', rfl, rx, ry⟩ := vals2 r
  cases (show w' = Value.type c from ry)
  exact isinst_ok I rx ty e fun tk => ⟨.bl b, H, I.tok _, rfl, q⟩
theorem call_list_rng (hc : X.calm = true) : CallR X (.type "list") (fun xs H Q => ∃ p i j, xs = [.ref p] ∧ H p = some (.rng i j) ∧ -(2 ^ 62) ≤ i ∧ i < 2 ^ 62 ∧ -(2 ^ 62) ≤ j ∧ j < 2 ^ 62 ∧ (j - i).toNat ≤ 1000000 ∧
    ∀ l, H l = none → Q (.ref l) (upd H l (.lst (rngV i (j - i).toNat)))) := by
  intro pins s σ H xs us Q I r h
  obtain ⟨p, i, j, rfl, hH, h1, h2, h3, h4, h5, q⟩ := h
  obtain ⟨u, rfl, rx⟩ := vals1 r
  cases rx
  obtain ⟨t, u, v, e⟩ := I.hok p _ hH
  have en : Builtin.Range.rangeSize i j 1 = (((j - i).toNat : Nat) : Int) := by rw [rangeSize_one]; split <;> omega
  refine call_list_range (n := (j - i).toNat) (I.ok.hd hc) e (small_one h1 h2 h3 h4) en (Nat.le_trans h5 (by decide)) fun h' tk acc' c' hk hg hit => ?_
  refine ⟨.ref s.heap.objs.size, _, I.laid (t' := tk) hk (Nat.le_refl _) (show ObjOk X.prog X.w _ h' _ (.lst (rngV i (j - i).toNat)) from ⟨?_, acc'.toList, c', ?_, ?_⟩), rfl, q _ I.fresh⟩
  · unfold rngV
    rw [List.length_map, List.length_range]
    exact Nat.le_trans h5 (by decide)
  · obtain ⟨hsz, hv⟩ := hit
    have key : ∀ (k : Nat) (l : List Value) (lo : Int), l.length = k → (∀ (m : Nat) (v : Value), l[m]? = some v → ∃ t, v = Value.int (lo + (m : Int)) t) → Vals (rngV lo k) l := by
      intro k
      induction k with
      | zero =>
        intro l lo hl _
        rw [List.length_eq_zero_iff.mp hl]
        exact .nil
      | succ k ih =>
        intro l lo hl hv
        cases l with
        | nil => simp at hl
        | cons x l =>
          obtain ⟨t, e⟩ := hv 0 x (by simp)
          have er : rngV lo (k + 1) = V.int lo :: rngV (lo + 1) k := by
            unfold rngV
            rw [List.range_succ_eq_map, List.map_cons, List.map_map]
            congr 1
            · simp
            · apply List.map_congr_left
              intro m _
              show V.int (lo + ((m + 1 : Nat) : Int)) = V.int (lo + 1 + (m : Int))
              congr 1
              omega
          rw [er]
          refine .cons ⟨t, ?_⟩ (ih l (lo + 1) (by simpa using hl) fun m v hm => ?_)
          · rw [e]
            congr 1
            simp
          · obtain ⟨t', e'⟩ := hv (m + 1) v (by simpa using hm)
            refine ⟨t', ?_⟩
            rw [e']
            congr 1
            omega
    refine key _ _ i (by simpa using hsz) fun m v hm => ?_
    obtain ⟨t, e⟩ := hv m v (by simpa using hm)
    exact ⟨t, by rw [e]; congr 1; omega⟩
  · simpa using hg
theorem call_listA (hc : X.calm = true) : CallR X (.type "list") (rList X.K) := call_list_of.or (call_list_rng hc)

end

structure Def (P : Program) (w : World) (K : PySem.W.Frag) (mg : Str → Option Value) (base : Heap) (CX : CXT) (k : Nat) (x : Str) (ps : List Str) (sp : Sp) : Prop where
  ex : ∃ f fd, mg x = some (.ref f) ∧ PySem.W.keepIn K (.ref f) = true ∧ Binds K fd ps [] ∧ FnOk P w K mg base CX k f fd ps sp
theorem pe_callD {X : Cx} {CX : CXT} {k : Nat} {ps : List Str} {sp : Sp} {E : XK} {x : Str} {p pos : Pos} {e : Expr} {es : List Expr} {t : TA} (D : Def X.prog X.w X.K X.mg X.base CX k x ps sp) (hr : Room k X.A) (hg : Gl X x) (hx : Passes CX X E)
    (ha : PA X (e :: es) t) (hdb : autoParam ((x == ("__debug__" : Str)) = false) aT1._auto_1) (he : autoParam (starEach (e :: es) X.env = (false, eval e X.env) :: starEach es X.env) aT2._auto_1) (hpl : autoParam ((backTo pos (starEach es X.env)).any (·.1) = false) aT2._auto_1) :
    PE X (.Call (.Name x p) (e :: es) [] pos) (tCall sp [] E t) := by
  obtain ⟨f, fd, m, kp, b, F⟩ := D.ex
  exact pe_call F hr hg m kp b .nil hx ha hdb he hpl


section
variable {σ : St} {H : Hp} {Q : VK} {D : Ends} {K : PySem.W.Frag}
theorem rd_I {C : Int → Int → Prop} {g : Int → Int → V} {i j : Int} (c : C i j) (q : Q (g i j) H) : rI C g (.int i) (.int j) H Q := ⟨i, j, rfl, rfl, c, q⟩
theorem rd_I0 {g : Int → Int → V} {i j : Int} (q : Q (g i j) H) : rI0 g (.int i) (.int j) H Q := ⟨i, j, rfl, rfl, q⟩
theorem rd_U {g : Int → V} {i : Int} (q : Q (g i) H) : rU g (.int i) H Q := ⟨i, rfl, q⟩
theorem rd_add {i j : Int} (q : Q (.int (i + j)) H) : rAddA (.int i) (.int j) H Q := .inl ⟨i, j, rfl, rfl, q⟩
theorem rd_mul {i j : Int} (c : CMul i j) (q : Q (.int (i * j)) H) : rMulA (.int i) (.int j) H Q := .inl ⟨i, j, rfl, rfl, c, q⟩
theorem rd_call {sp : Sp} {E : XK} {t : TA} (q : t σ H fun vs H1 => sp vs H1 Q E) : tCall sp [] E t σ H Q := by
  show t σ H fun vs H1 => sp (vs ++ []) H1 Q E
  have e : (fun vs H1 => sp (vs ++ []) H1 Q E) = fun vs H1 => sp vs H1 Q E := by
    funext vs H1
    rw [List.append_nil]
  rw [e]
  exact q
theorem rd_ixL {p : Addr} {xs : List V} {i : Int} {v : V} (h : SqL K H p xs) (e : atI xs i = some v) (q : Q v H) : rIx K (.ref p) (.int i) H Q := .inl ⟨p, xs, i, v, rfl, rfl, h, e, q⟩
theorem rd_ixT {p : Addr} {xs : List V} {i : Int} {v : V} (h : SqT K H p xs) (e : atI xs i = some v) (q : Q v H) : rIx K (.ref p) (.int i) H Q := .inr (.inl ⟨p, xs, i, v, rfl, rfl, h, e, q⟩)
theorem rd_lenL {p : Addr} {ys : List V} (h : SqL K H p ys) (q : Q (.int ys.length) H) : rLenA K [.ref p] H Q := .inl ⟨p, ys, rfl, .inl h, q⟩
theorem rd_lenT {p : Addr} {ys : List V} (h : SqT K H p ys) (q : Q (.int ys.length) H) : rLenA K [.ref p] H Q := .inl ⟨p, ys, rfl, .inr h, q⟩
theorem rd_lenS {z : Str} (h : z.length ≤ sizeLine) (q : Q (.int z.length) H) : rLenA K [.str z] H Q := .inr ⟨z, rfl, h, q⟩
theorem rd_app {l : Addr} {xs : List V} {y : V} (h : H l = some (.lst xs)) (hz : xs.length < sizeLine) (q : Q .non (upd H l (.lst (xs ++ [y])))) : rAppend (.ref l) [y] H Q := ⟨l, xs, y, rfl, rfl, h, hz, q⟩
theorem rd_slL {a : Addr} {xs : List V} {lo hi : Option Int} (h : SqL K H a xs) (q : ∀ p, H p = none → Q (.ref p) (upd H p (.lst (cutV xs lo hi)))) : rSlL K (.ref a) lo hi H Q := ⟨a, xs, rfl, h, q⟩
theorem rd_cat {a b : Addr} {xs zs : List V} (h1 : H a = some (.lst xs)) (h2 : H b = some (.lst zs)) (hz : xs.length + zs.length ≤ sizeLine) (q : ∀ p, H p = none → Q (.ref p) (upd H p (.lst (xs ++ zs)))) : rAddA (.ref a) (.ref b) H Q :=
  .inr (.inr ⟨a, b, xs, zs, rfl, rfl, h1, h2, hz, q⟩)
theorem rd_rep {l : Addr} {k : Int} {xs : List V} (h : H l = some (.lst xs)) (h1 : -(2 ^ 63) ≤ k) (h2 : k < 2 ^ 63) (hz : xs.length * k.toNat ≤ sizeLine) (q : ∀ p, H p = none → Q (.ref p) (upd H p (.lst (List.replicate k.toNat xs).flatten))) : rMulA (.ref l) (.int k) H Q :=
  .inr ⟨l, k, xs, rfl, rfl, h, h1, h2, hz, q⟩
theorem rd_isI {x : V} {c : String} {t : Value} {b : Bool} (h : TyOf K H x t) (e : PySem.W.kitOne K t (.type c) = some b) (q : Q (.bl b) H) : rIsI K [x, .ty c] H Q := ⟨x, c, t, b, rfl, h, e, q⟩
theorem rd_listL {p : Addr} {ys : List V} (h : SqL K H p ys) (q : ∀ l, H l = none → Q (.ref l) (upd H l (.lst ys))) : rList K [.ref p] H Q := .inl ⟨p, ys, rfl, .inl h, q⟩
theorem rd_listR {p : Addr} {i j : Int} (h : H p = some (.rng i j)) (h1 : -(2 ^ 62) ≤ i) (h2 : i < 2 ^ 62) (h3 : -(2 ^ 62) ≤ j) (h4 : j < 2 ^ 62) (h5 : (j - i).toNat ≤ 1000000) (q : ∀ l, H l = none → Q (.ref l) (upd H l (.lst (rngV i (j - i).toNat)))) : rList K [.ref p] H Q :=
  .inr ⟨p, i, j, rfl, h, h1, h2, h3, h4, h5, q⟩
end
end L2

namespace L2
open PySem PySem.Spec PyProof.Rows
structure QE (X : Cx) (e : Expr) (t : TE) : Prop where
  out : PE X e t
structure QT (X : Cx) (e : Expr) (t : TT) : Prop where
  out : PT X e t
structure QW (X : Cx) (e : Expr) (t : TT) : Prop where
  out : PW X e t
structure QA (X : Cx) (es : List Expr) (t : TA) : Prop where
  out : PA X es t
structure QO (X : Cx) (e : Option Expr) (t : TO) : Prop where
  out : PO X e t
structure QG (X : Cx) (e : Expr) (t : TG) : Prop where
  out : PG X e t
structure QGs (X : Cx) (es : List Expr) (t : TGs) : Prop where
  out : PGs X es t
structure QI (X : Cx) (tg iter : Expr) (wi : TI) : Prop where
  out : PI X tg iter wi
structure QS (X : Cx) (st : Stmt) (t : TS) : Prop where
  out : PS X st t
structure QSs (X : Cx) (st : List Stmt) (t : TS) : Prop where
  out : PSs X st t
section
variable {X : Cx} {a b c e st o tg iter : Expr} {rest es : List Expr} {ta tb tc te ts to : TE} {tA tB' : TT} {t : TA} {pos p p2 apos cpos : Pos}
theorem qe_int {i : Int} {j : Nat} : QE X (.Constant (.int i) j pos) (tC (.int i)) := ⟨pe_int⟩
theorem qe_bl {i : Bool} {j : Nat} : QE X (.Constant (.bool i) j pos) (tC (.bl i)) := ⟨pe_bl⟩
theorem qe_non {j : Nat} : QE X (.Constant .none j pos) (tC .non) := ⟨pe_non⟩
theorem qe_str {x : Str} {j : Nat} : QE X (.Constant (.str x) j pos) (tC (.str x)) := ⟨pe_str⟩
theorem qv (i : Nat) {x : Str} (hN : autoParam (X.N[i]? = some x) aT2._auto_1) (hv : autoParam (Vis X.env.scope x) aT3._auto_1) (hd : autoParam ((x == ("__debug__" : Str)) = false) aT1._auto_1)
    (hcd : autoParam ((x == ("__classdict__" : Str)) = false) aT1._auto_1) : QE X (.Name x pos) (tVar i) := ⟨pv i hN hv hd hcd⟩
theorem qe_glob {x : Str} {v : V} {u : Value} (hg : Gl X x) (hm : X.mg x = some u) (r : RelV v u) (hd : autoParam ((x == ("__debug__" : Str)) = false) aT1._auto_1) : QE X (.Name x pos) (tC v) := ⟨pe_glob hg hm r hd⟩
theorem qe_bltn {x : Str} {v : V} {u : Value} (hg : Gl X x) (hm : X.mg x = none) (hv : bootBuiltins x = some u) (r : RelV v u) (hn : autoParam (x ≠ "__name__") aT1._auto_1) (hd : autoParam ((x == ("__debug__" : Str)) = false) aT1._auto_1) : QE X (.Name x pos) (tC v) := ⟨pe_bltn hg hm hv r hn hd⟩
theorem qe_op {op : Operator} {r : R2} (ho : OpR X (binaryOp op) r) (ha : QE X a ta) (hb : QE X b tb) : QE X (.BinOp a op b pos) (tOp r ta tb) := ⟨pe_op ho ha.out hb.out⟩
theorem qe_un {op : UnaryOp} {r : V → Hp → VK → Prop} (ho : UnR X (unaryOp op) r) (ha : QE X a ta) : QE X (.UnaryOp op a pos) (tUn r ta) := ⟨pe_un ho ha.out⟩
theorem qe_cmpR {op : CmpOp} {r : R2} (ho : OpR X (compareOp op) r) (ha : QE X a ta) (hb : QE X b tb) (hm : behindInMarks op b = false) : QE X (.Compare a [op] [b] pos) (tOp r ta tb) := ⟨pe_cmpR ho ha.out hb.out hm⟩
theorem qt_cmpR {op : CmpOp} {r : R2} (ho : OpR X (compareOp op) r) (ha : QE X a ta) (hb : QE X b tb) (hm : behindInMarks op b = false) : QT X (.Compare a [op] [b] pos) (tTest (tOp r ta tb)) := ⟨pt_cmpR ho ha.out hb.out hm⟩
theorem qe_chain {op op' : CmpOp} {r r' : R2} (ho : OpR X (compareOp op) r) (ho' : OpR X (compareOp op') r') (ha : QE X a ta) (hb : QE X b tb) (hc : QE X c tc) (hm : lastMarks [op, op'] [b, c] = false := by with_unfolding_all rfl) : QE X (.Compare a [op, op'] [b, c] pos) (tChain r r' ta tb tc) := ⟨pe_chain ho ho' ha.out hb.out hc.out hm⟩
theorem qt_chain {op op' : CmpOp} {r r' : R2} (ho : OpR X (compareOp op) r) (ho' : OpR X (compareOp op') r') (ha : QE X a ta) (hb : QE X b tb) (hc : QE X c tc) (hm : lastMarks [op, op'] [b, c] = false := by with_unfolding_all rfl) : QT X (.Compare a [op, op'] [b, c] pos) (tTest (tChain r r' ta tb tc)) := ⟨pt_chain ho ho' ha.out hb.out hc.out hm⟩
theorem qe_one {op : BoolOp} (h : QE X a ta) : QE X (.BoolOp op [a] pos) ta := ⟨pe_one h.out⟩
theorem qe_and (ha : QE X a ta) (hb : QE X (.BoolOp .And (b :: rest) pos) tb) : QE X (.BoolOp .And (a :: b :: rest) pos) (tAndV ta tb) := ⟨pe_and ha.out hb.out⟩
theorem qe_or (ha : QE X a ta) (hb : QE X (.BoolOp .Or (b :: rest) pos) tb) : QE X (.BoolOp .Or (a :: b :: rest) pos) (tOrV ta tb) := ⟨pe_or ha.out hb.out⟩
theorem qe_not (ha : QE X a ta) : QE X (.UnaryOp .Not a pos) (tNotV ta) := ⟨pe_not ha.out⟩
theorem qe_ifExp (hc : QT X c tA) (ha : QE X a ta) (hb : QE X b tb) : QE X (.IfExp c a b pos) (tIf tA ta tb) := ⟨pe_ifExp hc.out ha.out hb.out⟩
theorem qt_val (h : QE X e te) (he : ∀ whole, isTrue e X.env whole = (do let v ← whole; standAt e.pos; holding [v] (truthy v)) := by intro _; rfl) : QT X e (tB te) := ⟨pt_val h.out he⟩
theorem qt_not (ha : QT X a tA) : QT X (.UnaryOp .Not a pos) (tNot tA) := ⟨pt_not ha.out⟩
theorem qw_or1 (ha : QT X a tA) : QW X (.BoolOp .Or [a] pos) tA := ⟨pw_or1 ha.out⟩
theorem qw_or (ha : QT X a tA) (hb : QW X (.BoolOp .Or (b :: rest) pos) tB') : QW X (.BoolOp .Or (a :: b :: rest) pos) (tOr tA tB') := ⟨pw_or ha.out hb.out⟩
theorem qt_w (h : QW X a tA) : QT X a tA := ⟨h.out.pt⟩
theorem qa_nil : QA X [] tNil := ⟨pa_nil⟩
theorem qa_cons (ha : QE X e te) (hr : QA X es t) (hs : starEach (e :: es) X.env = (false, eval e X.env) :: starEach es X.env) : QA X (e :: es) (tCons te t) := ⟨pa_cons ha.out hr.out hs⟩
theorem qe_tup {x1 : Nat} (h : QA X es t) : QE X (.Tuple es x1 pos) (tTup t) := ⟨pe_tup h.out⟩
theorem qe_lst (h : QA X es t) : QE X (.List es pos) (tLst t) := ⟨pe_lst h.out⟩
theorem qe_ix {r : R2} (hr : IxR X r) (ha : QE X a ta) (hb : QE X b tb) (hs : PlainIx b) : QE X (.Subscript a b pos) (tOp r ta tb) := ⟨pe_ix hr ha.out hb.out hs⟩
theorem qo_none : QO X none tNoPart := ⟨po_none⟩
theorem qo_some (h : QE X e te) : QO X (some e) (tPart te) := ⟨po_some h.out⟩
theorem qe_slice {r : V → Option Int → Option Int → Hp → VK → Prop} {lo hi : Option Expr} {tl th : TO} (hr : SlR X r) (he : QE X e te) (hl : QO X lo tl) (hu : QO X hi th) : QE X (.Subscript e (.Slice lo hi none p2) pos) (tSl r te tl th) := ⟨pe_slice hr he.out hl.out hu.out⟩
theorem qe_callD {CX : CXT} {k : Nat} {ps : List Str} {sp : Sp} {E : XK} {x : Str} (D : Def X.prog X.w X.K X.mg X.base CX k x ps sp) (hr : Room k X.A) (hg : Gl X x) (hx : Passes CX X E)
    (ha : QA X (e :: es) t) (hdb : autoParam ((x == ("__debug__" : Str)) = false) aT1._auto_1) (he : autoParam (starEach (e :: es) X.env = (false, eval e X.env) :: starEach es X.env) aT2._auto_1) (hpl : autoParam ((backTo pos (starEach es X.env)).any (·.1) = false) aT2._auto_1) :
    QE X (.Call (.Name x p) (e :: es) [] pos) (tCall sp [] E t) := ⟨pe_callD D hr hg hx ha.out hdb he hpl⟩
theorem qe_callB {x : Str} {id : String} {r : List V → Hp → VK → Prop} (hc : CallR X (.builtin id) r) (hg : Gl X x) (hm : X.mg x = none) (hv : bootBuiltins x = some (.builtin id)) (ha : QA X (e :: es) t) (hn : autoParam (x ≠ "__name__") aT1._auto_1) (hdb : autoParam ((x == ("__debug__" : Str)) = false) aT1._auto_1)
    (he : autoParam (starEach (e :: es) X.env = (false, eval e X.env) :: starEach es X.env) aT2._auto_1) (hpl : autoParam ((backTo pos (starEach es X.env)).any (·.1) = false) aT2._auto_1) : QE X (.Call (.Name x p) (e :: es) [] pos) (tCB r t) := ⟨pe_callB hc hg hm hv ha.out hn hdb he hpl⟩
theorem qe_callTy {x : Str} {T : String} {r : List V → Hp → VK → Prop} (hc : CallR X (.type T) r) (hg : Gl X x) (hm : X.mg x = none) (hv : bootBuiltins x = some (.type T)) (ha : QA X (e :: es) t) (hn : autoParam (x ≠ "__name__") aT1._auto_1) (hdb : autoParam ((x == ("__debug__" : Str)) = false) aT1._auto_1)
    (he : autoParam (starEach (e :: es) X.env = (false, eval e X.env) :: starEach es X.env) aT2._auto_1) (hpl : autoParam ((backTo pos (starEach es X.env)).any (·.1) = false) aT2._auto_1) : QE X (.Call (.Name x p) (e :: es) [] pos) (tCB r t) := ⟨pe_callTy hc hg hm hv ha.out hn hdb he hpl⟩
theorem qe_bm {name : Str} {T id : String} {r : V → List V → Hp → VK → Prop} (pa : PlainAttrs T) (slot : Slot T name id) (hty : typeOf (.builtin id) = pure (.type "method_descriptor")) (hm : MtR X id r) (ho : QE X o to) (ha : QA X (e :: es) t)
    (hbase : autoParam (attributeBase o name X.env (eval o X.env) = eval o X.env) aT2._auto_1)
    (hfew : ((backTo cpos (starEach (e :: es) X.env)).all (fun x => !x.1) && (backToKw cpos (keywordEach [] X.env)).all (fun x => x.1.isSome)
      && decide ((e :: es).length + ([] : List Keyword).length + (if ([] : List Keyword).isEmpty then 0 else 1) < 30)) = true := by rfl)
    (hline : autoParam ((apos.endLine == cpos.line) = true) aT2._auto_1) (hs : autoParam (starEach (e :: es) X.env = (false, eval e X.env) :: starEach es X.env) aT2._auto_1) (hplain : autoParam ((backTo cpos (starEach es X.env)).any (·.1) = false) aT2._auto_1) :
    QE X (.Call (.Attribute o name apos) (e :: es) [] cpos) (tBM X.K T r to t) := ⟨pe_bm pa slot hty hm ho.out ha.out hbase hfew hline hs hplain⟩
theorem qg_name {i : Nat} {x : Str} (hN : X.N.Nodup) (hi : X.N[i]? = some x) (hx : Loc X.env.scope x) (hf : autoParam (X.fn x = true ∨ X.env.scope.names.lookup x = some .local) aT0._auto_1) : QG X (.Name x pos) (gName i) := ⟨pg_name hN hi hx hf⟩
theorem qg_tup {k : Nat} {tt : TGs} {n : Nat} (hc : X.calm = true) (h : QGs X es tt) (hn : autoParam ((assignEach es X.env).length = n) aT2._auto_1) (hst : autoParam ((assignEach es X.env).findIdx? (·.1) = none) aT2._auto_1) : QG X (.Tuple es k pos) (gTup X.K n tt) := ⟨pg_tup hc h.out hn hst⟩
theorem qgs_nil : QGs X [] gNil := ⟨pgs_nil⟩
theorem qgs_cons {tt : TG} {u : TGs} (h1 : QG X e tt) (h2 : QGs X es u) (hs : autoParam ((assignEach (e :: es) X.env).map (·.2) = assign e X.env :: (assignEach es X.env).map (·.2)) aT2._auto_1) : QGs X (e :: es) (gCons tt u) := ⟨pgs_cons h1.out h2.out hs⟩
theorem qi_list (hl : QE X e te) : QI X tg e (iList X.K te) := ⟨pi_list hl.out⟩
theorem qi_tup (hl : QE X e te) : QI X tg e (iTup X.K te) := ⟨pi_tup hl.out⟩
theorem qi_range1 (hg : Gl X "range") (hm : X.mg "range" = none) (ha : QA X [a] t) (hs : autoParam (starEach [a] X.env = [(false, eval a X.env)]) aT2._auto_1) : QI X tg (.Call (.Name "range" p) [a] [] pos) (iRng1 t) := ⟨pi_range1 hg hm ha.out hs⟩
variable {s1 : Stmt} {ss body other : List Stmt} {u v : TS} {pos' : Pos}
theorem qss_nil : QSs X [] tNext := ⟨pss_nil⟩
theorem qss_cons (h1 : QS X s1 u) (h2 : QSs X ss v) : QSs X (s1 :: ss) (tSeq u v) := ⟨pss_cons h1.out h2.out⟩
theorem qss_one (h1 : QS X s1 u) : QSs X [s1] u := ⟨pss_one h1.out⟩
theorem qs_never : QS X s1 tNever := ⟨ps_never⟩
theorem qs_expr (he : QE X e te) (hs : autoParam (swapsWith e none pos.line X.env = pure false) aT2._auto_1) : QS X (.Expr e pos) (tDrop te) := ⟨ps_expr he.out hs⟩
theorem qs_ret (he : QE X e te) : QS X (.Return (some e) pos) (tRet te) := ⟨ps_ret he.out⟩
theorem qs_if (hc : QT X c tA) (ha : QSs X body u) (hb : QSs X other v) : QS X (.If c body other pos) (tIfS tA u v) := ⟨ps_if hc.out ha.out hb.out⟩
theorem qs_asg {g : TG} (he : QE X e te) (hg : QG X tg g) (hs : autoParam (swapsWithSole [tg] e pos.line X.env = pure false) aT2._auto_1) (hw : autoParam (swappedStores [tg] e X.env = pure none) aT2._auto_1) (h1 : autoParam ((assignEach [tg] X.env).map (·.2) = [assign tg X.env]) aT2._auto_1) : QS X (.Assign [tg] e pos) (tAsg te g) := ⟨ps_asg he.out hg.out hs hw h1⟩
theorem qs_set {i : Nat} {x : Str} (hN : X.N.Nodup) (hi : X.N[i]? = some x) (hx : Loc X.env.scope x) (he : QE X e te) (hs : autoParam (swapsWith e (some (.Name x pos')) pos.line X.env = pure false) aT2._auto_1) (hf : autoParam (X.fn x = true ∨ X.env.scope.names.lookup x = some .local) aT0._auto_1) :
    QS X (.Assign [.Name x pos'] e pos) (tAsg te (gName i)) := ⟨ps_set hN hi hx he.out hs hf⟩
theorem qs_for {wi : TI} {g : TG} (hp : PassesOwn (model X.prog X.w) X.A X.env X.xe) (hc : X.calm = true) (hi : QI X tg iter wi) (hg : QG X tg g) (hb : QSs X body u) (hs : ∀ x, foldedSetIterable iter X.env x = pure x := by intro _; rfl) : QS X (.For tg iter body [] pos) (tFor wi g u) := ⟨ps_for hp hc hi.out hg.out hb.out hs⟩
end
theorem Fun.okQ {P : Program} {w : World} {K : PySem.W.Frag} {mg : Str → Option Value} {base : Heap} {x qual : Str} {st : Stmt} {f : Addr} {fd : FuncData} {N ps : List Str} {k : Nat} {sp : Sp} (F : Fun K x qual st f fd) (S : FnScope N ps (defScope st)) (len : ∀ vs H Q E, sp vs H Q E → vs.length = ps.length)
    (hbody : ∀ (cdv : Value) (A : Around) (outer : List Env) (s : Shared) (H : Hp) (vs : List V) (Q : VK) (E : XK), Room k (A.deeper (envOfC qual (defScope st) s.heap.objs.size f cdv)) → sp vs H Q E →
      ∃ t, QSs (cxOf CX0 P w K mg base N qual (defScope st) f cdv A outer s H E).nox (defBody st) t ∧ t { nx := fun _ H' => Q .non H', rt := Q } (start N vs) H) : FnOk P w K mg base CX0 (k + 1) f fd ps sp :=
  F.ok S len fun cdv A outer s H vs Q E hr h => by
    obtain ⟨t, ht, q⟩ := hbody cdv A outer s H vs Q E hr h
    exact ⟨t, ht.out, q⟩
end L2

namespace L2
open PySem PySem.Spec PyProof.Rows

@[reducible] noncomputable def Cx.blk (X : Cx) (N2 : List Str) (x : Str) (sc : Scope) (cl : List (Str × Addr)) (C : Addr) (s0 : Shared) (H0 : Hp) (fp : List Addr) : Cx :=
  { X with N := N2 ++ [x], s₀ := s0, H₀ := H0, env := compEnvC sc cl C X.env, outer := X.stack, ex := fp, fn := fun _ => false, pn := [], xe := fun _ _ => False }

structure BlkOk (sc esc : Scope) (x : Str) (N N2 : List Str) : Prop where
  kind : sc.kind = .function
  cell : ∀ y ∈ sc.names, y.2 ≠ .cell
  loc : ∀ y ∈ sc.names, y.2 = .local → sc.names.lookup y.1 = some .local
  own : sc.names.lookup x = some .local
  free : ∀ y ∈ sc.names, y.2 = .free → esc.names.lookup y.1 = some .cell ∨ esc.names.lookup y.1 = some .free
  out : ∀ y ∈ N2, sc.names.lookup y ≠ some .local
  nd : N.Nodup
  nd2 : N2.Nodup
  len : N2.length = N.length
  ren : ∀ p ∈ N.zip N2, p.2 = p.1 ∨ sc.names.lookup p.2 = none
theorem lookup_mem {l : List (Str × NameKind)} {y : Str} {k : NameKind} (h : (y, k) ∈ l) : l.lookup y ≠ none := by
  induction l with
  | nil => simp at h
  | cons p r ih =>
    obtain ⟨n, k'⟩ := p
    cases hy : y == n with
    | true => rw [List.lookup_cons, hy]; simp
    | false =>
      rw [List.lookup_cons, hy]
      rcases List.mem_cons.mp h with e | e
      · cases e
        simp at hy
      · exact ih e

noncomputable def closOf (cells : List (Str × Addr)) : List (Str × NameKind) → List (Str × Addr) → List (Str × Addr)
  | [], cs => cs
  | (n, k) :: r, cs => closOf cells r (if k = .free then (n, (cells.lookup n).getD 0) :: cs else cs)
theorem closureFor_all {sc : Scope} {env : Env} (h : ∀ y ∈ sc.names, y.2 = .free → ∃ c, env.cells.lookup y.1 = some c) : closureFor sc env = pure (closOf env.cells sc.names []) := by
  unfold closureFor
  generalize sc.names = l at h ⊢
  have key : ∀ (l : List (Str × NameKind)) (cs : List (Str × Addr)), (∀ y ∈ l, y.2 = .free → ∃ c, env.cells.lookup y.1 = some c) →
      (forIn l cs fun (y : Str × NameKind) (r : List (Str × Addr)) => (do
        let (name, kind) := y
        if kind == .free then
          let c ← cellOf env name
          pure (ForInStep.yield ((name, c) :: r))
        else pure (ForInStep.yield r) : Sem (ForInStep (List (Str × Addr))))) = pure (closOf env.cells l cs) := by
    intro l
    induction l with
    | nil => intro cs _; rfl
    | cons y r ih =>
      intro cs hy
      obtain ⟨n, k⟩ := y
      rw [List.forIn_cons]
      have hr : ∀ y ∈ r, y.2 = .free → ∃ c, env.cells.lookup y.1 = some c := fun y h' => hy y (List.mem_cons_of_mem _ h')
      by_cases hk : k = .free
      · subst hk
        obtain ⟨c, hc⟩ := hy _ List.mem_cons_self rfl
        have e : cellOf env n = pure c := by unfold cellOf; rw [show env.cells.lookup n = some c from hc]
        simp only [beq_self_eq_true, if_true, e]
        rw [closOf, if_pos rfl, show env.cells.lookup n = some c from hc]
        exact ih _ hr
      · have hb : (k == NameKind.free) = false := by simpa using hk
        rw [closOf, if_neg hk]
        simp only [hb, if_false, Bool.false_eq_true]
        exact ih _ hr
  have q := key l [] h
  exact (congrArg (fun z : Sem (List (Str × Addr)) => z >>= fun r => pure r) q).trans rfl
theorem clos_look {cells : List (Str × Addr)} : ∀ {l : List (Str × NameKind)} {cs : List (Str × Addr)} {y : Str} {c : Addr}, (∀ z ∈ l, z.2 = .free → ∃ c, cells.lookup z.1 = some c) → (∀ c, cs.lookup y = some c → cells.lookup y = some c) →
    (closOf cells l cs).lookup y = some c → cells.lookup y = some c
  | [], _, _, _, _, h0, h => h0 _ h
  | (n, k) :: r, cs, y, c, hl, h0, h => by
    rw [closOf] at h
    refine clos_look (l := r) (fun z hz => hl z (List.mem_cons_of_mem _ hz)) (fun c' hc' => ?_) h
    by_cases hk : k = .free
    · rw [if_pos hk] at hc'
      obtain ⟨c0, e0⟩ := hl _ List.mem_cons_self hk
      cases hy : y == n with
      | true =>
        have e : y = n := by simpa using hy
        subst e
        rw [List.lookup_cons, hy] at hc'
        have e1 : (cells.lookup y).getD 0 = c' := by simpa using hc'
        have e2 : cells.lookup y = some c0 := e0
        rw [e2] at e1 ⊢
        simpa using e1
      | false =>
        rw [List.lookup_cons, hy] at hc'
        exact h0 _ hc'
    · rw [if_neg hk] at hc'
      exact h0 _ hc'
theorem clos_keep {cells : List (Str × Addr)} : ∀ {l : List (Str × NameKind)} {cs : List (Str × Addr)} {y : Str}, (∃ c, cs.lookup y = some c) → ∃ c, (closOf cells l cs).lookup y = some c
  | [], _, _, h => h
  | (n, k) :: r, cs, y, h => by
    rw [closOf]
    refine clos_keep ?_
    split
    · cases hy : y == n with
      | true => exact ⟨_, by rw [List.lookup_cons, hy]⟩
      | false => rw [List.lookup_cons, hy]; exact h
    · exact h
theorem clos_has {cells : List (Str × Addr)} : ∀ {l : List (Str × NameKind)} {cs : List (Str × Addr)} {y : Str}, (y, NameKind.free) ∈ l → ∃ c, (closOf cells l cs).lookup y = some c
  | (n, k) :: r, cs, y, h => by
    rw [closOf]
    rcases List.mem_cons.mp h with e | e
    · cases e
      refine clos_keep ?_
      rw [if_pos rfl]
      exact ⟨_, by rw [List.lookup_cons, beq_self_eq_true]⟩
    · exact clos_has e
theorem relabel_look {env : Env} : ∀ {names : List (Str × NameKind)} {y : Str} {k : NameKind}, (∀ z ∈ names, z.2 ≠ .cell) → (k = .cell ∨ k = .free) →
    (names.map fun (n, k) => if (k == NameKind.free && env.scope.kind == .function && env.kindOf n == some .cell) then (n, NameKind.cell) else (n, k)).lookup y = some k → (y, NameKind.free) ∈ names
  | [], _, _, _, _, hz => by simp at hz
  | (n, k0) :: r, y, k, hc, hk, h => by
    rw [List.map_cons] at h
    cases hy : y == n with
    | true =>
      have e : y = n := by simpa using hy
      subst e
      by_cases hf : k0 = .free
      · subst hf; exact List.mem_cons_self
      · have hb : (k0 == NameKind.free) = false := by simpa using hf
        simp only [hb, Bool.false_and, Bool.false_eq_true, if_false, List.lookup_cons, beq_self_eq_true] at h
        have e1 : k0 = k := by simpa using h
        subst e1
        rcases hk with z | z
        · exact absurd z (hc _ List.mem_cons_self)
        · exact absurd z hf
    | false =>
      refine List.mem_cons_of_mem _ (relabel_look (env := env) (k := k) (fun z hz => hc z (List.mem_cons_of_mem _ hz)) hk ?_)
      by_cases hc' : (k0 == NameKind.free && env.scope.kind == .function && env.kindOf n == some .cell) = true
      · simp only [hc', if_true, List.lookup_cons, hy] at h
        exact h
      · simp only [hc', Bool.false_eq_true, if_false, List.lookup_cons, hy] at h
        exact h

theorem relabel_loc {env : Env} : ∀ {names : List (Str × NameKind)} {y : Str},
    (names.map fun (n, k) => if (k == NameKind.free && env.scope.kind == .function && env.kindOf n == some .cell) then (n, NameKind.cell) else (n, k)).lookup y = some .local → names.lookup y = some .local
  | [], _, h => by simp at h
  | (n, kn) :: r, y, h => by
    rw [List.map_cons] at h
    cases hy : y == n with
    | true =>
      rw [List.lookup_cons, hy]
      by_cases hc : (kn == NameKind.free && env.scope.kind == .function && env.kindOf n == some .cell) = true
      · simp only [hc, if_true, List.lookup_cons, hy] at h
        cases h
      · simp only [hc, Bool.false_eq_true, if_false, List.lookup_cons, hy] at h
        exact h
    | false =>
      rw [List.lookup_cons, hy]
      refine relabel_loc (env := env) ?_
      by_cases hc : (kn == NameKind.free && env.scope.kind == .function && env.kindOf n == some .cell) = true
      · simp only [hc, if_true, List.lookup_cons, hy] at h
        exact h
      · simp only [hc, Bool.false_eq_true, if_false, List.lookup_cons, hy] at h
        exact h

section
variable {s : Shared} {R : Result → Shared → Prop} {A : Around} {P : Program} {w : World}
noncomputable def testsOf (ifs : List Expr) (env : Env) : Sem Bool := forIn ifs true fun c r => if r = true then do let ok ← isTrue c env (eval c env); pure (ForInStep.yield ok) else pure (ForInStep.yield r)
theorem comp_turns {elt tg iter : Expr} {ifs : List Expr} {scope : Scope} {pos : Pos} {it ac : Value} {env : Env} (W : Nat → Shared → Prop)
    (turn : ∀ n s, W n s → wpAny (model P w) A (pyNext it) (fun r s₁ => match r with
      | none => R (.ok .next) s₁
      | some v => wpAny (model P w) A (letOwnedTupleGo tg it v) (fun _ s₁' => wpAny (model P w) A (assign tg env v) (fun _ s₂ =>
          wpAny (model P w) A (testsOf ifs env) (fun ok s₃ =>
            if ok = true then wpAny (model P w) A (eval elt env) (fun z s₄ =>
              wpAny (model P w) A (call (.builtin "list.append") [ac, z]) (fun _ s₅ => ∃ m, m < n ∧ W m s₅) (fun _ _ => False) s₄) (fun _ _ => False) s₃
            else ∃ m, m < n ∧ W m s₃) (fun _ _ => False) s₂) (fun _ _ => False) s₁') (fun _ _ => False) s₁) (fun _ _ => False) s)
    (n : Nat) (h : W n s) :
    codeAny (model P w) A (.compLoop (.ListComp elt [⟨tg, iter, ifs, 0⟩] scope pos) 0 it ac env) R s := by
  refine codeAny_loop rfl W (fun n s hI => ?_) n h
  show wpAny _ A ((compTurn (.ListComp elt [⟨tg, iter, ifs, 0⟩] scope pos) 0 it ac env).onRaise (fun z => do noteFrame z env; theTreesLotGoes z)) _ _ s
  refine wpAny_noted ?_
  rw [compTurn_list]
  refine wpAny_bind (wpAny_standAt (wpAny_bind (wpAny_mono (turn n s hI) (fun r s₁ h₁ => ?_) fun _ _ h' => h'.elim)))
  cases r with
  | none => exact wpAny_pure h₁
  | some v =>
    refine wpAny_bind (wpAny_mono h₁ (fun _ s₁' h₁' => ?_) fun _ _ h' => h'.elim)
    refine wpAny_bind (wpAny_mono h₁' (fun _ s₂ h₂ => wpAny_bind (wpAny_mono h₂ (fun ok s₃ h₃ => ?_) fun _ _ h' => h'.elim)) fun _ _ h' => h'.elim)
    cases ok with
    | false => exact wpAny_pure (And.intro rfl h₃)
    | true =>
      exact wpAny_bind (wpAny_bind (wpAny_mono h₃ (fun x s₄ h₄ => wpAny_bind (wpAny_mono h₄ (fun _ s₅ h₅ => wpAny_pure (wpAny_pure ⟨rfl, h₅⟩)) fun _ _ h' => h'.elim)) fun _ _ h' => h'.elim))
end

noncomputable def PIf (X : Cx) (ifs : List Expr) (t : TT) : Prop :=
  ∀ (pins : List (Addr × Obj)) (s : Shared) (σ : St) (H : Hp) (Q : Bool → Hp → Prop), Inv X pins σ H s → t σ H Q → wpAny (model X.prog X.w) X.A (testsOf ifs X.env) (TP X pins σ Q) X.xe s
noncomputable def tYes : TT := fun _ H Q => Q true H
theorem pif_nil {X : Cx} : PIf X [] tYes := fun _ _ _ H _ I h => wpAny_pure ⟨H, I, h⟩


section
variable {X : Cx} {elt iter : Expr} {x : Str} {px pos : Pos} {ifs : List Expr} {sc : Scope} {N2 : List Str} {wi : TI} {tc : TT} {te : TE}




end

structure QIf (X : Cx) (ifs : List Expr) (t : TT) : Prop where
  out : PIf X ifs t
section
variable {X : Cx} {elt iter c : Expr} {x : Str} {px pos : Pos} {ifs : List Expr} {sc esc : Scope} {N N2 : List Str} {wi : TI} {tc : TT} {te : TE}
theorem qif_nil : QIf X [] tYes := ⟨pif_nil⟩
end

section
variable {K : PySem.W.Frag} {a D : Addr} {xs : List V} {tc : TT} {te : TE} {σ : St} {H : Hp} {Q : VK} {R : Hp → Prop}
end
end L2

namespace L2
open PySem PySem.Spec PyProof.Rows
@[reducible] noncomputable def Cx.blkN (X : Cx) (N2 xs : List Str) (sc : Scope) (cl : List (Str × Addr)) (C : Addr) (s0 : Shared) (H0 : Hp) (fp : List Addr) : Cx :=
  { X with N := N2 ++ xs, s₀ := s0, H₀ := H0, env := compEnvC sc cl C X.env, outer := X.stack, ex := fp, fn := fun _ => false, pn := [], xe := fun _ _ => False }
structure BlkN (sc esc : Scope) (xs N N2 : List Str) : Prop where
  kind : sc.kind = .function
  cell : ∀ y ∈ sc.names, y.2 ≠ .cell
  loc : ∀ y ∈ sc.names, y.2 = .local → sc.names.lookup y.1 = some .local
  free : ∀ y ∈ sc.names, y.2 = .free → esc.names.lookup y.1 = some .cell ∨ esc.names.lookup y.1 = some .free
  out : ∀ y ∈ N2, sc.names.lookup y ≠ some .local
  nd : N.Nodup
  len : N2.length = N.length
  ren : ∀ p ∈ N.zip N2, p.2 = p.1 ∨ sc.names.lookup p.2 = none
noncomputable def tCompN (k : Nat) (g : TG) (wi : TI) (tc : TT) (te : TE) : TE := fun σ H Q => wi σ H fun J H1 => ∀ D, H1 D = none → ∃ W : Nat → Nat → Hp → Prop, (∃ m, W 0 m (upd H1 D (.lst []))) ∧ ∀ i m H, W i m H →
  (J.stop i H ∧ Q (.ref D) H) ∨ (J.go i H ∧ ∃ N : Hp → Prop, (∀ H', N H' → ∃ m', m' < m ∧ W (i + 1) m' H') ∧ ∀ x H', J.yld i H x H' → ∀ os : St, os.length = k → g x (σ ++ os) H' fun σ' Hg => (∃ os', os'.length = k ∧ σ' = σ ++ os') ∧ tc σ' Hg fun b H2 =>
    if b = true then te σ' H2 fun v H3 => ∃ ys, H3 D = some (.lst ys) ∧ ys.length < sizeLine ∧ N (upd H3 D (.lst (ys ++ [v])))
    else N H2)

section
variable {X : Cx} {elt iter tg : Expr} {xs : List Str} {pos : Pos} {g : TG} {ifs : List Expr} {sc : Scope} {N2 : List Str} {wi : TI} {tc : TT} {te : TE}

theorem blkN_start {pins : List (Addr × Obj)} {σ : St} {H : Hp} {s s1 : Shared} {fp : List Addr} {h' : Heap} {m : Str → Option Value} {tk : Nat} (B : BlkN sc X.env.scope xs X.N N2) (I : Inv X pins σ H s) (hf : ∀ b ∈ fp, FpOk X pins H b)
    (hfl : ∀ b ∈ fp, b < s.heap.objs.size) (hn : h'.Ns s.heap.objs.size m) (hk : ∀ b o, s.heap.get? b = some o → h'.get? b = some o) (e1 : s1 = { s with heap := h', toks := tk }) :
    Inv (X.blkN N2 xs sc (closOf X.env.cells sc.names []) s.heap.objs.size s H fp) [] (σ ++ List.replicate xs.length none) H s1 := by
  subst e1
  have hcl : ∀ y ∈ sc.names, y.2 = .free → ∃ c, X.env.cells.lookup y.1 = some c := fun y hy hf => I.ok.has y.1 (B.free y hy hf)
  have look : ∀ y c, (closOf X.env.cells sc.names []).lookup y = some c → X.env.cells.lookup y = some c := fun y c h => clos_look hcl (fun _ z => by simp at z) h
  have isfree : ∀ y, (relabel sc X.env).names.lookup y = some .cell ∨ (relabel sc X.env).names.lookup y = some .free → (y, NameKind.free) ∈ sc.names := fun y hy => by
    rcases hy with hy | hy
    · exact relabel_look (env := X.env) B.cell (.inl rfl) hy
    · exact relabel_look (env := X.env) B.cell (.inr rfl) hy
  refine ⟨⟨I.ok.mod, B.kind, I.ok.glob, I.ok.blt, Nat.le_refl _, fun y z c h1 h2 => I.ok.inj y z c (look y c h1) (look z c h2), fun y hy => clos_has (isfree y hy), fun _ _ h => (by cases h), I.ok.hd, I.ok.frames, .inl rfl, fun b hb => ?_, fun b o e => ?_, Nat.le_trans I.ok.bsz I.sz, fun b o e hb => ?_, fun b hb hs => ?_, I.stack, I.stkFree⟩,
    rfl, I.bare, Un.kept hk, ⟨_, hn, fun i y v h1 h2 h3 => ?_⟩, fun y c h => ?_, I.hok.fresh (Nat.le_refl _), fun y c h => I.freeC y c (look y c h), fun p hp => absurd (show p ∈ ([] : List (Addr × Obj)) from hp) (by simp), I.hok.kept hk, ?_⟩
  · exact ⟨Nat.ne_of_lt (hfl b hb), fun y c h => (hf b hb).2.2.2.2.1 y c (look y c h)⟩
  · exact I.bs b o e
  · rcases (hf b hb).2.2.2.1 with z | z
    · exact I.ok.noex b o e z
    · exact absurd (Nat.lt_of_lt_of_le (Heap.lt_size e) (Nat.le_trans I.ok.bsz z)) (Nat.lt_irrefl _)
  · rcases List.mem_cons.mp (I.stkSub b hs) with z | z
    · exact (hf b hb).2.1 z
    · exact (hf b hb).2.2.1 z
  · have hlen := I.len
    have hl2 := B.len
    have h1 : (N2 ++ xs)[i]? = some y := h1
    have h2 : (σ ++ List.replicate xs.length none)[i]? = some (some v) := h2
    have hi : i < X.N.length := by
      by_cases hi : i < X.N.length
      · exact hi
      · rw [List.getElem?_append_right (by omega)] at h2
        have hm := List.mem_of_getElem? h2
        rw [List.mem_replicate] at hm
        exact absurd hm.2 (by intro z; cases z)
    rw [List.getElem?_append_left (by omega)] at h1
    rw [List.getElem?_append_left (by omega)] at h2
    have h3' : (relabel sc X.env).names.lookup y = some .cell ∨ (relabel sc X.env).names.lookup y = some .free := by
      rcases h3 with z | z
      · exact absurd (relabel_loc (env := X.env) z) (B.out y (List.mem_of_getElem? h1))
      · exact z
    have hfr := isfree y h3'
    have h1 : X.N[i]? = some y := by
      obtain ⟨z, hz⟩ : ∃ z, X.N[i]? = some z := ⟨X.N[i], List.getElem?_eq_getElem hi⟩
      rcases B.ren (z, y) (List.mem_of_getElem? (List.getElem?_zip_eq_some.mpr ⟨hz, h1⟩)) with e | e
      · rw [hz, show y = z from e]
      · exact absurd e (lookup_mem hfr)
    obtain ⟨m3, hn3, hl3⟩ := I.loc
    have hv : X.env.scope.names.lookup y = some .cell ∨ X.env.scope.names.lookup y = some .free := B.free (y, .free) hfr rfl
    obtain ⟨u, ru, lk⟩ := hl3 i y v h1 h2 (.inr hv)
    refine ⟨u, ru, .inr ⟨h3', ?_⟩⟩
    rcases lk with ⟨k1, _⟩ | ⟨k1, c, ec, zc⟩
    · rcases hv with q | q
      · rw [show X.env.kindOf y = X.env.scope.names.lookup y from rfl, q] at k1
        cases k1
      · rw [show X.env.kindOf y = X.env.scope.names.lookup y from rfl, q] at k1
        cases k1
    · obtain ⟨c', e'⟩ := clos_has (cells := X.env.cells) (cs := []) hfr
      have e2 := look y c' e'
      rw [ec] at e2
      cases e2
      obtain ⟨o, ho, hd⟩ := zc
      exact ⟨c, e', o, hk _ _ ho, hd⟩
  · obtain ⟨v, o, ho, hd⟩ := I.cell y c (look y c h)
    exact ⟨v, o, hk _ _ ho, hd⟩
  · show (σ ++ List.replicate xs.length none).length = (N2 ++ xs).length
    rw [List.length_append, List.length_append, I.len, B.len, List.length_replicate]

theorem blkN_run {pins : List (Addr × Obj)} {σ : St} {H2 : Hp} {s2 : Shared} {it : Addr} {fp : List Addr} {tn : Nat → Heap → Prop} {J : It} {Q : VK} {E : Value → Shared → Prop} {RR : Value → Addr → Result → Shared → Prop} (hc : X.calm = true) (B : BlkN sc X.env.scope xs X.N N2)
    (hg : ∀ cl C s0 H0 fp, PG (X.blkN N2 xs sc cl C s0 H0 fp) tg g) (ht : ∀ cl C s0 H0 fp, PIf (X.blkN N2 xs sc cl C s0 H0 fp) ifs tc) (he : ∀ cl C s0 H0 fp, PE (X.blkN N2 xs sc cl C s0 H0 fp) elt te)
    (I2 : Inv X pins σ H2 s2) (T : Turn X.prog X.w X.K tg J fp it tn) (st2 : tn 0 s2.heap) (f2 : ∀ b ∈ fp, FpOk X pins H2 b)
    (hw : ∀ D, H2 D = none → ∃ W : Nat → Nat → Hp → Prop, (∃ m, W 0 m (upd H2 D (.lst []))) ∧ ∀ i m H, W i m H →
      (J.stop i H ∧ Q (.ref D) H) ∨ (J.go i H ∧ ∃ N : Hp → Prop, (∀ H', N H' → ∃ m', m' < m ∧ W (i + 1) m' H') ∧ ∀ x H', J.yld i H x H' → ∀ os : St, os.length = xs.length → g x (σ ++ os) H' fun σ' Hg => (∃ os', os'.length = xs.length ∧ σ' = σ ++ os') ∧ tc σ' Hg fun b H2 =>
        if b = true then te σ' H2 fun v H3 => ∃ ys, H3 D = some (.lst ys) ∧ ys.length < sizeLine ∧ N (upd H3 D (.lst (ys ++ [v])))
        else N H2))
    (fin : ∀ (D C : Addr) (H' : Hp) (s' : Shared) (m : Str → Option Value), Inv X pins σ H' s' → s'.heap.Ns C m → FpOk X pins H' C → Q (.ref D) H' → RR (.ref D) C (.ok .next) s') :
    wpAny (model X.prog X.w) X.A (newList []) (fun acc s₃ => wpAny (model X.prog X.w) X.A (newFunctionEnv sc X.env.globals (closOf X.env.cells sc.names []) [] X.env.qual none .none (some X.env)) (fun cenv s₄ =>
      codeAny (model X.prog X.w) X.A (.compStart (.ListComp elt [⟨tg, iter, ifs, 0⟩] sc pos) 0 (.ref it) acc { cenv with scope := relabel sc X.env }) (RR acc cenv.locals) s₄) E s₃) E s2 := by
  refine wpAny_newObj_type (wpAny_newFunctionEnv B.cell (by intro y hy; simp at hy) (fun h₁ hns₁ hsb₁ => ?_) B.kind)
  have hD : H2 s2.heap.objs.size = none := I2.fresh
  obtain ⟨W, ⟨m0, w0⟩, turn⟩ := hw _ hD
  have I3 : Inv X pins σ (upd H2 s2.heap.objs.size (.lst [])) { s2 with heap := s2.heap.push { cls := .type "list", data := .seq ([] : List Value).toArray } } := I2.lnew (its := []) (t' := s2.toks) .nil (Nat.zero_le _)
  have fne : ∀ b ∈ fp, b < s2.heap.objs.size := fun b hb => by
    obtain ⟨o, ho, _⟩ := T.obj _ _ st2 b hb
    exact Heap.lt_size ho
  generalize hs3 : ({ s2 with heap := s2.heap.push { cls := .type "list", data := .seq ([] : List Value).toArray } } : Shared) = s3 at I3
  have hs3h : s3.heap = s2.heap.push { cls := .type "list", data := .seq ([] : List Value).toArray } := by rw [← hs3]
  have f3 : ∀ b ∈ fp, FpOk X pins (upd H2 s2.heap.objs.size (.lst [])) b := fun b hb => ⟨by rw [upd_ne (Nat.ne_of_lt (fne b hb))]; exact (f2 b hb).1, (f2 b hb).2⟩
  have fl3 : ∀ b ∈ fp, b < s3.heap.objs.size := fun b hb => by
    rw [hs3h, Heap.size_push]
    exact Nat.lt_succ_of_lt (fne b hb)
  have keep3 : ∀ b o, s3.heap.get? b = some o → h₁.get? b = some o := fun b o e => by
    rw [hs3h] at e
    refine hsb₁.extBut b o ?_ (Heap.get?_push_of_some _ e)
    exact Nat.ne_of_lt (Heap.lt_size e)
  have hns3 : h₁.Ns s3.heap.objs.size (fun z => ([] : List (Str × Value)).reverse.lookup z) := by
    rw [hs3h]
    exact hns₁
  have I4 := blkN_start (xs := xs) (sc := sc) (s1 := { s3 with heap := h₁, toks := s3.toks + ([] : List (Str × Value)).length }) B I3 f3 fl3 hns3 keep3 rfl
  have st4 : tn 0 h₁ := T.keep _ _ _ st2 fun b hb o e => keep3 b o (by rw [hs3h]; exact Heap.get?_push_of_some _ e)
  have stat : ∀ {H' : Hp}, (∀ b ∈ fp, H' b = none) → ∀ b ∈ fp, FpOk (X.blkN N2 xs sc (closOf X.env.cells sc.names []) s3.heap.objs.size s3 (upd H2 s2.heap.objs.size (.lst [])) fp) [] H' b := fun hn b hb =>
    ⟨hn b hb, (I4.ok.exf b hb).1, I4.ok.exfs b hb, .inl hb, (I4.ok.exf b hb).2, fun p hp => absurd (show p ∈ ([] : List (Addr × Obj)) from hp) (by simp)⟩
  have loop : ∀ s4 : Shared, s4 = { s3 with heap := h₁, toks := s3.toks + ([] : List (Str × Value)).length } →
      codeAny (model X.prog X.w) X.A (.compLoop (.ListComp elt [⟨tg, iter, ifs, 0⟩] sc pos) 0 (.ref it) (.ref s2.heap.objs.size) (compEnvC sc (closOf X.env.cells sc.names []) s3.heap.objs.size X.env)) (RR (.ref s2.heap.objs.size) s3.heap.objs.size) s4 := by
    rintro s4 rfl
    refine comp_turns (fun n s' => ∃ (i : Nat) (o : St) (H' : Hp), o.length = xs.length ∧ Inv (X.blkN N2 xs sc (closOf X.env.cells sc.names []) s3.heap.objs.size s3 (upd H2 s2.heap.objs.size (.lst [])) fp) [] (σ ++ o) H' s' ∧ tn i s'.heap ∧ (∀ b ∈ fp, H' b = none) ∧ W i n H') ?_ m0
      ⟨0, List.replicate xs.length none, _, by simp, I4, st4, fun b hb => (f3 b hb).1, w0⟩
    rintro n s5 ⟨i, o, H5, ol5, I5, st5, fr5, w5⟩
    rcases turn i n H5 w5 with ⟨stop, qn⟩ | ⟨go, N, hN, step⟩
    · refine thn (T.done (X.blkN N2 xs sc (closOf X.env.cells sc.names []) s3.heap.objs.size s3 (upd H2 s2.heap.objs.size (.lst [])) fp) rfl rfl rfl hc i [] s5 (σ ++ o) H5 _ I5 (stat fr5) st5 stop) fun r s6 ⟨hr, I6⟩ => ?_
      subst hr
      obtain ⟨m6, hn6, _⟩ := I6.loc
      refine fin _ _ H5 s6 m6 ?_ hn6 (I3.fpOk (Nat.le_refl _) I6.free) qn
      exact I3.call' (ch := fp) I6.os I6.base I6.hok I6.bare fun b hb => ⟨(f3 b hb).2.2.2.1, (f3 b hb).2.1, (f3 b hb).2.2.2.2.1, (f3 b hb).2.2.2.2.2⟩
    · refine thn (T.item (X.blkN N2 xs sc (closOf X.env.cells sc.names []) s3.heap.objs.size s3 (upd H2 s2.heap.objs.size (.lst [])) fp) rfl rfl rfl hc i [] s5 (σ ++ o) H5 _ I5 (stat fr5) st5 go) fun r s6 ⟨u, hr, h6⟩ => ?_
      subst hr
      refine thn h6 fun _ s7 hz9 => ?_
      obtain ⟨v, H7, I7, r7, y7, st7, fr7⟩ := hz9
      have I7' := I7.pinned (stat fr7) (T.obj _ _ st7)
      refine thn (hg _ _ _ _ _ _ s7 _ H7 v u _ I7' r7 (step v H7 y7 o ol5)) fun _ s8 ⟨σ8, H8, I8, ⟨os', ol8, e8⟩, q8⟩ => ?_
      subst e8
      have again : ∀ {H9 : Hp} {s9 : Shared}, Inv (X.blkN N2 xs sc (closOf X.env.cells sc.names []) s3.heap.objs.size s3 (upd H2 s2.heap.objs.size (.lst [])) fp) ([] ++ pinsAt fp s7.heap) (σ ++ os') H9 s9 → N H9 →
          ∃ m, m < n ∧ ∃ (i : Nat) (o : St) (H' : Hp), o.length = xs.length ∧ Inv (X.blkN N2 xs sc (closOf X.env.cells sc.names []) s3.heap.objs.size s3 (upd H2 s2.heap.objs.size (.lst [])) fp) [] (σ ++ o) H' s9 ∧ tn i s9.heap ∧ (∀ b ∈ fp, H' b = none) ∧ W i m H' := fun {H9 s9} I9 n9 => by
        obtain ⟨m', hm, w9⟩ := hN H9 n9
        refine ⟨m', hm, i + 1, os', H9, ol8, I9.unpinned, T.keep _ _ _ st7 fun b hb o e => (I9.pin (b, o) (List.mem_append_right _ (List.mem_append_right _ (mem_pinsAt hb e)))).1, fun b hb => ?_, w9⟩
        obtain ⟨o, e, d⟩ := T.obj _ _ st7 b hb
        exact (I9.pin (b, o) (List.mem_append_right _ (List.mem_append_right _ (mem_pinsAt hb e)))).2.1
      refine thn (ht _ _ _ _ _ _ s8 _ H8 _ I8 q8) fun ok s9 ⟨H9, I9, q9⟩ => ?_
      cases ok with
      | false =>
        rw [if_neg Bool.false_ne_true] at q9 ⊢
        exact again I9 q9
      | true =>
        rw [if_pos rfl] at q9 ⊢
        refine thn (he _ _ _ _ _ _ s9 _ H9 _ I9 q9) fun ue s10 hz9 => ?_
        obtain ⟨ve, H10, I10, r10, ys, hy, hz, q10⟩ := hz9
        refine thn (mt_append _ s10 _ H10 (.ref s2.heap.objs.size) [ve] (.ref s2.heap.objs.size) [ue] (fun _ H' => N H') I10 rfl (.cons r10 .nil) ⟨_, ys, ve, rfl, rfl, hy, hz, q10⟩) fun _ s11 hz9 => ?_
        obtain ⟨_, H11, I11, _, q11⟩ := hz9
        exact again I11 q11
  have fin' : codeAny (model X.prog X.w) X.A (.compStart (.ListComp elt [⟨tg, iter, ifs, 0⟩] sc pos) 0 (.ref it) (.ref s2.heap.objs.size) (compEnvC sc (closOf X.env.cells sc.names []) s3.heap.objs.size X.env)) (RR (.ref s2.heap.objs.size) s3.heap.objs.size) { s3 with heap := h₁, toks := s3.toks + ([] : List (Str × Value)).length } :=
    codeAny_compStart_list (loop _ rfl) (T.self _ 0 _ _ _ st4 (loop _ rfl))
  exact fin'

theorem pe_compN (hc : X.calm = true) (B : BlkN sc X.env.scope xs X.N N2) (hi : PI X tg iter wi) (hg : ∀ cl C s0 H0 fp, PG (X.blkN N2 xs sc cl C s0 H0 fp) tg g) (ht : ∀ cl C s0 H0 fp, PIf (X.blkN N2 xs sc cl C s0 H0 fp) ifs tc) (he : ∀ cl C s0 H0 fp, PE (X.blkN N2 xs sc cl C s0 H0 fp) elt te)
    (hs : ∀ v, foldedSetIterable iter X.env v = pure v := by intro _; rfl) : PE X (.ListComp elt [⟨tg, iter, ifs, 0⟩] sc pos) (tCompN xs.length g wi tc te) := by
  intro pins s σ H Q I h
  rw [eval_ListComp]
  have hcl : ∀ y ∈ sc.names, y.2 = .free → ∃ c, X.env.cells.lookup y.1 = some c := fun y hy hf => I.ok.has y.1 (B.free y hy hf)
  refine wpAny_comprehension_free (use := none) rfl hs (closureFor_all hcl) B.kind B.loc (thn (hi pins s σ H _ I h) fun v s1 h1 => thn h1 fun itv s2 h2 => ?_)
  obtain ⟨it, fp, tn, J, H2, e, I2, T, st2, f2, hw⟩ := h2
  subst e
  refine blkN_run (RR := fun acc C => compPost (model X.prog X.w) X.A X.xe none (EP X pins σ Q) acc C) hc B hg ht he I2 T st2 f2 hw ?_
  intro D C H' s' m I' hn hC q
  obtain ⟨c0, c1, c2, c3, c4, c5⟩ := hC
  refine ⟨m, hn, fun h'' hs'' => ⟨.ref D, H', ?_, rfl, q⟩⟩
  exact I'.turned (t' := s'.toks) (fun b o hb e => hs''.extBut b o hb e) c0 c1 c3 c4 c5

theorem ps_compN {i : Nat} {y : Str} {py spos : Pos} (hc : X.calm = true) (B : BlkN sc X.env.scope xs X.N N2) (hi : PI X tg iter wi) (hg : ∀ cl C s0 H0 fp, PG (X.blkN N2 xs sc cl C s0 H0 fp) tg g) (ht : ∀ cl C s0 H0 fp, PIf (X.blkN N2 xs sc cl C s0 H0 fp) ifs tc) (he : ∀ cl C s0 H0 fp, PE (X.blkN N2 xs sc cl C s0 H0 fp) elt te)
    (hy : X.N[i]? = some y) (hl : X.env.scope.names.lookup y = some .local) (hsw : autoParam (swapsWith (.ListComp elt [⟨tg, iter, ifs, 0⟩] sc pos) (some (.Name y py)) spos.line X.env = pure true) aT2._auto_1)
    (hs : ∀ v, foldedSetIterable iter X.env v = pure v := by intro _; rfl) : PS X (.Assign [.Name y py] (.ListComp elt [⟨tg, iter, ifs, 0⟩] sc pos) spos) (tAsg (tCompN xs.length g wi tc te) (gName i)) := by
  intro pins s σ H D I h
  have hx := exec_Assign_Name_used (env := X.env) _ _ _ _ hsw
  rw [hx]
  refine wpAny_bind (wpAny_standAt ?_)
  refine wpAny_bind ?_
  show wpAny _ X.A (do let _ ← comprehension (.ListComp elt [⟨tg, iter, ifs, 0⟩] sc pos) sc X.env _ (newList []) false (eval iter X.env) (some (assign (.Name y py) X.env))) _ _ s
  have hcl : ∀ y ∈ sc.names, y.2 = .free → ∃ c, X.env.cells.lookup y.1 = some c := fun y hy hf => I.ok.has y.1 (B.free y hy hf)
  refine wpAny_bind (wpAny_mono (wpAny_comprehension_free (use := some (assign (.Name y py) X.env)) (Q := fun _ s' => SP X pins D .next s') rfl hs (closureFor_all hcl) B.kind B.loc
    (thn (hi pins s σ H _ I h) fun v s1 h1 => thn h1 fun itv s2 h2 => ?_)) (fun _ s' hq => wpAny_pure (wpAny_pure hq)) fun _ _ e => e)
  obtain ⟨it, fp, tn, J, H2, e, I2, T, st2, f2, hw⟩ := h2
  subst e
  refine blkN_run (Q := fun v H1 => gName i v σ H1 D.nx) (RR := fun acc C => compPost (model X.prog X.w) X.A X.xe (some (assign (.Name y py) X.env)) (fun _ s' => SP X pins D .next s') acc C) hc B hg ht he I2 T st2 f2 hw ?_
  intro E C H' s' m I' hn hC q
  obtain ⟨c0, c1, c2, c3, c4, c5⟩ := hC
  show wpAny _ X.A (assign (.Name y py) X.env (.ref E)) _ _ _
  refine wpAny_assign_Name (store_ok2 (v := .ref E) I' B.nd hy (.inl hl) rfl (fun s8 I8 ⟨a, sb, ha⟩ => ?_) (.inr hl))
  have hCa : C ≠ a := by
    rcases ha with z | z
    · rw [z]; exact c1
    · exact fun z' => c4 _ _ z z'.symm
  refine ⟨m, hn.sameBut sb hCa, fun h'' hs'' => ⟨_, H', ?_, q⟩⟩
  exact I8.turned (t' := s8.toks) (fun b o hb e => hs''.extBut b o hb e) c0 c1 c3 c4 c5
end
section
variable {X : Cx} {elt iter c tg : Expr} {xs : List Str} {pos : Pos} {ifs : List Expr} {sc esc : Scope} {N N2 : List Str} {wi : TI} {tc : TT} {te : TE} {g : TG}
theorem qe_compN (esc : Scope) (N N2 xs : List Str) (B : BlkN sc esc xs N N2) (hi : QI X tg iter wi) (hg : ∀ cl C s0 H0 fp, QG (X.blkN N2 xs sc cl C s0 H0 fp) tg g) (ht : ∀ cl C s0 H0 fp, QIf (X.blkN N2 xs sc cl C s0 H0 fp) ifs tc) (he : ∀ cl C s0 H0 fp, QE (X.blkN N2 xs sc cl C s0 H0 fp) elt te)
    (hesc : autoParam (X.env.scope = esc) aT2._auto_1) (hN : autoParam (X.N = N) aT2._auto_1) (hc : autoParam (X.calm = true) aT2._auto_1) (hs : ∀ v, foldedSetIterable iter X.env v = pure v := by intro _; rfl) : QE X (.ListComp elt [⟨tg, iter, ifs, 0⟩] sc pos) (tCompN xs.length g wi tc te) := by
  subst hesc hN
  exact ⟨pe_compN hc B hi.out (fun cl C s0 H0 fp => (hg cl C s0 H0 fp).out) (fun cl C s0 H0 fp => (ht cl C s0 H0 fp).out) (fun cl C s0 H0 fp => (he cl C s0 H0 fp).out) hs⟩
theorem qs_compN {i : Nat} {y : Str} {py spos : Pos} (esc : Scope) (N N2 xs : List Str) (B : BlkN sc esc xs N N2) (hy : N[i]? = some y) (hl : esc.names.lookup y = some .local) (hi : QI X tg iter wi) (hg : ∀ cl C s0 H0 fp, QG (X.blkN N2 xs sc cl C s0 H0 fp) tg g) (ht : ∀ cl C s0 H0 fp, QIf (X.blkN N2 xs sc cl C s0 H0 fp) ifs tc) (he : ∀ cl C s0 H0 fp, QE (X.blkN N2 xs sc cl C s0 H0 fp) elt te)
    (hesc : autoParam (X.env.scope = esc) aT2._auto_1) (hN : autoParam (X.N = N) aT2._auto_1) (hc : autoParam (X.calm = true) aT2._auto_1) (hsw : autoParam (swapsWith (.ListComp elt [⟨tg, iter, ifs, 0⟩] sc pos) (some (.Name y py)) spos.line X.env = pure true) aT2._auto_1)
    (hs : ∀ v, foldedSetIterable iter X.env v = pure v := by intro _; rfl) : QS X (.Assign [.Name y py] (.ListComp elt [⟨tg, iter, ifs, 0⟩] sc pos) spos) (tAsg (tCompN xs.length g wi tc te) (gName i)) := by
  subst hesc hN
  exact ⟨ps_compN hc B hi.out (fun cl C s0 H0 fp => (hg cl C s0 H0 fp).out) (fun cl C s0 H0 fp => (ht cl C s0 H0 fp).out) (fun cl C s0 H0 fp => (he cl C s0 H0 fp).out) hy hl hsw hs⟩
end
end L2

namespace L2
open PySem PySem.Spec PyProof.Rows
section
variable {X : Cx}
end
section
variable {σ : St} {H : Hp} {Q : VK} {D : Ends} {K : PySem.W.Frag}
end
section
variable {X : Cx} {a b c e o i' : Expr} {to ti te : TE} {tc : TT} {pos p2 apos cpos : Pos} {body : List Stmt} {tb : TS}
theorem qe_bm0 {name : Str} {T id : String} {r : V → List V → Hp → VK → Prop} (pa : PlainAttrs T) (slot : Slot T name id) (hty : typeOf (.builtin id) = pure (.type "method_descriptor")) (hm : MtR X id r) (ho : QE X o to)
    (hbase : autoParam (attributeBase o name X.env (eval o X.env) = eval o X.env) aT2._auto_1) (hline : autoParam ((apos.endLine == cpos.line) = true) aT2._auto_1) : QE X (.Call (.Attribute o name apos) [] [] cpos) (tBM0 X.K T r to) := ⟨pe_bm0 pa slot hty hm ho.out hbase hline⟩
theorem qg_sub {t : TSet} (ho : QE X o to) (hi : QE X i' ti) (hs : PSet X t)
    (ha : ∀ v, assign (.Subscript o i' pos) X.env v = (do
      let ov ← holding [v] (eval o X.env)
      let iv ← holding [v, ov] (eval i' X.env)
      standAt pos
      holding [v, ov, iv] (setItem ov iv v)
      release [v, ov, iv] []) := by intro _; rfl) : QG X (.Subscript o i' pos) (gSub to ti t) := ⟨pg_sub ho.out hi.out hs ha⟩
end
end L2

namespace L2
open PySem PySem.Spec PyProof.Rows
section
variable {s : Shared} {E : Value → Shared → Prop} {A : Around} {P : Program} {w : World}
end
section
variable {X : Cx} {e : Expr} {te : TE} {p p' pos pos' : Pos}
end
section
variable {σ : St} {H : Hp} {Q : VK} {K : PySem.W.Frag}
end
end L2

namespace L2
open PySem PySem.Spec PyProof.Rows
theorem range_any (bs : List Bool) : (List.range bs.length).any (fun i => bs.getD i false) = bs.any id := by
  refine Bool.eq_iff_iff.mpr ⟨fun h => List.any_eq_true.mpr ?_, fun h => List.any_eq_true.mpr ?_⟩
  all_goals obtain ⟨i, hi, h⟩ := List.any_eq_true.mp h
  · have hl : i < bs.length := List.mem_range.mp hi
    refine ⟨bs[i], List.getElem_mem hl, ?_⟩
    simpa [List.getD, hl] using h
  · obtain ⟨j, hj, e⟩ := List.mem_iff_getElem.mp hi
    refine ⟨j, List.mem_range.mpr hj, ?_⟩
    have e2 : bs.getD j false = bs[j] := by simp [List.getD, hj]
    rw [e2, e]
    exact h
theorem range_all (bs : List Bool) : (List.range bs.length).all (fun i => bs.getD i false) = bs.all id := by
  refine Bool.eq_iff_iff.mpr ⟨fun h => List.all_eq_true.mpr fun b hb => ?_, fun h => List.all_eq_true.mpr fun i hi => ?_⟩
  · have h := List.all_eq_true.mp h
    obtain ⟨i, hi, e⟩ := List.mem_iff_getElem.mp hb
    have q := h i (List.mem_range.mpr hi)
    have e2 : bs.getD i false = bs[i] := by simp [List.getD, hi]
    rw [e2, e] at q
    exact q
  · have hl : i < bs.length := List.mem_range.mp hi
    have e2 : bs.getD i false = bs[i] := by simp [List.getD, hl]
    rw [e2]
    exact List.all_eq_true.mp h _ (List.getElem_mem hl)
noncomputable def rAnyL (K : PySem.W.Frag) : List V → Hp → VK → Prop := fun xs H Q => ∃ (p : Addr) (bs : List Bool), xs = [.ref p] ∧ SqL K H p (bs.map V.bl) ∧ Q (.bl (bs.any id)) H
noncomputable def rAllL (K : PySem.W.Frag) : List V → Hp → VK → Prop := fun xs H Q => ∃ (p : Addr) (bs : List Bool), xs = [.ref p] ∧ SqL K H p (bs.map V.bl) ∧ Q (.bl (bs.all id)) H
section
variable {X : Cx}
theorem truths {prog : Program} {w : World} {A : Around} {bs : List Bool} {its : List Value} (rv : Vals (bs.map V.bl) its) : TruthOf prog w A (fun i v => its.toArray[i]? = some v) (fun i => bs.getD i false) := by
  intro i v s Q E hv hQ
  have hl := rv.length
  rw [List.length_map] at hl
  have hv' : its[i]? = some v := by simpa using hv
  have hi : i < its.length := (List.getElem?_eq_some_iff.mp hv').1
  obtain ⟨u, e, ru⟩ := rv.get (i := i) (x := V.bl (bs.getD i false)) (by
    rw [List.getElem?_map, List.getElem?_eq_getElem (by omega)]
    simp [List.getD, show i < bs.length by omega])
  rw [hv'] at e
  cases e
  cases (show v = Value.bool (bs.getD i false) from ru)
  exact wpAny_truthy_bool hQ
theorem call_anyL (hc : X.calm = true) : CallR X (.builtin "any") (rAnyL X.K) := by
  intro pins s σ H xs us Q I r h
  obtain ⟨p, bs, rfl, hq, q⟩ := h
  obtain ⟨u, rfl, rx⟩ := vals1 r
  cases rx
  obtain ⟨its, rv, pl, hz⟩ := I.list hq
  have hl := pl.isList
  have hlen := rv.length
  rw [List.length_map] at hlen
  obtain ⟨oa, hoa, _⟩ := id hl
  have hlt : p < s.heap.objs.size := Heap.lt_size hoa
  refine call_any_walk (wpAny_pyIter_list pl.isList ⟨_, _, _, _, _, _, fun i => bs.getD i false, rfl, Walks.list (A := X.A.in1) (I.ok.hd hc) s.heap.objs.size p (Nat.ne_of_lt hlt) its.toArray, ⟨⟨_, Heap.get?_push_size _ rfl, rfl, rfl⟩, hl.push _⟩, truths rv, fun h' tk hk => ⟨.bl (bs.any id), H, I.kept (old_kept hk), ?_, q⟩⟩)
  show Value.bool _ = Value.bool _
  rw [List.size_toArray, ← hlen, range_any]
theorem call_allL (hc : X.calm = true) : CallR X (.builtin "all") (rAllL X.K) := by
  intro pins s σ H xs us Q I r h
  obtain ⟨p, bs, rfl, hq, q⟩ := h
  obtain ⟨u, rfl, rx⟩ := vals1 r
  cases rx
  obtain ⟨its, rv, pl, hz⟩ := I.list hq
  have hl := pl.isList
  have hlen := rv.length
  rw [List.length_map] at hlen
  obtain ⟨oa, hoa, _⟩ := id hl
  have hlt : p < s.heap.objs.size := Heap.lt_size hoa
  refine call_all_walk (wpAny_pyIter_list pl.isList ⟨_, _, _, _, _, _, fun i => bs.getD i false, rfl, Walks.list (A := X.A.in1) (I.ok.hd hc) s.heap.objs.size p (Nat.ne_of_lt hlt) its.toArray, ⟨⟨_, Heap.get?_push_size _ rfl, rfl, rfl⟩, hl.push _⟩, truths rv, fun h' tk hk => ⟨.bl (bs.all id), H, I.kept (old_kept hk), ?_, q⟩⟩)
  show Value.bool _ = Value.bool _
  rw [List.size_toArray, ← hlen, range_all]
end
section
variable {H : Hp} {Q : VK} {K : PySem.W.Frag}
theorem rd_anyL {p : Addr} {bs : List Bool} (h : SqL K H p (bs.map V.bl)) (q : Q (.bl (bs.any id)) H) : rAnyL K [.ref p] H Q := ⟨p, bs, rfl, h, q⟩
theorem rd_allL {p : Addr} {bs : List Bool} (h : SqL K H p (bs.map V.bl)) (q : Q (.bl (bs.all id)) H) : rAllL K [.ref p] H Q := ⟨p, bs, rfl, h, q⟩
end
end L2

namespace L2
open PySem PySem.Spec PyProof.Rows
noncomputable def rIsA (neg : Bool) : R2 := fun x y H Q => (y = .non ∧ Q (.bl (if neg then !decide (x = .non) else decide (x = .non))) H) ∨ ∃ b c, x = .bl b ∧ y = .bl c ∧ Q (.bl (if neg then !(b == c) else b == c)) H
section
variable {X : Cx}
theorem op_notA : OpR X (compareOp .IsNot) (rIsA true) := by
  intro pins s σ H x y v u Q I rx ry h
  rcases h with ⟨rfl, q⟩ | ⟨b, c, rfl, rfl, q⟩
  · exact op_notN pins s σ H x .non v u Q I rx ry ⟨rfl, q⟩
  · cases (show v = Value.bool b from rx)
    cases (show u = Value.bool c from ry)
    refine wpAny_isNot_plain (by cases b <;> cases c <;> rfl) ⟨.bl (!(b == c)), H, I, ?_, q⟩
    cases b <;> cases c <;> rfl
end
section
variable {H : Hp} {Q : VK} {K : PySem.W.Frag}
end
end L2

namespace L2
open PySem PySem.Spec PyProof.Rows
noncomputable def Dk {α : Type} : Sem α → Prop
  | .pure _ => True
  | .raise _ => True
  | .unsupported _ => True
  | .finish _ => True
  | .rule _ k => Dk (k ())
  | .at _ k => Dk (k ())
  | .load _ _ k => ∀ o, Dk (k o)
  | .update _ _ f k => (∀ o : Obj, o.isFreed = false → (f o).isFreed = false ∧ (f o).dict = o.dict) ∧ Dk (k ())
  | .alloc _ k => ∀ a, Dk (k a)
  | .loadIfAlive _ k => ∀ o, Dk (k o)
  | .point _ k => Dk (k ())
  | .fresh k => ∀ a, Dk (k a)
  | .ask k => ∀ a, Dk (k a)
  | .choose _ _ k => ∀ a, Dk (k a)
  | .os _ _ k => ∀ a, Dk (k a)
  | .handled _ k => ∀ a, Dk (k a)
  | .stack k => ∀ a, Dk (k a)
  | .thread k => ∀ a, Dk (k a)
  | .register _ _ => False
  | .call .. => False
  | .newGen .. => False
  | .genState .. => False
  | .resume .. => False
  | .yield .. => False
  | .fork .. => False
  | .await .. => False
end L2

namespace L2
open PySem PySem.Spec PyProof.Rows


section
variable {X : Cx} {pins : List (Addr × Obj)} {σ : St} {H H' : Hp} {s : Shared} {h' : Heap}
end


section
variable {X : Cx} {pins : List (Addr × Obj)} {σ : St} {H : Hp} {s : Shared}
structure Kept (X : Cx) (own : List Addr) (h h' : Heap) : Prop where
  st : (PySem.W.hideAll h (own ++ frs X.stack)).StaysIn h'
  fr : h'.FunFrames (PySem.W.hideAll h (own ++ frs X.stack)) X.stack
  up : h.UpToSlots h'
end



section
variable {X : Cx} {pins : List (Addr × Obj)} {σ : St} {H : Hp} {s : Shared}
end



noncomputable abbrev bmV : List Value := [.type "ValueError", .type "Exception", .type "BaseException", .type "object"]
end L2

namespace L2
open PySem PySem.Spec PyProof.Rows
section
variable {X : Cx} {pins : List (Addr × Obj)} {σ : St} {H : Hp} {s : Shared}
noncomputable def exO (e : Addr) (cls : Value) (dx : Option Addr) : HO := .ext fun h => ∃ o vs, h.get? e = some o ∧ o.cls = cls ∧ o.data = .fields vs ∧ o.dict = dx
noncomputable abbrev Cx.hand (X : Cx) (e : Addr) : Cx := { X with A := X.A.mark (some (.ref e)), calm := false, xe := fun _ _ => False }
end
end L2

namespace L2
open PySem PySem.Spec
section
variable {prog : Program} {w : World} {A : Around} {E : Value → Shared → Prop} {h : Heap} {g : Array GenState} {d : Drawn} {t : Nat} {os : OsState} {a C : Addr} {o : Obj} {vs : Array Value}
open PySem.W (Looks)
end
end L2

namespace L2
open PySem PySem.Spec PyProof.Rows
noncomputable abbrev TJ := St → Hp → (Hp → Prop) → Prop
noncomputable def PJ (X : Cx) (es : List Expr) (t : TJ) : Prop :=
  ∀ (out : Str) (pins : List (Addr × Obj)) (s : Shared) (σ : St) (H : Hp) (Q : VK), Inv X pins σ H s → out.length + 2000 * es.length ≤ sizeLine → t σ H (fun H1 => ∀ z, Q (.str z) H1) →
    wpAny (model X.prog X.w) X.A (joinParts out (evalEach es X.env)) (EP X pins σ Q) X.xe s
structure QJ (X : Cx) (es : List Expr) (t : TJ) : Prop where
  out : PJ X es t
section
variable {X : Cx} {a b e : Expr} {es : List Expr} {te : TE} {t : TJ} {pos : Pos}
end
end L2

namespace L2
open PySem PySem.Spec PyProof.Rows
open PySem.W (Looks)
structure ErrIn (K : PySem.W.Frag) (C : Addr) : Prop where
  exc : PySem.W.excIn K C bmV "ValueError.__new__" = true
  ty : PySem.W.typeIn K (.ref C) = some (.type "type")
  cl : ∃ c, PySem.W.clsIn K C = some c
  ga : PySem.W.findIn K (.ref C) "__getattribute__" = some (some (.builtin "BaseException.__getattribute__"))
  ge : PySem.W.findIn K (.ref C) "__getattr__" = some none
  lk : PySem.W.findIn K (.ref C) "__class__" = some (some (.builtin "object.__class__"))
  so : PySem.W.subIn K (.ref C) (.type "object") = some true
  sb : PySem.W.subIn K (.ref C) (.type "BaseException") = some true
  se : PySem.W.subIn K (.ref C) (.ref C) = some true
section
variable {K : PySem.W.Frag} {C D e : Addr} {b : Bool}
structure ErrK (K : PySem.W.Frag) (C : Addr) : Prop where
  ob : ∃ dd cd sl, K.lookup C = some ⟨.type "type", dd, .cls cd, sl⟩
  ty : PySem.W.typeIn K (.ref C) = some (.type "type")
  cl : ∃ c, PySem.W.clsIn K C = some c
  ga : PySem.W.findIn K (.ref C) "__getattribute__" = some (some (.builtin "BaseException.__getattribute__"))
  ge : PySem.W.findIn K (.ref C) "__getattr__" = some none
  lk : PySem.W.findIn K (.ref C) "__class__" = some (some (.builtin "object.__class__"))
  so : PySem.W.subIn K (.ref C) (.type "object") = some true
  sb : PySem.W.subIn K (.ref C) (.type "BaseException") = some true
  se : PySem.W.subIn K (.ref C) (.ref C) = some true
end
section
variable {X : Cx}
end
section
variable {σ : St} {H : Hp} {Q : VK} {D : Ends} {K : PySem.W.Frag}
end
section
variable {X : Cx} {a b c d : Expr} {ta tb tc td : TE} {pos : Pos}
end
section
variable {X : Cx} {e : Expr} {es : List Expr} {t : TA} {np cpos pos hpos : Pos}
end
end L2

namespace L2
open PySem PySem.Spec PyProof.Rows
structure Pl (n : Nat) (x : Str) : Prop where
  len : x.length ≤ n
  asc : ∀ c ∈ x.cps.toList, c < 128
noncomputable def rSlS : V → Option Int → Option Int → Hp → VK → Prop := fun x _ _ H Q => ∃ z n, x = .str z ∧ Pl n z ∧ n ≤ 1000 ∧ ∀ y, Pl n y → Q (.str y) H
section
variable {X : Cx} {e : Expr} {te : TE} {pos : Pos}
theorem sl_str : SlR X rSlS := by
  intro pins s σ H x v vl vu lo hi sl Q I rx hs pl pu h
  obtain ⟨z, n, rfl, hz, hn, q⟩ := h
  obtain ⟨tk, rfl⟩ := rx
  refine ⟨"str", _, PySem.F.slot_str_getitem.lookup, typeIs_str _ z tk, ?_⟩
  have hp : ∀ {v : Value} {o : Option Int}, IsPart v o → ∃ p : Option (Int × Tok), v = partValue p ∧ p.map (·.1) = o := fun h => by
    cases h with
    | none => exact ⟨none, rfl, rfl⟩
    | int i t => exact ⟨some (i, t), rfl, rfl⟩
  obtain ⟨l, rfl, el⟩ := hp pl
  obtain ⟨u, rfl, eu⟩ := hp pu
  refine wpAny_getItem_str_slice (l := l) (u := u) (st := none) hs rfl ?_
  unfold sliceMade
  split
  · exact ⟨.str z, H, I, ⟨_, rfl⟩, q _ hz⟩
  · have hq : Pl n ⟨((slicePicked z l u none).filterMap (z.cps[·]?)).toArray⟩ := by
      refine ⟨?_, fun c hc => ?_⟩
      · have h1 : ((slicePicked z l u none).filterMap (z.cps[·]?)).length ≤ (slicePicked z l u none).length := List.length_filterMap_le ..
        have h2 : (slicePicked z l u none).length ≤ z.length := sliceIndices_le _ _ _
        exact Nat.le_trans h1 (Nat.le_trans h2 hz.len)
      · obtain ⟨i, _, hi⟩ := List.mem_filterMap.mp (show c ∈ (slicePicked z l u none).filterMap (z.cps[·]?) from hc)
        exact hz.asc c (List.mem_of_getElem? (i := i) (by simpa using hi))
    have := hq.len
    exact ⟨Nat.le_trans hq.len (by rw [sizeLine_eq]; omega), .str _, H, I.tok _, ⟨_, rfl⟩, q _ hq⟩
end
end L2

namespace L2
open PySem PySem.Spec PyProof.Rows

section
variable {κ : Type} [DecidableEq κ]
noncomputable def valV (kvs : List (κ × V)) (k : κ) : Option V := (kvs.find? fun kv => decide (kv.1 = k)).map (·.2)
noncomputable def putK (kvs : List (κ × V)) (k : κ) (v : V) : List (κ × V) :=
  if (kvs.any fun kv => decide (kv.1 = k)) = true then kvs.map (fun kv => if kv.1 = k then (kv.1, v) else kv) else kvs ++ [(k, v)]

theorem valV_pos {p : κ × V} {r : List (κ × V)} {k : κ} (e : p.1 = k) : valV (p :: r) k = some p.2 := by simp [valV, List.find?_cons, e]
theorem valV_neg {p : κ × V} {r : List (κ × V)} {k : κ} (e : ¬ p.1 = k) : valV (p :: r) k = valV r k := by simp [valV, List.find?_cons, e]
theorem valV_any (k : κ) : ∀ kvs : List (κ × V), (kvs.any fun kv => decide (kv.1 = k)) = (valV kvs k).isSome
  | [] => rfl
  | p :: r => by
    rw [List.any_cons]
    by_cases e : p.1 = k
    · simp only [valV_pos e, decide_eq_true e, Bool.true_or, Option.isSome_some]
    · rw [valV_neg e, decide_eq_false e, Bool.false_or]; exact valV_any k r
theorem length_putK (kvs : List (κ × V)) (k : κ) (v : V) : (putK kvs k v).length ≤ kvs.length + 1 := by
  unfold putK
  split
  · rw [List.length_map]; omega
  · rw [List.length_append, List.length_cons, List.length_nil]; omega

theorem RelO.isSome_eq {o : Option V} {u : Option Value} (r : RelO o u) : o.isSome = u.isSome := by
  cases o with
  | none => cases u with
    | none => rfl
    | some _ => exact (show False from r).elim
  | some _ => cases u with
    | none => exact (show False from r).elim
    | some _ => rfl

theorem KV.val {kvs : List (κ × V)} {vs : List (κ × Value)} (r : KV kvs vs) (k : κ) : RelO (valV kvs k) (valueAt vs k) := by
  unfold KV at r
  induction r with
  | nil => exact True.intro
  | @cons p q ps qs h t ih =>
    obtain ⟨h1, h2⟩ := h
    by_cases e : p.1 = k
    · have e' : q.1 = k := h1.symm.trans e
      have b : valueAt (q :: qs) k = some q.2 := by simp [valueAt, List.find?_cons, e']
      rw [valV_pos e, b]; exact h2
    · have e' : ¬ q.1 = k := fun z => e (h1.trans z)
      have b : valueAt (q :: qs) k = valueAt qs k := by simp [valueAt, List.find?_cons, e']
      rw [valV_neg e, b]; exact ih
theorem KV.any {kvs : List (κ × V)} {vs : List (κ × Value)} (r : KV kvs vs) (k : κ) : (kvs.any fun kv => decide (kv.1 = k)) = vs.any fun kv => decide (kv.1 = k) := by
  unfold KV at r
  induction r with
  | nil => rfl
  | cons h t ih => rw [List.any_cons, List.any_cons, ih, h.1]
theorem KV.repl {kvs : List (κ × V)} {vs : List (κ × Value)} (r : KV kvs vs) (k : κ) {y : V} {u : Value} (ry : RelV y u) :
    KV (kvs.map fun kv => if kv.1 = k then (kv.1, y) else kv) (vs.map fun kv => if kv.1 = k then (kv.1, u) else kv) := by
  unfold KV at r ⊢
  induction r with
  | nil => exact .nil
  | @cons p q ps qs h t ih =>
    rw [List.map_cons, List.map_cons]
    refine .cons ?_ ih
    obtain ⟨h1, h2⟩ := h
    by_cases e : p.1 = k
    · rw [if_pos e, if_pos (h1.symm.trans e)]; exact ⟨h1, ry⟩
    · rw [if_neg e, if_neg (fun z => e (h1.trans z))]; exact ⟨h1, h2⟩
theorem KV.put {kvs : List (κ × V)} {vs : List (κ × Value)} (r : KV kvs vs) (k : κ) {y : V} {u : Value} (ry : RelV y u) : KV (putK kvs k y) (stored vs k u) := by
  unfold putK stored
  rw [r.any k]
  by_cases e : (vs.any fun kv => decide (kv.1 = k)) = true
  · rw [if_pos e, if_pos e]; exact r.repl k ry
  · rw [if_neg e, if_neg e]; exact Paired.snoc r ⟨rfl, ry⟩
theorem KV.length {kvs : List (κ × V)} {vs : List (κ × Value)} (r : KV kvs vs) : kvs.length = vs.length := Paired.length r
end


theorem kV_is {P : Program} {w : World} {k : Key} {u : Value} (r : RelV (kV k) u) : (mixKind P w).is k u = true := by
  cases k with
  | inl i => obtain ⟨t, e⟩ := (show ∃ t, u = Value.int i t from r); subst e; exact mixKind_int P w i t
  | inr x => obtain ⟨t, e⟩ := (show ∃ t, u = Value.str x t from r); subst e; exact mixKind_str P w x t
theorem items_are {P : Program} {w : World} : ∀ {ks : List Key} {us : List Value}, Vals (ks.map kV) us → ItemsAre (mixKind P w) ks us
  | [], _, r => by rw [List.map_nil] at r; cases r; exact .nil
  | k :: ks, _, r => by
    rw [List.map_cons] at r
    cases r with
    | cons h t => exact .cons (kV_is h) (items_are t)

noncomputable abbrev KT (H : Hp) : List (List Key × V) → List (List Key × Addr × Value) → Prop := Paired fun p q => p.1 = q.1 ∧ H q.2.1 = some (.tup (p.1.map kV)) ∧ RelV p.2 q.2.2
theorem KT.val {H : Hp} {kvs : List (List Key × V)} {xs : List (List Key × Addr × Value)} (r : KT H kvs xs) (k : List Key) : RelO (valV kvs k) ((atKey xs k).map (·.2)) := by
  induction r with
  | nil => exact True.intro
  | @cons p q ps qs h t ih =>
    obtain ⟨h1, _, h2⟩ := h
    by_cases e : p.1 = k
    · have e' : q.1 = k := h1.symm.trans e
      have b : atKey (q :: qs) k = some q.2 := by simp [atKey, List.find?_cons, e']
      rw [valV_pos e, b]; exact h2
    · have e' : ¬ q.1 = k := fun z => e (h1.trans z)
      have b : atKey (q :: qs) k = atKey qs k := by simp [atKey, List.find?_cons, e']
      rw [valV_neg e, b]; exact ih
theorem KT.repl {H : Hp} {kvs : List (List Key × V)} {xs : List (List Key × Addr × Value)} (r : KT H kvs xs) (k : List Key) {y : V} {u : Value} (ry : RelV y u) :
    KT H (kvs.map fun kv => if kv.1 = k then (kv.1, y) else kv) (xs.map (putAt k u)) := by
  induction r with
  | nil => exact .nil
  | @cons p q ps qs h t ih =>
    rw [List.map_cons, List.map_cons]
    refine .cons ?_ ih
    obtain ⟨h1, h2, h3⟩ := h
    unfold putAt
    by_cases e : p.1 = k
    · rw [if_pos e, if_pos (h1.symm.trans e)]; exact ⟨h1, h2, ry⟩
    · rw [if_neg e, if_neg (fun z => e (h1.trans z))]; exact ⟨h1, h2, h3⟩
theorem KT.put {H : Hp} {kvs : List (List Key × V)} {xs : List (List Key × Addr × Value)} (r : KT H kvs xs) (k : List Key) {b : Addr} {y : V} {u : Value} (hb : H b = some (.tup (k.map kV))) (ry : RelV y u) :
    KT H (putK kvs k y) (storedH xs k b u) := by
  have e : (kvs.any fun kv => decide (kv.1 = k)) = (atKey xs k).isSome := by
    rw [valV_any, (r.val k).isSome_eq, Option.isSome_map]
  unfold putK storedH
  rw [e]
  by_cases q : (atKey xs k).isSome = true
  · rw [if_pos q, if_pos q]; exact r.repl k ry
  · rw [if_neg q, if_neg q]; exact Paired.snoc r ⟨rfl, hb, ry⟩
theorem KT.keeps {H H' : Hp} {kvs : List (List Key × V)} {xs : List (List Key × Addr × Value)} (r : KT H kvs xs) (ht : ∀ b ys, H b = some (.tup ys) → H' b = some (.tup ys)) : KT H' kvs xs :=
  Paired.mapP r fun _ _ z => ⟨z.1, ht _ _ z.2.1, z.2.2⟩

section
variable {P : Program} {w : World} {H : Hp} {h : Heap} {a : Addr}
theorem rd_of {u : HO} (ok : HOk P w H h) (e : Rd H a u) : ObjOk P w H h a u := e.ok ok
theorem dk_rd {kvs : List (Key × V)} (ok : HOk P w H h) (e : Rd H a (.dK kvs)) : kvs.length ≤ sizeLine ∧ (a == sysModules) = false ∧ ∃ vs, KV kvs vs ∧ h.DictOf (mixKind P w) a vs :=
  show ObjOk P w H h a (.dK kvs) from rd_of ok e
theorem dk_of {kvs : List (Key × V)} (ok : HOk P w H h) (e : H a = some (.dK kvs)) : kvs.length ≤ sizeLine ∧ (a == sysModules) = false ∧ ∃ vs, KV kvs vs ∧ h.DictOf (mixKind P w) a vs := dk_rd ok (.inl e)
theorem key_of {ks : List Key} (ok : HOk P w H h) (e : H a = some (.tup (ks.map kV))) : (tupleKind (mixKind P w)).is h ks a := by
  obtain ⟨_, its, r, o, h1, h2, n, h3⟩ := (show ObjOk P w H h a (.tup (ks.map kV)) from ok a _ e)
  exact ⟨o, its.toArray, n, h1, h2, h3, by simpa using items_are r⟩
theorem dt_rd {kvs : List (List Key × V)} (ok : HOk P w H h) (e : Rd H a (.dT kvs)) : kvs.length ≤ sizeLine ∧ (a == sysModules) = false ∧
    ∃ xs, KT H kvs xs ∧ h.DictOfH (tupleKind (mixKind P w)) a xs := by
  obtain ⟨z, y, xs, r, o, es, ep, h1, h2, h3, h4, h5⟩ := (show ObjOk P w H h a (.dT kvs) from rd_of ok e)
  refine ⟨z, y, xs, r, o, es, ep, h1, h2, h3, h4, fun x hx => ?_, h5⟩
  have all : ∀ {l : List (List Key × V)} {m : List (List Key × Addr × Value)}, KT H l m → ∀ x ∈ m, (tupleKind (mixKind P w)).is h x.1 x.2.1 := by
    intro l m q
    induction q with
    | nil => intro x hx; exact nomatch hx
    | @cons p q ps qs hq t ih =>
      intro x hx
      rcases List.mem_cons.mp hx with e | hx
      · subst e
        exact key_of ok (by rw [← hq.1]; exact hq.2.1)
      · exact ih x hx
  exact all r x hx
theorem dt_of {kvs : List (List Key × V)} (ok : HOk P w H h) (e : H a = some (.dT kvs)) : kvs.length ≤ sizeLine ∧ (a == sysModules) = false ∧
    ∃ xs, KT H kvs xs ∧ h.DictOfH (tupleKind (mixKind P w)) a xs := dt_rd ok (.inl e)
end

noncomputable def DGet (H : Hp) (a : Addr) (y : V) (r : Option V) : Prop :=
  (∃ kvs k, Rd H a (.dK kvs) ∧ y = kV k ∧ r = valV kvs k) ∨ ∃ kvs k b, Rd H a (.dT kvs) ∧ y = .ref b ∧ H b = some (.tup (k.map kV)) ∧ r = valV kvs k
noncomputable def DPut (H : Hp) (a : Addr) (y v : V) (H' : Hp) : Prop :=
  (∃ kvs k, H a = some (.dK kvs) ∧ y = kV k ∧ kvs.length < sizeLine ∧ H' = upd H a (.dK (putK kvs k v))) ∨
  ∃ kvs k b, H a = some (.dT kvs) ∧ y = .ref b ∧ H b = some (.tup (k.map kV)) ∧ kvs.length < sizeLine ∧ H' = upd H a (.dT (putK kvs k v))
theorem DGet.k {H : Hp} {a : Addr} {kvs : List (Key × V)} {k : Key} (e : H a = some (.dK kvs)) : DGet H a (kV k) (valV kvs k) := .inl ⟨kvs, k, .inl e, rfl, rfl⟩
theorem DPut.k {H : Hp} {a : Addr} {kvs : List (Key × V)} {k : Key} {v : V} (e : H a = some (.dK kvs)) (hl : kvs.length < sizeLine) : DPut H a (kV k) v (upd H a (.dK (putK kvs k v))) := .inl ⟨kvs, k, e, rfl, hl, rfl⟩


section
variable {X : Cx} {pins : List (Addr × Obj)} {σ : St} {H : Hp} {s : Shared} {a : Addr} {y v : V} {u r : Value} {o : Option V} {A : Around} {E : Value → Shared → Prop}

theorem Inv.big (I : Inv X pins σ H s) : sysModules < s.heap.objs.size := by
  have h : mainGlobals < s.heap.objs.size := (I.mod.glob.keeps I.bk).lt
  exact Nat.lt_trans (by decide) h

theorem d_in {Q : Value → Shared → Prop} (hu : A.units + 1 < cLine) (I : Inv X pins σ H s) (g : DGet H a y o) (ry : RelV y u) (h : ∀ s', Inv X pins σ H s' → Q (.bool o.isSome) s') :
    wpAny (model X.prog X.w) A (compareOp .In u (.ref a)) Q E s := by
  rcases g with ⟨kvs, k, e, ey, l⟩ | ⟨kvs, k, b, e, ey, eb, l⟩
  · subst ey
    obtain ⟨z, hd, vs, rel, dd⟩ := dk_rd I.hok e
    refine wpAny_in_of (kV_is ry) hd dd.mapOf ?_
    rw [← (rel.val k).isSome_eq, ← l]
    exact h _ (I.tok _)
  · subst ey
    cases (show u = Value.ref b from ry)
    obtain ⟨z, hd, xs, rel, dd⟩ := dt_rd I.hok e
    refine wpAny_in_heap (tupleKind_room_in1 hu) (key_of I.hok eb) hd dd ?_
    have q := (rel.val k).isSome_eq
    rw [Option.isSome_map] at q
    rw [← q, ← l]
    exact h _ (I.tok _)
theorem d_write {h' : Heap} {t' : Nat} {ob : HO} (I : Inv X pins σ H s) (mu : Mut (H a)) (hs : Heap.SameBut a s.heap h') (he : ∃ q, h'.get? a = some q) (new : ObjOk X.prog X.w (upd H a ob) h' a ob) :
    Inv X pins σ (upd H a ob) { s with heap := h', toks := t' } :=
  I.write (x := a) (e := a) mu (.inl rfl) (fun b q hb z => (hs.2 b hb).trans z) he new
theorem dk_new {P : Program} {w : World} {H' : Hp} {h' : Heap} {kvs : List (Key × V)} {vs : List (Key × Value)} (z : kvs.length ≤ sizeLine) (hd : (a == sysModules) = false) (rel : KV kvs vs) (dd : h'.DictOf (mixKind P w) a vs) :
    ObjOk P w H' h' a (.dK kvs) := ⟨z, hd, vs, rel, dd⟩
theorem d_setItem {H' : Hp} {Q : Unit → Shared → Prop} (hu : A.units + 1 < cLine) (I : Inv X pins σ H s) (g : DPut H a y v H') (ry : RelV y u) (rv : RelV v r) (h : ∀ s', Inv X pins σ H' s' → Q () s') :
    wpAny (model X.prog X.w) A (setItem (.ref a) u r) Q E s := by
  rcases g with ⟨kvs, k, e, ey, l, eH⟩ | ⟨kvs, k, b, e, ey, eb, l, eH⟩
  · subst ey eH
    obtain ⟨z, hd, vs, rel, dd⟩ := dk_of I.hok e
    have hz : vs.length ≤ sizeLine := by rw [← rel.length]; exact z
    have hl : (putK kvs k v).length ≤ sizeLine := by have := length_putK kvs k v; omega
    refine wpAny_setItem_pairs (hsz := hz) (kV_is ry) dd fun h' dd' hs => h _ ?_
    have he : ∃ q, h'.get? a = some q := let ⟨q, _, _, hq, _⟩ := dd'; ⟨q, hq⟩
    exact d_write I (by rw [e]; exact True.intro) hs he (dk_new hl hd (rel.put k rv) dd')
  · subst ey eH
    cases (show u = Value.ref b from ry)
    obtain ⟨z, hd, xs, rel, dd⟩ := dt_of I.hok e
    have hz : xs.length ≤ sizeLine := by rw [← Paired.length rel]; exact z
    have hl : (putK kvs k v).length ≤ sizeLine := by have := length_putK kvs k v; omega
    refine wpAny_setItem_heap (hsz := hz) (tupleKind_room_in1 hu) (key_of I.hok eb) dd fun h' dd' hs => h _ ?_
    obtain ⟨q, es, ep, hq, h2, h3, h4, _, h5⟩ := dd'
    refine d_write I (by rw [e]; exact True.intro) hs ⟨q, hq⟩ ⟨hl, hd, _, (rel.put k eb rv).keeps fun c ys ec => ?_, q, es, ep, hq, h2, h3, h4, h5⟩
    rw [upd_ne (ne_of ec e (fun z => nomatch z))]
    exact ec
end

section
variable {X : Cx} {pins : List (Addr × Obj)} {σ : St} {H : Hp} {s : Shared} {a : Addr} {kvs : List (Key × V)} {k : Key} {u : Value} {A : Around} {E : Value → Shared → Prop}
end




noncomputable def sDPut (td ty tv : TE) : TS := fun D σ H => tv σ H fun v H1 => td σ H1 fun x H2 => ty σ H2 fun y H3 => ∃ a H4, x = .ref a ∧ DPut H3 a y v H4 ∧ D.nx σ H4

section
variable {X : Cx} {o i e value : Expr} {pos pos' tpos : Pos} {td ty tv : TE}
end


theorem dk_empty {P : Program} {w : World} {H : Hp} (h : Heap) (hb : sysModules < h.objs.size) : ObjOk P w H (h.push { cls := .type "dict", data := .dict #[] }) h.objs.size (.dK []) :=
  ⟨Nat.zero_le _, beq_eq_false_iff_ne.mpr (Ne.symm (Nat.ne_of_lt hb)), [], .nil, Heap.DictOf.new h⟩
noncomputable def tDNewK : TE := fun _ H Q => ∀ p, H p = none → Q (.ref p) (upd H p (.dK []))
section
variable {X : Cx} {pos : Pos}
theorem pe_dnewK : PE X (.Dict [] [] pos) tDNewK := fun pins s σ H Q I h =>
  wpAny_Dict_empty ⟨.ref s.heap.objs.size, _, I.laid (a := s.heap.objs.size) (o := .dK []) (t' := s.toks) (fun _ _ q => Heap.get?_push_of_some _ q) (Nat.le_refl _) (dk_empty s.heap I.big), rfl, h _ (I.hok.fresh (Nat.le_refl _))⟩
end

noncomputable def tPairs : List (TE × TE) → St → Hp → (List (V × V) → Hp → Prop) → Prop
  | [], _, H, Q => Q [] H
  | (tk, tv) :: r, σ, H, Q => tk σ H fun x H1 => tv σ H1 fun y H2 => tPairs r σ H2 fun ps H3 => Q ((x, y) :: ps) H3



structure M1 (X : Cx) (o : Expr) (m : Str) (apos : Pos) (e : Expr) (cpos : Pos) : Prop where
  base : attributeBase o m X.env (eval o X.env) = eval o X.env
  few : ((backTo cpos (starEach [e] X.env)).all (fun x => !x.1) && (backToKw cpos (keywordEach [] X.env)).all (fun x => x.1.isSome)
    && decide (([e] : List Expr).length + ([] : List Keyword).length + (if ([] : List Keyword).isEmpty then 0 else 1) < 30)) = true
  line : (apos.endLine == cpos.line) = true
  trees : backTo cpos (starEach [e] X.env) = [(false, eval e X.env)]
structure M2 (X : Cx) (o : Expr) (m : Str) (apos : Pos) (e f : Expr) (cpos : Pos) : Prop where
  base : attributeBase o m X.env (eval o X.env) = eval o X.env
  few : ((backTo cpos (starEach [e, f] X.env)).all (fun x => !x.1) && (backToKw cpos (keywordEach [] X.env)).all (fun x => x.1.isSome)
    && decide (([e, f] : List Expr).length + ([] : List Keyword).length + (if ([] : List Keyword).isEmpty then 0 else 1) < 30)) = true
  line : (apos.endLine == cpos.line) = true
  trees : backTo cpos (starEach [e, f] X.env) = [(false, eval e X.env), (false, eval f X.env)]


section
variable {X : Cx} {pins : List (Addr × Obj)} {σ : St} {H : Hp} {s : Shared} {a : Addr} {y d : V} {u r : Value} {o : Option V} {A : Around} {E : Value → Shared → Prop}
end

section
variable {X : Cx} {o e f : Expr} {apos cpos : Pos} {td ty tx : TE}
end

section
variable {X : Cx} {pins : List (Addr × Obj)} {σ : St} {H : Hp} {s : Shared} {a : Addr} {kvs : List (Key × V)} {A : Around} {E : Value → Shared → Prop}
end


section
variable {X : Cx} {pins : List (Addr × Obj)} {σ : St} {H : Hp} {s : Shared} {a : Addr} {y : V} {u : Value} {A : Around} {E : Value → Shared → Prop}
end
end L2


namespace Dl
open PySem
set_option genInjectivity true in
inductive D where
  | non
  | bl (b : Bool)
  | int (i : Int)
  | str (x : Str)
  | lst (xs : List D)
  | tup (xs : List D)
  | scr (ns : List Int)
  | rng (lo hi : Int)
  | exc (c : String) (f : Option Int)
  | obj (c : String) (ns : List Str) (xs : List D)
  | dct (ks : List (Int ⊕ Str)) (xs : List D)
  deriving Inhabited

set_option genInjectivity true in
inductive R (α : Type) where
  | ok (a : α)
  | err (c : String) (f : Option Int)
  | bad

noncomputable abbrev Env := List (Option D)

set_option genInjectivity true in
inductive Fl where
  | nx (ρ : Env)
  | ret (d : D)
  | brk (ρ : Env)
  | cnt (ρ : Env)

noncomputable def R.bind {α β : Type} : R α → (α → R β) → R β
  | .ok a, f => f a
  | .err c x, _ => .err c x
  | .bad, _ => .bad
@[simp] theorem bind_ok {α β : Type} (a : α) (f : α → R β) : (R.ok a).bind f = f a := (rfl)
@[simp] theorem bind_err {α β : Type} (c : String) (x : Option Int) (f : α → R β) : (R.err c x : R α).bind f = .err c x := (rfl)
@[simp] theorem bind_bad {α β : Type} (f : α → R β) : (R.bad : R α).bind f = .bad := (rfl)

noncomputable abbrev FE := Env → R D
noncomputable abbrev FT := Env → R Bool
noncomputable abbrev FA := Env → R (List D)
noncomputable abbrev FO := Env → R (Option Int)
noncomputable abbrev FS := Env → R Fl

noncomputable def fC (d : D) : FE := fun _ => .ok d
noncomputable def fV (i : Nat) : FE := fun ρ => match ρ[i]? with
  | some (some d) => .ok d
  | _ => .bad
noncomputable def oR {α : Type} : Option α → R α
  | some a => .ok a
  | none => .bad
@[simp] theorem oR_some {α : Type} (a : α) : oR (some a) = .ok a := (rfl)
@[simp] theorem oR_none {α : Type} : (oR (none : Option α)) = .bad := (rfl)
noncomputable def f1 (g : D → Option D) (a : FE) : FE := fun ρ => (a ρ).bind fun x => oR (g x)
noncomputable def f2 (g : D → D → Option D) (a b : FE) : FE := fun ρ => (a ρ).bind fun x => (b ρ).bind fun y => oR (g x y)
noncomputable def aNil : FA := fun _ => .ok []
noncomputable def aCons (a : FE) (r : FA) : FA := fun ρ => (a ρ).bind fun x => (r ρ).bind fun xs => .ok (x :: xs)
noncomputable def fA (g : List D → Option D) (a : FA) : FE := fun ρ => (a ρ).bind fun xs => oR (g xs)
noncomputable def fCall (F : List D → R D) (a : FA) : FE := fun ρ => (a ρ).bind F
noncomputable abbrev lim : Nat := 1000000
noncomputable def gLst (xs : List D) : Option D := if xs.length ≤ lim then some (.lst xs) else none
noncomputable def gTup (xs : List D) : Option D := if xs.length ≤ lim then some (.tup xs) else none

mutual
noncomputable def flat : D → Bool
  | .lst _ => false
  | .tup xs => flatA xs
  | .non => true
  | .bl _ => true
  | .int _ => true
  | .str _ => true
  | .scr _ => true
  | .rng _ _ => true
  | .exc _ _ => true
  | .obj _ _ _ => false
  | .dct _ _ => false
noncomputable def flatA : List D → Bool
  | [] => true
  | x :: xs => flat x && flatA xs
end
noncomputable def gFlat (d : D) : Option D := if flat d then some d else none

noncomputable def gAdd : D → D → Option D
  | .int i, .int j => some (.int (i + j))
  | .str x, .str y => if x.length + y.length ≤ lim then some (.str (x ++ y)) else none
  | .lst xs, .lst ys => if xs.length + ys.length ≤ lim ∧ flatA xs ∧ flatA ys then some (.lst (xs ++ ys)) else none
  | _, _ => none
noncomputable def gAddI : D → D → Option D
  | .int i, .int j => some (.int (i + j))
  | _, _ => none
noncomputable def gSub : D → D → Option D
  | .int i, .int j => some (.int (i - j))
  | _, _ => none
noncomputable def short (i : Int) : Bool := decide (-(2 ^ 64) < i) && decide (i < 2 ^ 64)
noncomputable def gMul : D → D → Option D
  | .int i, .int j => if short i || short j then some (.int (i * j)) else none
  | .lst xs, .int k => if k ≤ 1000000 ∧ xs.length * k.toNat ≤ lim ∧ -1000000 ≤ k ∧ flatA xs then some (.lst (List.replicate k.toNat xs).flatten) else none
  | _, _ => none
noncomputable def gMod : D → D → Option D
  | .int i, .int j => if 0 < j then some (.int (i % j)) else none
  | _, _ => none
noncomputable def gDiv : D → D → Option D
  | .int i, .int j => if 0 < j ∧ j < 2 ^ 200 then some (.int (i / j)) else none
  | _, _ => none
noncomputable def gPow : D → D → Option D
  | .int i, .int j => if 0 ≤ j ∧ j ≤ 1000000 ∧ i.natAbs < 2 ^ 64 then some (.int (i ^ j.toNat)) else none
  | _, _ => none
noncomputable def gNeg : D → Option D
  | .int i => some (.int (-i))
  | _ => none
noncomputable def gLt : D → D → Option D
  | .int i, .int j => some (.bl (decide (i < j)))
  | _, _ => none
noncomputable def gLe : D → D → Option D
  | .int i, .int j => some (.bl (decide (i ≤ j)))
  | _, _ => none
noncomputable def gGt : D → D → Option D
  | .int i, .int j => some (.bl (decide (j < i)))
  | _, _ => none
noncomputable def gGe : D → D → Option D
  | .int i, .int j => some (.bl (decide (j ≤ i)))
  | _, _ => none

mutual
noncomputable def dep : D → Nat
  | .lst xs => depA xs + 1
  | .tup xs => depA xs + 1
  | .scr _ => 100
  | .rng _ _ => 100
  | .exc _ _ => 100
  | .obj _ _ _ => 100
  | .dct _ _ => 100
  | .non => 0
  | .bl _ => 0
  | .int _ => 0
  | .str _ => 0
noncomputable def depA : List D → Nat
  | [] => 0
  | x :: xs => max (dep x) (depA xs)
end
mutual
noncomputable def eqv : D → D → Bool
  | .non, .non => true
  | .bl a, .bl b => a == b
  | .bl a, .int j => (if a then 1 else 0) == j
  | .int i, .bl b => i == (if b then 1 else 0)
  | .int i, .int j => i == j
  | .str x, .str y => x == y
  | .lst xs, .lst ys => eqvA xs ys
  | .tup xs, .tup ys => eqvA xs ys
  | _, _ => false
noncomputable def eqvA : List D → List D → Bool
  | [], [] => true
  | x :: xs, y :: ys => eqv x y && eqvA xs ys
  | _, _ => false
end
noncomputable def gEq (a b : D) : Option D := if dep a ≤ 20 ∧ dep b ≤ 20 then some (.bl (eqv a b)) else none
noncomputable def gNe (a b : D) : Option D := if dep a ≤ 20 ∧ dep b ≤ 20 then some (.bl (!eqv a b)) else none
noncomputable def isNon : D → Bool
  | .non => true
  | _ => false
noncomputable def gIs (x : D) : D → Option D
  | .non => some (.bl (isNon x))
  | .bl c => match x with
    | .bl b => some (.bl (b == c))
    | _ => none
  | _ => none
noncomputable def gIsNot (x : D) : D → Option D
  | .non => some (.bl (!isNon x))
  | .bl c => match x with
    | .bl b => some (.bl (!(b == c)))
    | _ => none
  | _ => none

noncomputable def ixD (n : Nat) (i : Int) : Option Nat := if 0 ≤ i then (if i < n then some i.toNat else none) else if -(n : Int) ≤ i then some (i + n).toNat else none
noncomputable def atD {α : Type} (xs : List α) (i : Int) : Option α := (ixD xs.length i).bind fun j => xs[j]?
noncomputable def sixD (n d : Nat) : Option Int → Nat
  | none => d
  | some v => if v < 0 then (max (v + (n : Int)) 0).toNat else min v.toNat n
noncomputable def cut {α : Type} (xs : List α) (lo hi : Option Int) : List α := (xs.drop (sixD xs.length 0 lo)).take (sixD xs.length xs.length hi - sixD xs.length 0 lo)
noncomputable def gIx : D → D → Option D
  | .lst xs, .int i => (atD xs i)
  | .tup xs, .int i => (atD xs i)
  | .scr ns, .int i => ((atD ns i).map D.int)
  | .str z, .int i => if z.length ≤ lim then ((atD z.cps.toList i).map fun c => D.str ⟨#[c]⟩) else none
  | _, _ => none
noncomputable def gIxL (x y : D) : Option D := match x with
  | .lst _ => gIx x y
  | _ => none
noncomputable def oNone : FO := fun _ => .ok none
noncomputable def oSome (a : FE) : FO := fun ρ => (a ρ).bind fun d => match d with
  | .int i => .ok (some i)
  | _ => .bad
noncomputable def fSl (g : D → Option Int → Option Int → Option D) (a : FE) (l h : FO) : FE := fun ρ => (a ρ).bind fun x => (l ρ).bind fun lo => (h ρ).bind fun hi => oR (g x lo hi)
noncomputable def gSl : D → Option Int → Option Int → Option D
  | .lst xs, lo, hi => if flatA xs then some (.lst (cut xs lo hi)) else none
  | .scr ns, lo, hi => some (.lst ((cut ns lo hi).map D.int))
  | _, _, _ => none
noncomputable def gSlT : D → Option Int → Option Int → Option D
  | .tup xs, lo, hi => if flatA xs = true ∧ ¬ (sixD xs.length 0 lo = 0 ∧ sixD xs.length xs.length hi = xs.length) then some (.tup (cut xs lo hi)) else none
  | _, _, _ => none
noncomputable def plain (n : Nat) (z : Str) : Bool := decide (z.length ≤ n) && z.cps.toList.all (fun c => decide (c < 128))
noncomputable def strCut (z : Str) (lo hi : Option Int) : Str := if ((Builtin.Str.strSliceIndices lo hi 1 z.length).length == z.length) = true then z else ⟨((Builtin.Str.strSliceIndices lo hi 1 z.length).filterMap (z.cps[·]?)).toArray⟩
noncomputable def gSlS : D → Option Int → Option Int → Option D
  | .str z, lo, hi => if plain 1000 z then some (.str (strCut z lo hi)) else none
  | _, _, _ => none

noncomputable def intsOf : List D → Option (List Int)
  | [] => some []
  | .int i :: r => (intsOf r).map (i :: ·)
  | _ :: _ => none
noncomputable def bools : List D → Option (List Bool)
  | [] => some []
  | .bl i :: r => (bools r).map (i :: ·)
  | _ :: _ => none
noncomputable def gLen : List D → Option D
  | [.lst xs] => some (.int xs.length)
  | [.tup xs] => some (.int xs.length)
  | [.scr xs] => some (.int xs.length)
  | [.str z] => if z.length ≤ lim then some (.int z.length) else none
  | _ => none
noncomputable def maxL : List Int → Int
  | [] => 0
  | x :: r => r.foldl max x
noncomputable def gMin : List D → Option D
  | [.int i, .int j] => some (.int (if j < i then j else i))
  | _ => none
noncomputable def gAny : List D → Option D
  | [.lst xs] => (bools xs).bind fun bs => some (.bl (bs.any id))
  | _ => none
noncomputable def gAll : List D → Option D
  | [.lst xs] => (bools xs).bind fun bs => some (.bl (bs.all id))
  | _ => none
noncomputable def rngL (lo : Int) (n : Nat) : List D := (List.range n).map fun (k : Nat) => D.int (lo + (k : Int))
noncomputable def gList : List D → Option D
  | [.lst xs] => if flatA xs then some (.lst xs) else none
  | [.tup xs] => if flatA xs then some (.lst xs) else none
  | [.rng i j] => if -1000000000 ≤ i ∧ i ≤ 1000000000 ∧ -1000000000 ≤ j ∧ j ≤ 1000000000 ∧ (j - i).toNat ≤ lim then some (.lst (rngL i (j - i).toNat)) else none
  | _ => none
noncomputable def gListV : List D → Option D
  | [.lst xs] => some (.lst xs)
  | _ => none
noncomputable def tyName : D → String
  | .non => "NoneType"
  | .bl _ => "bool"
  | .int _ => "int"
  | .str _ => "str"
  | .lst _ => "list"
  | .tup _ => "tuple"
  | .scr _ => "list"
  | .rng _ _ => "range"
  | .exc c _ => c
  | .obj c _ _ => c
  | .dct _ _ => "dict"
noncomputable def gIsI (c : String) : D → Option D
  | .non => some (.bl false)
  | .bl _ => some (.bl (c == "bool" || c == "int"))
  | .int _ => some (.bl (c == "int"))
  | .str _ => some (.bl (c == "str"))
  | .lst _ => some (.bl (c == "list"))
  | .tup _ => some (.bl (c == "tuple"))
  | _ => none


noncomputable def cE (a : FE) : FT := fun ρ => (a ρ).bind fun d => match d with
  | .bl b => .ok b
  | _ => .bad
noncomputable def cNot (a : FT) : FT := fun ρ => (a ρ).bind fun b => .ok (!b)
noncomputable def cAnd (a b : FT) : FT := fun ρ => (a ρ).bind fun x => if x then b ρ else .ok false
noncomputable def cOr (a b : FT) : FT := fun ρ => (a ρ).bind fun x => if x then .ok true else b ρ
noncomputable def fAnd (a b : FE) : FE := fun ρ => (a ρ).bind fun x => match x with
  | .bl true => b ρ
  | .bl false => .ok (.bl false)
  | _ => .bad
noncomputable def fOr (a b : FE) : FE := fun ρ => (a ρ).bind fun x => match x with
  | .bl true => .ok (.bl true)
  | .bl false => b ρ
  | _ => .bad
noncomputable def gNot : D → Option D
  | .bl b => some (.bl (!b))
  | _ => none
noncomputable def fIf (c : FT) (a b : FE) : FE := fun ρ => (c ρ).bind fun x => if x then a ρ else b ρ
noncomputable def fChain (g g' : D → D → Option D) (a b c : FE) : FE := fun ρ => (a ρ).bind fun x => (b ρ).bind fun y => (oR (g x y)).bind fun z => match z with
  | .bl true => (c ρ).bind fun w => oR (g' y w)
  | .bl false => .ok (.bl false)
  | _ => .bad

noncomputable abbrev FB := D → Env → R Env
noncomputable def bName (i : Nat) : FB := fun d ρ => .ok (ρ.set i (some d))
noncomputable def bNil : List D → Env → R Env
  | [], ρ => .ok ρ
  | _, _ => .bad
noncomputable def bCons (b : FB) (r : List D → Env → R Env) : List D → Env → R Env
  | d :: ds, ρ => (b d ρ).bind fun ρ' => r ds ρ'
  | _, _ => .bad
noncomputable def bTup (r : List D → Env → R Env) : FB := fun d ρ => match d with
  | .tup ds => r ds ρ
  | _ => .bad
noncomputable def R.calm {α : Type} : R α → R α
  | .ok a => .ok a
  | .err _ _ => .bad
  | .bad => .bad
@[simp] theorem calm_ok {α : Type} (a : α) : (R.ok a).calm = .ok a := (rfl)
noncomputable def compN (k : Nat) (b : FB) (c : FT) (e : FE) (ρ : Env) : List D → R (List D)
  | [] => .ok []
  | x :: xs => (b x (ρ ++ List.replicate k none)).calm.bind fun ρ1 => (c ρ1).bind fun t => if t then (e ρ1).bind fun y => (compN k b c e ρ xs).bind fun ys => .ok (y :: ys) else compN k b c e ρ xs
noncomputable def cYes : FT := fun _ => .ok true
noncomputable abbrev FI := Env → R (List D)
noncomputable def jList (a : FE) : FI := fun ρ => (a ρ).bind fun d => match d with
  | .lst xs => if xs.length ≤ lim then .ok xs else .bad
  | .scr ns => if ns.length ≤ lim then .ok (ns.map D.int) else .bad
  | _ => .bad
noncomputable def jTup (a : FE) : FI := fun ρ => (a ρ).bind fun d => match d with
  | .tup xs => if xs.length ≤ lim then .ok xs else .bad
  | _ => .bad
noncomputable def jRng1 (a : FA) : FI := fun ρ => (a ρ).bind fun ds => match ds with
  | [.int j] => if -1000000000 ≤ j ∧ j ≤ 1000000 then .ok (rngL 0 j.toNat) else .bad
  | _ => .bad
noncomputable def jRng2 (a : FA) : FI := fun ρ => (a ρ).bind fun ds => match ds with
  | [.int i, .int j] => if -1000000000 ≤ i ∧ i ≤ 1000000000 ∧ -1000000000 ≤ j ∧ j ≤ 1000000000 ∧ (j - i).toNat ≤ lim then .ok (rngL i (j - i).toNat) else .bad
  | _ => .bad
noncomputable def enumL (ds : List D) : List D := ds.mapIdx fun i d => D.tup [.int (i : Int), d]
noncomputable def jEnum (a : FE) : FI := fun ρ => (a ρ).bind fun d => match d with
  | .lst xs => if xs.length ≤ lim then .ok (enumL xs) else .bad
  | _ => .bad
noncomputable def fComp (n k : Nat) (it : FI) (b : FB) (c : FT) (e : FE) : FE := fun ρ => if ρ.length = n then (it ρ).bind fun xs => (compN k b c e ρ xs).calm.bind fun ys => .ok (.lst ys) else .bad

noncomputable def sNx : FS := fun ρ => .ok (.nx ρ)
noncomputable def sNever : FS := fun _ => .bad
noncomputable def sSeq (a b : FS) : FS := fun ρ => (a ρ).bind fun fl => match fl with
  | .nx ρ' => b ρ'
  | fl => .ok fl
noncomputable def sSet (i : Nat) (e : FE) : FS := fun ρ => (e ρ).bind fun d => .ok (.nx (ρ.set i (some d)))
noncomputable def sRet (e : FE) : FS := fun ρ => (e ρ).bind fun d => .ok (.ret d)
noncomputable def sIf (c : FT) (a b : FS) : FS := fun ρ => (c ρ).bind fun x => if x then a ρ else b ρ
noncomputable def sApp (i : Nat) (e : FE) : FS := fun ρ => match ρ[i]? with
  | some (some (.lst xs)) => (e ρ).bind fun d => if xs.length < lim then .ok (.nx (ρ.set i (some (.lst (xs ++ [d]))))) else .bad
  | _ => .bad
noncomputable def sClear (i : Nat) : FS := fun ρ => match ρ[i]? with
  | some (some (.lst _)) => .ok (.nx (ρ.set i (some (.lst []))))
  | _ => .bad
noncomputable def updP (f : List D → Option (List D)) : List Int → D → Option D
  | [], .lst xs => (f xs).map D.lst
  | n :: r, .lst xs => (ixD xs.length n).bind fun j => xs[j]?.bind fun d => (updP f r d).map fun d' => D.lst (xs.set j d')
  | n :: r, .tup xs => (ixD xs.length n).bind fun j => xs[j]?.bind fun d => (updP f r d).map fun d' => D.tup (xs.set j d')
  | _, _ => none
noncomputable def addL (d : D) (xs : List D) : Option (List D) := if xs.length < lim then some (xs ++ [d]) else none
noncomputable def forApp (i j : Nat) (c : FT) (r : D) (e : FE) (ρ : Env) : List D → List D → R Fl
  | dn, [] => .ok (.nx ((ρ.set i (some (.lst dn))).set j none))
  | dn, x :: rest => (c ((ρ.set i (some (.lst (dn ++ x :: rest)))).set j (some x))).bind fun b => if b then .ok (.ret r) else
      (e ((ρ.set i (some (.lst (dn ++ x :: rest)))).set j (some x))).calm.bind fun v => match updP (addL v) [] x with
        | some x' => forApp i j c r e ρ (dn ++ [x']) rest
        | none => .bad
noncomputable def sAsg (e : FE) (b : FB) : FS := fun ρ => (e ρ).bind fun d => (b d ρ).calm.bind fun ρ' => .ok (.nx ρ')
noncomputable def forD (b : FB) (s : FS) : List D → Env → R Fl
  | [], ρ => .ok (.nx ρ)
  | x :: xs, ρ => (b x ρ).calm.bind fun ρ1 => (s ρ1).bind fun fl => match fl with
    | .nx ρ2 => forD b s xs ρ2
    | .cnt ρ2 => forD b s xs ρ2
    | .brk ρ2 => .ok (.nx ρ2)
    | .ret d => .ok (.ret d)
noncomputable def sFor (it : FI) (b : FB) (s : FS) : FS := fun ρ => (it ρ).bind fun xs => forD b s xs ρ
noncomputable def whileD (c : FT) (s : FS) : Nat → Env → R Fl
  | 0, _ => .bad
  | n + 1, ρ => (c ρ).bind fun b => if b then (s ρ).bind fun fl => match fl with
    | .nx ρ2 => whileD c s n ρ2
    | .cnt ρ2 => whileD c s n ρ2
    | .brk ρ2 => .ok (.nx ρ2)
    | .ret d => .ok (.ret d)
    else .ok (.nx ρ)
noncomputable def sWhile (n : Nat) (c : FT) (s : FS) : FS := fun ρ => whileD c s n ρ
noncomputable def sRaise (c : String) (words : FA) : FS := fun ρ => (words ρ).bind fun _ => .err c none
noncomputable def strsOf : List D → Option (List Str)
  | [] => some []
  | .str i :: r => (strsOf r).map (i :: ·)
  | _ :: _ => none
noncomputable def gJoin : D → D → Option D
  | .str s, .lst ds => (strsOf ds).bind fun ts => if (ts.map (·.length)).sum + ts.length * s.length ≤ lim then some (.str (Str.join s ts)) else none
  | _, _ => none
noncomputable def fJoin (a b : FE) : FE := fun ρ => (a ρ).bind fun x => match x with
  | .str s => (b ρ).bind fun y => oR (gJoin (.str s) y)
  | _ => .bad
noncomputable def pickM (N : Nat) (c : String) (x : Option Int) : List (List (String × Bool) × Option Nat × FS) → R Fl
  | [] => .bad
  | z :: r => match z.1.lookup c with
    | some true => (match z.2.1 with
      | some i => (z.2.2 ((List.replicate N none).set i (some (.exc c x)))).calm.bind fun fl => match fl with
        | .nx _ => .ok (.nx (List.replicate N none))
        | .brk _ => .ok (.brk (List.replicate N none))
        | .cnt _ => .ok (.cnt (List.replicate N none))
        | .ret d => .ok (.ret d)
      | none => (z.2.2 (List.replicate N none)).calm)
    | some false => pickM N c x r
    | none => .bad
noncomputable def gMulB : D → D → Option D
  | .int i, .int j => if i.natAbs < 2 ^ 4000 ∧ j.natAbs < 2 ^ 4000 then some (.int (i * j)) else none
  | _, _ => none
noncomputable def fIx (f : Str) : List Str → Option Nat
  | [] => none
  | g :: r => if g = f then some 0 else (fIx f r).map (· + 1)
noncomputable def putO (c : String) (f : Str) (d : D) : D → Option D
  | .obj c' ns xs => if c' = c ∧ ns.length < 100 then match fIx f ns with
      | some j => some (.obj c' ns (xs.set j d))
      | none => some (.obj c' (ns ++ [f]) (xs ++ [d]))
    else none
  | _ => none
noncomputable def sFld (i : Nat) (c : String) (f : Str) (e : FE) : FS := fun ρ => (e ρ).bind fun d => match ρ[i]? with
  | some (some o) => (oR (putO c f d o)).bind fun o' => .ok (.nx (ρ.set i (some o')))
  | _ => .bad
noncomputable abbrev FM := Env → R (D × Env)
noncomputable abbrev FMT := Env → R (Bool × Env)
noncomputable def run (N : Nat) (b : FS) (ds : List D) : R D := (b (ds.map some ++ List.replicate (N - ds.length) none)).bind fun fl => match fl with
  | .nx _ => .ok .non
  | .ret d => .ok d
  | _ => .bad
end Dl
namespace Dl
open PySem
noncomputable def gLeS : D → D → Option D
  | .str x, .str y => some (.bl (!decide (y.cps.toList < x.cps.toList)))
  | _, _ => none
noncomputable def repS (x : Str) (n : Nat) : Str := ⟨(List.replicate n x.cps.toList).flatten.toArray⟩
noncomputable def gMulS : D → D → Option D
  | .str x, .int n => if 1 ≤ n ∧ n ≤ 1000 ∧ x.length ≤ 1000 then some (.str (repS x n.toNat)) else none
  | _, _ => none
noncomputable def jStr (a : FE) : FI := fun ρ => (a ρ).bind fun d => match d with
  | .str z => if z.length ≤ lim then .ok (z.cps.toList.map fun c => D.str ⟨#[c]⟩) else .bad
  | _ => .bad
noncomputable def keyD : D → Option (Int ⊕ Str)
  | .int i => some (.inl i)
  | .str x => some (.inr x)
  | _ => none
noncomputable def dHas (ks : List (Int ⊕ Str)) (k : Int ⊕ Str) : Bool := ks.any fun j => decide (j = k)
noncomputable def gDin (x y : D) : Option D := match keyD x, y with
  | some k, .dct ks _ => some (.bl (dHas ks k))
  | _, _ => none
noncomputable def dPut (ks : List (Int ⊕ Str)) (xs : List D) (k : Int ⊕ Str) (d : D) : D := if dHas ks k then .dct ks (List.zipWith (fun j x => if j = k then d else x) ks xs) else .dct (ks ++ [k]) (xs ++ [d])
noncomputable def sDPut (i : Nat) (k e : FE) : FS := fun ρ => (e ρ).bind fun d => match ρ[i]? with
  | some (some (.dct ks xs)) => (k ρ).bind fun z => match keyD z with
    | some q => if flat d = true ∧ flatA xs = true ∧ ks.length < lim then .ok (.nx (ρ.set i (some (dPut ks xs q d)))) else .bad
    | none => .bad
  | _ => .bad
noncomputable def digL (n : Nat) : List Nat := (Nat.toDigits 10 n).map Char.toNat
noncomputable def intL (i : Int) : List Nat := if i < 0 then 45 :: digL i.natAbs else digL i.natAbs
noncomputable def intS (i : Int) : Str := ⟨(intL i).toArray⟩
noncomputable def gStr : List D → Option D
  | [.int i] => if i.natAbs < 2 ^ 400 then some (.str (intS i)) else none
  | _ => none
noncomputable def gFx : D → Option D
  | .int i => if i.natAbs < 2 ^ 400 then some (.str (intS i)) else none
  | .str z => if z.length ≤ 1000 then some (.str z) else none
  | _ => none
noncomputable def catO : Str → List D → Option D
  | out, [] => some (.str out)
  | out, .str y :: r => if y.length ≤ 2000 then catO (out ++ y) r else none
  | _, _ => none
noncomputable def fJs (a : FA) : FE := fun ρ => (a ρ).bind fun xs => oR (catO Str.empty xs)
noncomputable def dval (cs : List Nat) : Nat := cs.foldl (fun acc c => acc * 10 + (c - 48)) 0
noncomputable def digs (cs : List Nat) : Bool := !cs.isEmpty && cs.all fun c => decide (48 ≤ c ∧ c ≤ 57)
noncomputable def parseI : List Nat → Option Int
  | [] => none
  | c :: cs => if c = 45 then (if digs cs then some (-(dval cs : Int)) else none) else if digs (c :: cs) then some (dval (c :: cs) : Int) else none
noncomputable def gIntS : List D → Option D
  | [.str x] => if x.length ≤ 600 then (parseI x.cps.toList).map D.int else none
  | _ => none
noncomputable def splitL (c : Nat) : List Nat → List (List Nat)
  | [] => [[]]
  | x :: r => if x = c then [] :: splitL c r else match splitL c r with
    | [] => [[x]]
    | w :: ws => (x :: w) :: ws
noncomputable def strL (w : List Nat) : D := .str ⟨w.toArray⟩
noncomputable def gStart : D → D → Option D
  | .str x, .str y => match y.cps.toList with
    | [c] => some (.bl (decide (x.cps.toList[0]? = some c)))
    | _ => none
  | _, _ => none
noncomputable def gSplit : D → D → Option D
  | .str x, .str y => match y.cps.toList with
    | [c] => if c < 128 ∧ x.length ≤ 100000 then some (.lst ((splitL c x.cps.toList).map strL)) else none
    | _ => none
  | _, _ => none
noncomputable def fSm (g : D → D → Option D) (a b : FE) : FE := fun ρ => (a ρ).bind fun x => match x with
  | .str s => (b ρ).bind fun y => oR (g (.str s) y)
  | _ => .bad
noncomputable def unR (p : List Nat) : Option (List Nat) := if p.getLast? = some 32 then some p.dropLast else none
noncomputable def unL : List Nat → Option (List Nat)
  | [] => none
  | x :: r => if x = 32 then some r else none
noncomputable def unP : List Nat → List (List Nat) → Option (List (List Nat))
  | p, [] => some [p]
  | p, q :: r => (unR p).bind fun w => (unL q).bind fun q' => (unP q' r).bind fun ws => some (w :: ws)
noncomputable def splitT (c : Nat) (l : List Nat) : Option (List (List Nat)) := match splitL c l with
  | [] => none
  | p :: r => unP p r
noncomputable def gSplit3 : D → D → Option D
  | .str x, .str y => match y.cps.toList with
    | [a, c, b] => if a = 32 ∧ b = 32 ∧ c ≠ 32 ∧ c < 128 ∧ x.length ≤ 100000 then (splitT c x.cps.toList).map fun ws => .lst (ws.map strL) else none
    | _ => none
  | _, _ => none
end Dl

namespace L2
open PySem PySem.Spec PyProof.Rows
open Dl (D R FE FT FA FO FS FI FB Fl)
noncomputable def FzL (K : PySem.W.Frag) (H : Hp) (a : Addr) (xs : List V) : Prop :=
  (∃ o, H a = some (.frz o (.lst xs))) ∨ ∃ (o : Obj) (its : Array Value) (n : Nat), K.lookup a = some o ∧ o.cls = .type "list" ∧ o.dict = none ∧ o.data = .seq its n ∧ its.size ≤ sizeLine ∧ Vals xs its.toList
theorem FzL.sq {K : PySem.W.Frag} {H : Hp} {a : Addr} {xs : List V} (h : FzL K H a xs) : SqL K H a xs := by
  rcases h with ⟨o, h⟩ | h
  · exact .inl (.inr ⟨o, h⟩)
  · exact .inr h
noncomputable def fnm (c : String) : Str := if c = "TooMany" then "most" else "at"
noncomputable def FOk (H : Hp) (c : String) (f : Option Int) (dx : Option Addr) : Prop := match f with
  | none => True
  | some i => ∃ d, dx = some d ∧ H d = some (.xd [(fnm c, .int i)])
section
variable (K : PySem.W.Frag) (C : String → Addr)
mutual
noncomputable def Rp (H : Hp) : D → V → List Addr → Prop
  | .non, v, A => v = .non ∧ A = []
  | .bl b, v, A => v = .bl b ∧ A = []
  | .int i, v, A => v = .int i ∧ A = []
  | .str x, v, A => v = .str x ∧ PyData.strOk x = true ∧ A = []
  | .lst ds, v, A => ∃ a xs B, v = .ref a ∧ H a = some (.lst xs) ∧ RpA H ds xs B ∧ A = a :: B
  | .tup ds, v, A => ∃ a xs, v = .ref a ∧ H a = some (.tup xs) ∧ RpA H ds xs A
  | .scr ns, v, A => ∃ a, v = .ref a ∧ FzL K H a (ns.map V.int) ∧ A = []
  | .rng lo hi, v, A => ∃ a, v = .ref a ∧ H a = some (.rng lo hi) ∧ A = []
  | .exc c f, v, A => ∃ e dx, v = .ref e ∧ H e = some (exO e (.ref (C c)) dx) ∧ FOk H c f dx ∧ A = []
  | .obj c ns ds, v, A => ∃ a dx xs B, v = .ref a ∧ H a = some (.ins (C c) dx (ns.zip xs)) ∧ ns.length = ds.length ∧ RpA H ds xs B ∧ A = a :: B
  | .dct ks ds, v, A => ∃ a xs B, v = .ref a ∧ H a = some (.dK (ks.zip xs)) ∧ ks.length = ds.length ∧ RpA H ds xs B ∧ A = a :: B
noncomputable def RpA (H : Hp) : List D → List V → List Addr → Prop
  | [], xs, A => xs = [] ∧ A = []
  | d :: ds, xs, A => ∃ x r B B', xs = x :: r ∧ Rp H d x B ∧ RpA H ds r B' ∧ A = B ++ B'
end
end
section
variable {K : PySem.W.Frag} {C : String → Addr} {H H' H1 H2 : Hp}
inductive IsM : HO → Prop where
  | lst {xs : List V} : IsM (.lst xs)
  | ins {C dx : Addr} {fs : List (Str × V)} : IsM (.ins C dx fs)
  | dct {kvs : List (Key × V)} : IsM (.dK kvs)
noncomputable def Ext (W : Addr → Prop) (H H' : Hp) : Prop := ∀ b o, H b = some o → H' b = some o ∨ (W b ∧ IsM o)
theorem Ext.same (h : Same H H') : Ext (fun _ => False) H H' := fun b o q => .inl (h b o q)
mutual
theorem Rp.ext {W : Addr → Prop} (h : Ext W H H') : ∀ {d : D} {v : V} {A : List Addr}, (∀ a ∈ A, ¬ W a) → Rp K C H d v A → Rp K C H' d v A
  | .non, _, _, _, r => r
  | .bl _, _, _, _, r => r
  | .int _, _, _, _, r => r
  | .str _, _, _, _, r => r
  | .lst ds, v, A, hw, r => by
    obtain ⟨a, xs, B, e1, e2, e3, e4⟩ := r
    subst e4
    refine ⟨a, xs, B, e1, ?_, RpA.ext h (fun b hb => hw b (.tail _ hb)) e3, rfl⟩
    rcases h a _ e2 with q | ⟨q, _⟩
    · exact q
    · exact absurd q (hw a (.head _))
  | .tup ds, v, A, hw, r => by
    obtain ⟨a, xs, e1, e2, e3⟩ := r
    refine ⟨a, xs, e1, ?_, RpA.ext h hw e3⟩
    rcases h a _ e2 with q | ⟨_, q⟩
    · exact q
    · cases q
  | .scr ns, v, A, _, r => by
    obtain ⟨a, e1, e2, e3⟩ := r
    refine ⟨a, e1, ?_, e3⟩
    rcases e2 with ⟨o, e2⟩ | e2
    · rcases h a _ e2 with q | ⟨_, q⟩
      · exact .inl ⟨o, q⟩
      · cases q
    · exact .inr e2
  | .rng lo hi, v, A, _, r => by
    obtain ⟨a, e1, e2, e3⟩ := r
    refine ⟨a, e1, ?_, e3⟩
    rcases h a _ e2 with q | ⟨_, q⟩
    · exact q
    · cases q
  | .exc c f, v, A, _, r => by
    obtain ⟨a, dx, e1, e2, e3, e4⟩ := r
    refine ⟨a, dx, e1, ?_, ?_, e4⟩
    · rcases h a _ e2 with q | ⟨_, q⟩
      · exact q
      · cases q
    · cases f with
      | none => trivial
      | some i =>
        obtain ⟨d, z1, z2⟩ := e3
        refine ⟨d, z1, ?_⟩
        rcases h d _ z2 with q | ⟨_, q⟩
        · exact q
        · cases q
  | .obj c ns ds, v, A, hw, r => by
    obtain ⟨a, dx, xs, B, e1, e2, e0, e3, e4⟩ := r
    subst e4
    refine ⟨a, dx, xs, B, e1, ?_, e0, RpA.ext h (fun b hb => hw b (.tail _ hb)) e3, rfl⟩
    rcases h a _ e2 with q | ⟨q, _⟩
    · exact q
    · exact absurd q (hw a (.head _))
  | .dct ks ds, v, A, hw, r => by
    obtain ⟨a, xs, B, e1, e2, e0, e3, e4⟩ := r
    subst e4
    refine ⟨a, xs, B, e1, ?_, e0, RpA.ext h (fun b hb => hw b (.tail _ hb)) e3, rfl⟩
    rcases h a _ e2 with q | ⟨q, _⟩
    · exact q
    · exact absurd q (hw a (.head _))
theorem RpA.ext {W : Addr → Prop} (h : Ext W H H') : ∀ {ds : List D} {vs : List V} {A : List Addr}, (∀ a ∈ A, ¬ W a) → RpA K C H ds vs A → RpA K C H' ds vs A
  | [], _, _, _, r => r
  | d :: ds, vs, A, hw, r => by
    obtain ⟨x, l, B, B', e1, e2, e3, e4⟩ := r
    subst e4
    exact ⟨x, l, B, B', e1, Rp.ext h (fun a ha => hw a (List.mem_append_left _ ha)) e2, RpA.ext h (fun a ha => hw a (List.mem_append_right _ ha)) e3, rfl⟩
end
theorem Rp.same (h : Same H H') {d : D} {v : V} {A : List Addr} (r : Rp K C H d v A) : Rp K C H' d v A := r.ext (Ext.same h) (fun _ _ q => q)
theorem RpA.same (h : Same H H') {d : List D} {v : List V} {A : List Addr} (r : RpA K C H d v A) : RpA K C H' d v A := r.ext (Ext.same h) (fun _ _ q => q)
noncomputable def Agree (W : List Addr) (H Hb : Hp) : Prop := (∀ a ∈ W, Hb a = H a) ∧ ∀ b o, H b = some o → ¬ IsM o → Hb b = some o
theorem Agree.ext {W : List Addr} (h : Agree W H H') : Ext (fun a => a ∉ W) H H' := fun b o q => by
  by_cases hb : b ∈ W
  · exact .inl ((h.1 b hb).trans q)
  · by_cases ho : IsM o
    · exact .inr ⟨hb, ho⟩
    · exact .inl (h.2 b o q ho)
theorem RpA.agree {W : List Addr} (h : Agree W H H') {ds : List D} {vs : List V} {A : List Addr} (hA : ∀ a ∈ A, a ∈ W) (r : RpA K C H ds vs A) : RpA K C H' ds vs A := r.ext h.ext fun a ha z => z (hA a ha)
mutual
theorem Rp.isl : ∀ {d : D} {v : V} {A : List Addr}, Rp K C H d v A → ∀ a ∈ A, ∃ o, H a = some o ∧ IsM o
  | .non, _, _, r, a, ha => by rw [r.2] at ha; cases ha
  | .bl _, _, _, r, a, ha => by rw [r.2] at ha; cases ha
  | .int _, _, _, r, a, ha => by rw [r.2] at ha; cases ha
  | .str _, _, _, r, a, ha => by rw [r.2.2] at ha; cases ha
  | .lst ds, _, _, r, a, ha => by
    obtain ⟨b, xs, B, e1, e2, e3, e4⟩ := r
    rw [e4] at ha
    rcases List.mem_cons.mp ha with z | z
    · rw [z]; exact ⟨_, e2, .lst⟩
    · exact RpA.isl e3 a z
  | .tup ds, _, _, r, a, ha => by
    obtain ⟨b, xs, e1, e2, e3⟩ := r
    exact RpA.isl e3 a ha
  | .scr _, _, _, r, a, ha => by obtain ⟨_, _, _, e⟩ := r; rw [e] at ha; cases ha
  | .rng _ _, _, _, r, a, ha => by obtain ⟨_, _, _, e⟩ := r; rw [e] at ha; cases ha
  | .exc _ _, _, _, r, a, ha => by obtain ⟨_, _, _, _, _, e⟩ := r; rw [e] at ha; cases ha
  | .obj c ns ds, _, _, r, a, ha => by
    obtain ⟨b, dx, xs, B, e1, e2, e0, e3, e4⟩ := r
    rw [e4] at ha
    rcases List.mem_cons.mp ha with z | z
    · rw [z]; exact ⟨_, e2, .ins⟩
    · exact RpA.isl e3 a z
  | .dct ks ds, _, _, r, a, ha => by
    obtain ⟨b, xs, B, e1, e2, e0, e3, e4⟩ := r
    rw [e4] at ha
    rcases List.mem_cons.mp ha with z | z
    · rw [z]; exact ⟨_, e2, .dct⟩
    · exact RpA.isl e3 a z
theorem RpA.isl : ∀ {ds : List D} {vs : List V} {A : List Addr}, RpA K C H ds vs A → ∀ a ∈ A, ∃ o, H a = some o ∧ IsM o
  | [], _, _, r, a, ha => by rw [r.2] at ha; cases ha
  | d :: ds, _, _, r, a, ha => by
    obtain ⟨x, l, B, B', e1, e2, e3, e4⟩ := r
    rw [e4] at ha
    rcases List.mem_append.mp ha with z | z
    · exact Rp.isl e2 a z
    · exact RpA.isl e3 a z
end
mutual
theorem Rp.flat : ∀ {d : D} {v : V} {A : List Addr}, Dl.flat d = true → Rp K C H d v A → A = []
  | .non, _, _, _, r => r.2
  | .bl _, _, _, _, r => r.2
  | .int _, _, _, _, r => r.2
  | .str _, _, _, _, r => r.2.2
  | .lst _, _, _, h, _ => by simp [Dl.flat] at h
  | .tup ds, _, _, h, r => by
    obtain ⟨b, xs, e1, e2, e3⟩ := r
    exact RpA.flat (by simpa [Dl.flat] using h) e3
  | .scr _, _, _, _, r => by obtain ⟨_, _, _, e⟩ := r; exact e
  | .rng _ _, _, _, _, r => by obtain ⟨_, _, _, e⟩ := r; exact e
  | .exc _ _, _, _, _, r => by obtain ⟨_, _, _, _, _, e⟩ := r; exact e
  | .obj _ _ _, _, _, h, _ => by simp [Dl.flat] at h
  | .dct _ _, _, _, h, _ => by simp [Dl.flat] at h
theorem RpA.flat : ∀ {ds : List D} {vs : List V} {A : List Addr}, Dl.flatA ds = true → RpA K C H ds vs A → A = []
  | [], _, _, _, r => r.2
  | d :: ds, _, _, h, r => by
    obtain ⟨x, l, B, B', e1, e2, e3, e4⟩ := r
    simp only [Dl.flatA, Bool.and_eq_true] at h
    rw [e4, Rp.flat h.1 e2, RpA.flat h.2 e3]
    rfl
end
theorem RpA.len : ∀ {ds : List D} {vs : List V} {A : List Addr}, RpA K C H ds vs A → vs.length = ds.length
  | [], _, _, r => by rw [r.1]; rfl
  | d :: ds, _, _, r => by
    obtain ⟨x, l, B, B', e1, e2, e3, e4⟩ := r
    rw [e1, List.length_cons, List.length_cons, RpA.len e3]
theorem RpA.get : ∀ {ds : List D} {vs : List V} {A : List Addr} {i : Nat} {d : D}, RpA K C H ds vs A → ds[i]? = some d → ∃ v B, vs[i]? = some v ∧ Rp K C H d v B ∧ ∀ a ∈ B, a ∈ A
  | [], _, _, _, _, _, h => by simp at h
  | d :: ds, _, _, 0, _, r, h => by
    obtain ⟨x, l, B, B', e1, e2, e3, e4⟩ := r
    simp only [List.getElem?_cons_zero, Option.some.injEq] at h
    subst h e1 e4
    exact ⟨x, B, rfl, e2, fun a ha => List.mem_append_left _ ha⟩
  | d :: ds, _, _, i + 1, _, r, h => by
    obtain ⟨x, l, B, B', e1, e2, e3, e4⟩ := r
    simp only [List.getElem?_cons_succ] at h
    obtain ⟨v, B2, q1, q2, q3⟩ := RpA.get e3 h
    subst e1 e4
    exact ⟨v, B2, by simpa using q1, q2, fun a ha => List.mem_append_right _ (q3 a ha)⟩
theorem RpA.get' : ∀ {ds : List D} {vs : List V} {A : List Addr} {i : Nat} {v : V}, RpA K C H ds vs A → vs[i]? = some v → ∃ d B, ds[i]? = some d ∧ Rp K C H d v B ∧ ∀ a ∈ B, a ∈ A := fun {ds vs A i v} r h => by
  have hl := r.len
  have hi : i < ds.length := by
    have := (List.getElem?_eq_some_iff.mp h).1
    omega
  obtain ⟨v', B, q1, q2, q3⟩ := r.get (List.getElem?_eq_getElem hi)
  rw [h] at q1
  cases q1
  exact ⟨_, B, List.getElem?_eq_getElem hi, q2, q3⟩
theorem RpA.app : ∀ {ds es : List D} {vs ws : List V} {A B : List Addr}, RpA K C H ds vs A → RpA K C H es ws B → RpA K C H (ds ++ es) (vs ++ ws) (A ++ B)
  | [], _, _, _, _, _, r, q => by
    obtain ⟨e1, e2⟩ := r
    subst e1 e2
    exact q
  | d :: ds, _, _, _, _, _, r, q => by
    obtain ⟨x, l, B, B', e1, e2, e3, e4⟩ := r
    subst e1 e4
    exact ⟨x, _, B, _, rfl, e2, RpA.app e3 q, List.append_assoc ..⟩
theorem RpA.one {d : D} {v : V} {A : List Addr} (r : Rp K C H d v A) : RpA K C H [d] [v] A := ⟨v, [], A, [], rfl, r, ⟨rfl, rfl⟩, (List.append_nil _).symm⟩
theorem RpA.flatDrop {ds : List D} {vs : List V} {A : List Addr} : Dl.flatA ds = true → RpA K C H ds vs A → ∀ n, RpA K C H (ds.drop n) (vs.drop n) [] := by
  intro h r n
  induction ds generalizing vs A n with
  | nil => rw [r.1]; simp; exact ⟨rfl, rfl⟩
  | cons d ds ih =>
    have r0 := r
    obtain ⟨x, l, B, B', e1, e2, e3, e4⟩ := r
    cases n with
    | zero =>
      have z := RpA.flat h r0
      subst z
      exact r0
    | succ n =>
      simp only [Dl.flatA, Bool.and_eq_true] at h
      subst e1
      exact ih h.2 e3 n
theorem RpA.flatTake {ds : List D} {vs : List V} {A : List Addr} : Dl.flatA ds = true → RpA K C H ds vs A → ∀ n, RpA K C H (ds.take n) (vs.take n) [] := by
  intro h r n
  induction ds generalizing vs A n with
  | nil => rw [r.1]; simp; exact ⟨rfl, rfl⟩
  | cons d ds ih =>
    obtain ⟨x, l, B, B', e1, e2, e3, e4⟩ := r
    simp only [Dl.flatA, Bool.and_eq_true] at h
    have z := Rp.flat h.1 e2
    subst e1 z
    cases n with
    | zero => exact ⟨rfl, rfl⟩
    | succ n => exact ⟨x, _, [], _, rfl, e2, ih h.2 e3 n, rfl⟩
theorem flatA_drop {ds : List D} (h : Dl.flatA ds = true) : ∀ n, Dl.flatA (ds.drop n) = true := by
  intro n
  induction ds generalizing n with
  | nil => simp; rfl
  | cons d ds ih =>
    cases n with
    | zero => exact h
    | succ n =>
      simp only [Dl.flatA, Bool.and_eq_true] at h
      exact ih h.2 n
theorem RpA.ints {ns : List Int} : RpA K C H (ns.map D.int) (ns.map V.int) [] := by
  induction ns with
  | nil => exact ⟨rfl, rfl⟩
  | cons n ns ih => exact ⟨_, _, [], [], rfl, ⟨rfl, rfl⟩, ih, rfl⟩
theorem RpA.ofBools : ∀ {ds : List D} {vs : List V} {A : List Addr} {ns : List Bool}, RpA K C H ds vs A → Dl.bools ds = some ns → vs = ns.map V.bl
  | [], _, _, ns, r, h => by
    simp only [Dl.bools, Option.some.injEq] at h
    rw [r.1, ← h]
    rfl
  | d :: ds, _, _, ns, r, h => by
    obtain ⟨x, l, B, B', e1, e2, e3, e4⟩ := r
    cases d <;> simp only [Dl.bools] at h <;> try cases h
    obtain ⟨ms, h1, h2⟩ := Option.map_eq_some_iff.mp h
    rw [e1, e2.1, RpA.ofBools e3 h1, ← h2]
    rfl

mutual
noncomputable def toPy : D → PyData
  | .non => .none
  | .bl b => .bool b
  | .int i => .int i
  | .str x => .str x
  | .lst ds => .list (toPyA ds)
  | .tup ds => .tuple (toPyA ds)
  | .scr _ => .none
  | .rng _ _ => .none
  | .exc _ _ => .none
  | .obj _ _ _ => .none
  | .dct _ _ => .none
noncomputable def toPyA : List D → List PyData
  | [] => []
  | d :: ds => toPy d :: toPyA ds
end
mutual
theorem Rp.dn : ∀ {d : D} {v : V} {A : List Addr} {n : Nat}, Dl.dep d ≤ n → n < 100 → Rp K C H d v A → Dn K H v (toPy d) ∧ (toPy d).canLay0 = true ∧ (toPy d).depth = Dl.dep d
  | .non, _, _, _, _, _, r => by rw [r.1]; exact ⟨.non, rfl, rfl⟩
  | .bl _, _, _, _, _, _, r => by rw [r.1]; exact ⟨.bl _, rfl, rfl⟩
  | .int _, _, _, _, _, _, r => by rw [r.1]; exact ⟨.int _, rfl, rfl⟩
  | .str _, _, _, _, _, _, r => by rw [r.1]; exact ⟨.str _, by simpa [toPy, PyData.canLay0] using r.2.1, by simp [toPy, PyData.depth, Dl.dep]⟩
  | .lst ds, _, _, n, h, hn, r => by
    obtain ⟨a, xs, B, e1, e2, e3, e4⟩ := r
    simp only [Dl.dep] at h
    obtain ⟨q1, q2, q3⟩ := RpA.dn (n := n) (by omega) hn e3
    rw [e1]
    exact ⟨.lst (SqL.of e2) q1, by simpa [toPy, PyData.canLay0] using q2, by simp [toPy, PyData.depth, Dl.dep, q3]⟩
  | .tup ds, _, _, n, h, hn, r => by
    obtain ⟨a, xs, e1, e2, e3⟩ := r
    simp only [Dl.dep] at h
    obtain ⟨q1, q2, q3⟩ := RpA.dn (n := n) (by omega) hn e3
    rw [e1]
    exact ⟨.tup (SqT.of e2) q1, by simpa [toPy, PyData.canLay0] using q2, by simp [toPy, PyData.depth, Dl.dep, q3]⟩
  | .scr _, _, _, n, h, hn, _ => by simp only [Dl.dep] at h; omega
  | .rng _ _, _, _, n, h, hn, _ => by simp only [Dl.dep] at h; omega
  | .exc _ _, _, _, n, h, hn, _ => by simp only [Dl.dep] at h; omega
  | .obj _ _ _, _, _, n, h, hn, _ => by simp only [Dl.dep] at h; omega
  | .dct _ _, _, _, n, h, hn, _ => by simp only [Dl.dep] at h; omega
theorem RpA.dn : ∀ {ds : List D} {vs : List V} {A : List Addr} {n : Nat}, Dl.depA ds ≤ n → n < 100 → RpA K C H ds vs A → DnA K H vs (toPyA ds) ∧ PyData.canLayAll0 (toPyA ds) = true ∧ PyData.depthAll (toPyA ds) = Dl.depA ds
  | [], _, _, _, _, _, r => by rw [r.1]; exact ⟨.nil, rfl, rfl⟩
  | d :: ds, _, _, n, h, hn, r => by
    obtain ⟨x, l, B, B', e1, e2, e3, e4⟩ := r
    simp only [Dl.depA] at h
    obtain ⟨q1, q2, q3⟩ := Rp.dn (n := n) (by omega) hn e2
    obtain ⟨p1, p2, p3⟩ := RpA.dn (n := n) (by omega) hn e3
    rw [e1]
    exact ⟨.cons q1 p1, by simp [toPyA, PyData.canLayAll0, q2, p2], by simp [toPyA, PyData.depthAll, Dl.depA, q3, p3]⟩
end
mutual
theorem eqv_py : ∀ {d e : D}, Dl.dep d < 100 → Dl.dep e < 100 → PyData.eqv (toPy d) (toPy e) = Dl.eqv d e
  | .non, e, _, h => by cases e <;> first | rfl | exact absurd h (Nat.lt_irrefl 100)
  | .bl _, e, _, h => by cases e <;> first | rfl | exact absurd h (Nat.lt_irrefl 100)
  | .int _, e, _, h => by cases e <;> first | rfl | exact absurd h (Nat.lt_irrefl 100)
  | .str _, e, _, h => by cases e <;> first | rfl | exact absurd h (Nat.lt_irrefl 100)
  | .lst ds, e, h1, h => by
    cases e with
    | lst es => exact eqvA_py (Nat.lt_of_succ_lt h1) (Nat.lt_of_succ_lt h)
    | _ => rfl
  | .tup ds, e, h1, h => by
    cases e with
    | tup es => exact eqvA_py (Nat.lt_of_succ_lt h1) (Nat.lt_of_succ_lt h)
    | _ => rfl
  | .scr _, _, h, _ => absurd h (Nat.lt_irrefl 100)
  | .rng _ _, _, h, _ => absurd h (Nat.lt_irrefl 100)
  | .exc _ _, _, h, _ => absurd h (Nat.lt_irrefl 100)
  | .obj _ _ _, _, h, _ => absurd h (Nat.lt_irrefl 100)
  | .dct _ _, _, h, _ => absurd h (Nat.lt_irrefl 100)
theorem eqvA_py : ∀ {d e : List D}, Dl.depA d < 100 → Dl.depA e < 100 → PyData.eqvAll (toPyA d) (toPyA e) = Dl.eqvA d e
  | [], [], _, _ => rfl
  | [], _ :: _, _, _ => rfl
  | _ :: _, [], _, _ => rfl
  | d :: ds, e :: es, h1, h => by
    have a1 : Dl.dep d < 100 ∧ Dl.depA ds < 100 := Nat.max_lt.mp h1
    have a2 : Dl.dep e < 100 ∧ Dl.depA es < 100 := Nat.max_lt.mp h
    show (PyData.eqv (toPy d) (toPy e) && PyData.eqvAll (toPyA ds) (toPyA es)) = (Dl.eqv d e && Dl.eqvA ds es)
    rw [eqv_py a1.1 a2.1, eqvA_py a1.2 a2.2]
end
end
end L2

namespace L2
open PySem PySem.Spec PyProof.Rows
open Dl (D R FE FT FA FO FS FI FB Fl)
noncomputable abbrev DEnv := Dl.Env
section
variable (K : PySem.W.Frag) (C : String → Addr)
structure EnvOk (H0 Hb H : Hp) (Γ Δ : List Nat) (σ : St) (ρ : DEnv) (A : Nat → List Addr) : Prop where
  s0 : Same H0 Hb
  same : Same Hb H
  len : σ.length = ρ.length
  rep : ∀ i d, ρ[i]? = some (some d) → ∃ v, σ[i]? = some (some v) ∧ Rp K C H d v (A i)
  nil : ∀ i, (∀ d, ρ[i]? ≠ some (some d)) → A i = []
  loc : ∀ i ∈ Γ, ∀ a ∈ A i, H0 a = none
  top : ∀ i ∈ Γ, ∀ a r, A i = a :: r → Hb a = none ∧ a ∉ r ∧ ∀ j, j ≠ i → a ∉ A j
  deep : ∀ i ∈ Δ, (A i).Nodup ∧ (∀ j, j ≠ i → ∀ a ∈ A i, a ∉ A j) ∧ ∀ a ∈ A i, Hb a = none
noncomputable def InS (A : Nat → List Addr) (S : List (Nat × Bool)) (a : Addr) : Prop := ∃ p ∈ S, if p.2 = true then a ∈ (A p.1).tail else a ∈ A p.1
noncomputable def Res (m : Nat) (S : List (Nat × Bool)) (H : Hp) (A : Nat → List Addr) (d : D) (v : V) (H' : Hp) : Prop :=
  ∃ B, Rp K C H' d v B ∧ (∀ a ∈ B, H a = none ∨ InS A S a) ∧ (m = 1 → ∀ a r, B = a :: r → H a = none ∧ a ∉ r) ∧ (m = 2 → B.Nodup)
noncomputable def ResA (m : Nat) (S : List (Nat × Bool)) (H : Hp) (A : Nat → List Addr) (ds : List D) (vs : List V) (H' : Hp) : Prop :=
  ∃ B, RpA K C H' ds vs B ∧ (∀ a ∈ B, H a = none ∨ InS A S a) ∧ (m = 2 → B.Nodup)
noncomputable def EC (E : XK) (c : String) (x : Option Int) (H : Hp) : Prop := ∀ dx, FOk H c x dx → E (.ref (C c)) dx H
noncomputable def Post {α : Type} (r : R α) (ok : α → Prop) (er : String → Option Int → Prop) : Prop := match r with
  | .ok a => ok a
  | .err c x => er c x
  | .bad => False
noncomputable def EOk (E : XK) (Γ Δ : List Nat) (m : Nat) (S : List (Nat × Bool)) (t : TE) (f : FE) : Prop := ∀ (H0 Hb H : Hp) (σ : St) (ρ : DEnv) (A : Nat → List Addr) (Q : VK), EnvOk K C H0 Hb H Γ Δ σ ρ A →
  Post (f ρ) (fun d => ∀ v H', Same H H' → Res K C m S H A d v H' → Q v H') (fun c x => ∀ H', Same H H' → EC C E c x H') → t σ H Q
noncomputable def AOk (E : XK) (Γ Δ : List Nat) (m : Nat) (S : List (Nat × Bool)) (t : TA) (f : FA) : Prop := ∀ (H0 Hb H : Hp) (σ : St) (ρ : DEnv) (A : Nat → List Addr) (Q : List V → Hp → Prop), EnvOk K C H0 Hb H Γ Δ σ ρ A →
  Post (f ρ) (fun d => ∀ v H', Same H H' → ResA K C m S H A d v H' → Q v H') (fun c x => ∀ H', Same H H' → EC C E c x H') → t σ H Q
noncomputable def TOk (E : XK) (Γ Δ : List Nat) (t : TT) (f : FT) : Prop := ∀ (H0 Hb H : Hp) (σ : St) (ρ : DEnv) (A : Nat → List Addr) (Q : Bool → Hp → Prop), EnvOk K C H0 Hb H Γ Δ σ ρ A →
  Post (f ρ) (fun b => ∀ H', Same H H' → Q b H') (fun c x => ∀ H', Same H H' → EC C E c x H') → t σ H Q
noncomputable def OOk (E : XK) (Γ Δ : List Nat) (t : TO) (f : FO) : Prop := ∀ (H0 Hb H : Hp) (σ : St) (ρ : DEnv) (A : Nat → List Addr) (Q : Option Int → Hp → Prop), EnvOk K C H0 Hb H Γ Δ σ ρ A →
  Post (f ρ) (fun b => ∀ H', Same H H' → Q b H') (fun c x => ∀ H', Same H H' → EC C E c x H') → t σ H Q
noncomputable def PostS (E : XK) (mr : Nat) (Γl Δl Γ' Δ' : List Nat) (H0 Hb : Hp) (D : Ends) (r : R Fl) : Prop := Post r (fun fl => match fl with
    | .nx ρ' => ∀ σ' H' A', EnvOk K C H0 Hb H' Γ' Δ' σ' ρ' A' → D.nx σ' H'
    | .ret d => ∀ v H', Same H0 H' → Res K C mr [] H0 (fun _ => []) d v H' → D.rt v H'
    | .brk ρ' => ∀ σ' H' A', EnvOk K C H0 Hb H' Γl Δl σ' ρ' A' → D.bk σ' H'
    | .cnt ρ' => ∀ σ' H' A', EnvOk K C H0 Hb H' Γl Δl σ' ρ' A' → D.ct σ' H')
  (fun c x => ∀ H', Same H0 H' → EC C E c x H')
noncomputable def SOk (E : XK) (mr : Nat) (Γl Δl Γ Δ Γ' Δ' : List Nat) (t : TS) (f : FS) : Prop := ∀ (H0 Hb H : Hp) (σ : St) (ρ : DEnv) (A : Nat → List Addr) (D : Ends), EnvOk K C H0 Hb H Γ Δ σ ρ A →
  PostS K C E mr Γl Δl Γ' Δ' H0 Hb D (f ρ) → t D σ H
end
section
variable {K : PySem.W.Frag} {C : String → Addr} {E : XK} {Γ Δ Γ' Δ' Γ1 Δ1 Γl Δl : List Nat} {m m1 m2 mr : Nat} {S S1 S2 : List (Nat × Bool)}
theorem EnvOk.mono {H0 Hb H H' : Hp} {σ : St} {ρ : DEnv} {A : Nat → List Addr} (h : EnvOk K C H0 Hb H Γ Δ σ ρ A) (g : Same H H') : EnvOk K C H0 Hb H' Γ Δ σ ρ A :=
  ⟨h.s0, h.same.trans g, h.len, fun i d e => let ⟨v, q1, q2⟩ := h.rep i d e; ⟨v, q1, q2.same g⟩, h.nil, h.loc, h.top, h.deep⟩
theorem EnvOk.weak {H0 Hb H : Hp} {σ : St} {ρ : DEnv} {A : Nat → List Addr} (h : EnvOk K C H0 Hb H Γ Δ σ ρ A) (h1 : ∀ i ∈ Γ', i ∈ Γ) (h2 : ∀ i ∈ Δ', i ∈ Δ) : EnvOk K C H0 Hb H Γ' Δ' σ ρ A :=
  ⟨h.s0, h.same, h.len, h.rep, h.nil, fun i hi => h.loc i (h1 i hi), fun i hi => h.top i (h1 i hi), fun i hi => h.deep i (h2 i hi)⟩
theorem EnvOk.is {H0 Hb H : Hp} {σ : St} {ρ : DEnv} {A : Nat → List Addr} (h : EnvOk K C H0 Hb H Γ Δ σ ρ A) {j : Nat} {a : Addr} (ha : a ∈ A j) : ∃ o, H a = some o ∧ IsM o := by
  by_cases q : ∃ d, ρ[j]? = some (some d)
  · obtain ⟨d, q⟩ := q
    obtain ⟨v, _, r⟩ := h.rep j d q
    exact r.isl a ha
  · rw [h.nil j fun d e => q ⟨d, e⟩] at ha
    cases ha
theorem EnvOk.ne {H0 Hb H : Hp} {σ : St} {ρ : DEnv} {A : Nat → List Addr} (h : EnvOk K C H0 Hb H Γ Δ σ ρ A) {j : Nat} {a : Addr} (ha : a ∈ A j) (hn : H a = none) : False := by
  obtain ⟨xs, q, _⟩ := h.is ha
  rw [q] at hn
  cases hn
theorem InS.mem {A : Nat → List Addr} {a : Addr} (h : InS A S a) : ∃ p ∈ S, a ∈ A p.1 := by
  obtain ⟨p, hp, q⟩ := h
  refine ⟨p, hp, ?_⟩
  split at q
  · exact List.mem_of_mem_tail q
  · exact q
theorem InS.mono {A : Nat → List Addr} {a : Addr} (h : InS A S1 a) (hs : ∀ p ∈ S1, p ∈ S2) : InS A S2 a := let ⟨p, hp, q⟩ := h; ⟨p, hs p hp, q⟩
theorem Post.imp {α : Type} {r : R α} {ok ok' : α → Prop} {er er' : String → Option Int → Prop} (h : Post r ok er) (h1 : ∀ a, ok a → ok' a) (h2 : ∀ c x, er c x → er' c x) : Post r ok' er' := by
  cases r with
  | ok a => exact h1 a h
  | err c x => exact h2 c x h
  | bad => exact h
theorem Post.bind {α β : Type} {r : R α} {g : α → R β} {ok : β → Prop} {er : String → Option Int → Prop} (h : Post (r.bind g) ok er) : Post r (fun a => Post (g a) ok er) er := by
  cases r with
  | ok a => exact h
  | err c x => exact h
  | bad => exact h
theorem Res.flat {H H' : Hp} {A : Nat → List Addr} {d : D} {v : V} (r : Rp K C H' d v []) : Res K C m S H A d v H' := ⟨[], r, fun _ h => (nomatch h), fun _ _ _ e => (nomatch e), fun _ => List.nodup_nil⟩
theorem eok_c {d : D} {v : V} (h : ∀ H, Rp K C H d v []) : EOk K C E Γ Δ 2 [] (tC v) (Dl.fC d) := fun _ _ H _ _ _ _ _ p => p v H (Same.refl _) (Res.flat (h H))
theorem fV_ok {i : Nat} {ρ : DEnv} {ok : D → Prop} {er : String → Option Int → Prop} (h : Post (Dl.fV i ρ) ok er) : ∃ d, ρ[i]? = some (some d) ∧ ok d := by
  unfold Dl.fV at h
  split at h
  · rename_i d e
    exact ⟨d, e, h⟩
  · exact h.elim
theorem eok_v {i : Nat} : EOk K C E Γ Δ 0 [(i, false)] (tVar i) (Dl.fV i) := fun H0 Hb H σ ρ A Q I p => by
  obtain ⟨d, e, p⟩ := fV_ok p
  obtain ⟨v, e1, r⟩ := I.rep i d e
  exact ⟨v, e1, p v H (Same.refl _) ⟨A i, r, fun a ha => .inr ⟨(i, false), .head _, ha⟩, (fun z => nomatch z), (fun z => nomatch z)⟩⟩
theorem eok_vd {i : Nat} (hi : i ∈ Δ) : EOk K C E Γ Δ 2 [(i, false)] (tVar i) (Dl.fV i) := fun H0 Hb H σ ρ A Q I p => by
  obtain ⟨d, e, p⟩ := fV_ok p
  obtain ⟨v, e1, r⟩ := I.rep i d e
  exact ⟨v, e1, p v H (Same.refl _) ⟨A i, r, fun a ha => .inr ⟨(i, false), .head _, ha⟩, (fun z => nomatch z), fun _ => (I.deep i hi).1⟩⟩
theorem eok_flat {t : TE} {f : FE} (h : EOk K C E Γ Δ m S t f) : EOk K C E Γ Δ 2 [] t (Dl.f1 Dl.gFlat f) := fun H0 Hb H σ ρ A Q I p =>
  h H0 Hb H σ ρ A Q I (p.bind.imp (fun d q v H' g r => by
    unfold Dl.gFlat at q
    split at q
    · rename_i hf
      obtain ⟨B, r1, _⟩ := r
      have e := r1.flat hf
      subst e
      exact q v H' g (Res.flat r1)
    · exact q.elim) fun _ _ q => q)
theorem Res.later {H0 H1 H2 H3 : Hp} {A : Nat → List Addr} {d : D} {v : V} (g1 : Same H0 H1) (g2 : Same H2 H3) (r : Res K C m S H1 A d v H2) : Res K C m S H0 A d v H3 := by
  obtain ⟨B, r1, r2, r3, r4⟩ := r
  exact ⟨B, r1.same g2, fun a ha => (r2 a ha).imp (fun h => g1.free h) id, fun hm a l e => ⟨g1.free (r3 hm a l e).1, (r3 hm a l e).2⟩, r4⟩
theorem Res.new {H H' : Hp} {A : Nat → List Addr} {d : D} {v : V} {B : List Addr} (r : Rp K C H' d v B) (h1 : B.Nodup) (h2 : ∀ a ∈ B, H a = none) : Res K C m S H A d v H' :=
  ⟨B, r, fun a ha => .inl (h2 a ha), fun _ a l e => by subst e; exact ⟨h2 a (.head _), (List.nodup_cons.mp h1).1⟩, fun _ => h1⟩
theorem oR_ok {α : Type} {o : Option α} {ok : α → Prop} {er : String → Option Int → Prop} (h : Post (Dl.oR o) ok er) : ∃ a, o = some a ∧ ok a := by
  cases o with
  | none => exact h.elim
  | some a => exact ⟨a, rfl, h⟩
noncomputable def GOk (K : PySem.W.Frag) (C : String → Addr) (r : R2) (g : D → D → Option D) : Prop :=
  ∀ (H : Hp) (x y d : D) (vx vy : V) (Bx By : List Addr) (Q : VK), Rp K C H x vx Bx → Rp K C H y vy By → g x y = some d → (∀ v H' B, Same H H' → Rp K C H' d v B → B.Nodup → (∀ a ∈ B, H a = none) → Q v H') → r vx vy H Q
noncomputable def GAk (K : PySem.W.Frag) (C : String → Addr) (r : List V → Hp → VK → Prop) (g : List D → Option D) : Prop :=
  ∀ (H : Hp) (xs : List D) (d : D) (vs : List V) (Bx : List Addr) (Q : VK), RpA K C H xs vs Bx → g xs = some d → (∀ v H' B, Same H H' → Rp K C H' d v B → B.Nodup → (∀ a ∈ B, H a = none) → Q v H') → r vs H Q
theorem eok_op {r : R2} {g : D → D → Option D} {ta tb : TE} {fa fb : FE} (hg : GOk K C r g) (ha : EOk K C E Γ Δ m1 S1 ta fa) (hb : EOk K C E Γ Δ m2 S2 tb fb) : EOk K C E Γ Δ 2 [] (tOp r ta tb) (Dl.f2 g fa fb) :=
  fun H0 Hb H σ ρ A Q I p => ha H0 Hb H σ ρ A _ I (p.bind.imp (fun x q vx H1 g1 r1 => hb H0 Hb H1 σ ρ A _ (I.mono g1) (q.bind.imp (fun y q vy H2 g2 r2 => by
    obtain ⟨d, e, q⟩ := oR_ok q
    obtain ⟨Bx, r1, _⟩ := r1
    obtain ⟨By, r2, _⟩ := r2
    exact hg H2 x y d vx vy Bx By Q (r1.same g2) r2 e fun v H' B g3 r3 h1 h2 => q v H' (g1.trans (g2.trans g3)) (Res.new r3 h1 fun a ha => (g1.trans g2).free (h2 a ha))) fun c x q H' g' => q H' (g1.trans g'))) fun c x q H' g' => q H' g')
theorem eok_un {r : V → Hp → VK → Prop} {g : D → Option D} {ta : TE} {fa : FE} (hg : ∀ (H : Hp) (x d : D) (vx : V) (Bx : List Addr) (Q : VK), Rp K C H x vx Bx → g x = some d → (∀ v H' B, Same H H' → Rp K C H' d v B → B.Nodup → (∀ a ∈ B, H a = none) → Q v H') → r vx H Q)
    (ha : EOk K C E Γ Δ m1 S1 ta fa) : EOk K C E Γ Δ 2 [] (tUn r ta) (Dl.f1 g fa) :=
  fun H0 Hb H σ ρ A Q I p => ha H0 Hb H σ ρ A _ I (p.bind.imp (fun x q vx H1 g1 r1 => by
    obtain ⟨d, e, q⟩ := oR_ok q
    obtain ⟨Bx, r1, _⟩ := r1
    exact hg H1 x d vx Bx Q r1 e fun v H' B g3 r3 h1 h2 => q v H' (g1.trans g3) (Res.new r3 h1 fun a ha => g1.free (h2 a ha))) fun c x q H' g' => q H' g')
theorem no_some {α : Type} {d : α} {P : Prop} (e : (none : Option α) = some d) : P := nomatch e
theorem one_at {F : List D → Option D} (hn : F [] = none) (hc : ∀ x y r, F (x :: y :: r) = none) : ∀ {ds : List D} {d : D}, F ds = some d → ∃ x, ds = [x]
  | [], _, e => no_some (hn.symm.trans e)
  | [x], _, _ => ⟨x, rfl⟩
  | x :: y :: r, _, e => no_some ((hc x y r).symm.trans e)
theorem gIx_lst {ds : List D} {y d : D} (e : Dl.gIx (.lst ds) y = some d) : ∃ i, y = .int i ∧ atI ds i = some d := by
  cases y with
  | int i => exact ⟨i, rfl, e⟩
  | _ => exact no_some e
theorem gIx_tup {ds : List D} {y d : D} (e : Dl.gIx (.tup ds) y = some d) : ∃ i, y = .int i ∧ atI ds i = some d := by
  cases y with
  | int i => exact ⟨i, rfl, e⟩
  | _ => exact no_some e
theorem gIx_scr {ns : List Int} {y d : D} (e : Dl.gIx (.scr ns) y = some d) : ∃ i, y = .int i ∧ (atI ns i).map D.int = some d := by
  cases y with
  | int i => exact ⟨i, rfl, e⟩
  | _ => exact no_some e
theorem gIx_str {z : Str} {y d : D} (e : Dl.gIx (.str z) y = some d) : ∃ i, y = .int i ∧ z.length ≤ Dl.lim ∧ (atI z.cps.toList i).map (fun c => D.str ⟨#[c]⟩) = some d := by
  cases y with
  | int i =>
    have e' : (if z.length ≤ Dl.lim then ((Dl.atD z.cps.toList i).map fun c => D.str ⟨#[c]⟩) else none) = some d := e
    by_cases h : z.length ≤ Dl.lim
    · rw [if_pos h] at e'
      exact ⟨i, rfl, h, e'⟩
    · rw [if_neg h] at e'
      exact no_some e'
  | _ => exact no_some e
theorem gIx_at {x y d : D} (e : Dl.gIx x y = some d) : ∃ i, y = .int i ∧ ((∃ ds, x = .lst ds ∧ atI ds i = some d) ∨ (∃ ds, x = .tup ds ∧ atI ds i = some d) ∨ (∃ ns, x = .scr ns ∧ (atI ns i).map D.int = some d) ∨ ∃ z, x = .str z ∧ z.length ≤ Dl.lim ∧ (atI z.cps.toList i).map (fun c => D.str ⟨#[c]⟩) = some d) := by
  cases x with
  | lst ds => exact (gIx_lst e).imp fun _ h => ⟨h.1, .inl ⟨ds, rfl, h.2⟩⟩
  | tup ds => exact (gIx_tup e).imp fun _ h => ⟨h.1, .inr (.inl ⟨ds, rfl, h.2⟩)⟩
  | scr ns => exact (gIx_scr e).imp fun _ h => ⟨h.1, .inr (.inr (.inl ⟨ns, rfl, h.2⟩))⟩
  | str z => exact (gIx_str e).imp fun _ h => ⟨h.1, .inr (.inr (.inr ⟨z, rfl, h.2⟩))⟩
  | _ => exact no_some e
theorem at_seq {α β : Type} {ds : List α} {xs : List β} {i : Int} {d : α} {v : β} {j : Nat} (hl : xs.length = ds.length) (e : atI ds i = some d) (h1 : seqIndex? i ds.length = some j) (hv : xs[j]? = some v) : atI xs i = some v := by
  unfold atI at e ⊢
  rw [hl]
  cases hx : ixN ds.length i with
  | none => rw [hx] at e; cases e
  | some k =>
    obtain ⟨z1, _⟩ := ixN_seq hx
    rw [h1] at z1
    cases z1
    exact hv
theorem gIx_ok {H : Hp} {x y d : D} {vx vy : V} {Bx By : List Addr} {Q : VK} (rx : Rp K C H x vx Bx) (ry : Rp K C H y vy By) (e : Dl.gIx x y = some d) (q : ∀ v B, Rp K C H d v B → (∀ a ∈ B, a ∈ Bx) → ((∃ ds, x = .lst ds) → ∀ a ∈ B, a ∈ Bx.tail) → Q v H) : rIx K vx vy H Q := by
  obtain ⟨i, rfl, h⟩ := gIx_at e
  cases ry.1
  rcases h with ⟨ds, rfl, e'⟩ | ⟨ds, rfl, e'⟩ | ⟨ns, rfl, e'⟩ | ⟨z, rfl, hz, e'⟩
  · obtain ⟨a, xs, B, rfl, e2, e3, rfl⟩ := rx
    obtain ⟨j, h1, h2, _⟩ := atI_get e'
    obtain ⟨v, B', q1, q2, q3⟩ := e3.get h2
    exact rd_ixL (SqL.of e2) (v := v) (at_seq e3.len e' h1 q1) (q v B' q2 (fun a ha => .tail _ (q3 a ha)) fun _ a ha => q3 a ha)
  · obtain ⟨a, xs, rfl, e2, e3⟩ := rx
    obtain ⟨j, h1, h2, _⟩ := atI_get e'
    obtain ⟨v, B', q1, q2, q3⟩ := e3.get h2
    exact rd_ixT (SqT.of e2) (v := v) (at_seq e3.len e' h1 q1) (q v B' q2 q3 fun z => by obtain ⟨_, z⟩ := z; cases z)
  · obtain ⟨a, rfl, e2, rfl⟩ := rx
    obtain ⟨n, h1, rfl⟩ := Option.map_eq_some_iff.mp e'
    obtain ⟨j, h2, h3, _⟩ := atI_get h1
    exact .inl ⟨a, ns.map V.int, i, .int n, rfl, rfl, e2.sq, at_seq (List.length_map _) h1 h2 (by rw [List.getElem?_map, h3]; rfl), q (.int n) [] ⟨rfl, rfl⟩ (fun _ h => (nomatch h)) fun _ _ h => (nomatch h)⟩
  · obtain ⟨rfl, e2, rfl⟩ := rx
    obtain ⟨c, h1, rfl⟩ := Option.map_eq_some_iff.mp e'
    refine .inr (.inr ⟨z, i, c, rfl, rfl, Nat.le_trans hz (by decide), h1, q _ [] ⟨rfl, ?_, rfl⟩ (fun _ h => (nomatch h)) fun _ _ h => (nomatch h)⟩)
    obtain ⟨j, _, h3, _⟩ := atI_get h1
    have hm : c ∈ z.cps := Array.mem_toList_iff.mp (List.mem_of_getElem? h3)
    have ho : z.cps.all (· < 0x110000) = true := e2
    have := (Array.all_eq_true_iff_forall_mem.mp ho) c hm
    unfold PyData.strOk
    simpa using this
theorem eok_ix {ta tb : TE} {fa fb : FE} (ha : EOk K C E Γ Δ m1 S1 ta fa) (hb : EOk K C E Γ Δ m2 S2 tb fb) : EOk K C E Γ Δ 0 S1 (tOp (rIx K) ta tb) (Dl.f2 Dl.gIx fa fb) :=
  fun H0 Hb H σ ρ A Q I p => ha H0 Hb H σ ρ A _ I (p.bind.imp (fun x q vx H1 g1 r1 => hb H0 Hb H1 σ ρ A _ (I.mono g1) (q.bind.imp (fun y q vy H2 g2 r2 => by
    obtain ⟨d, e, q⟩ := oR_ok q
    obtain ⟨Bx, r1, r1', _⟩ := r1
    obtain ⟨By, r2, _⟩ := r2
    exact gIx_ok (r1.same g2) r2 e fun v B r3 h _ => q v H2 (g1.trans g2) ⟨B, r3, fun a ha => r1' a (h a ha), (fun z => nomatch z), (fun z => nomatch z)⟩) fun c x q H' g' => q H' (g1.trans g'))) fun c x q H' g' => q H' g')
noncomputable def gIxL (x y : D) : Option D := match x with
  | .lst _ => Dl.gIx x y
  | _ => none
end
end L2

namespace L2
open PySem PySem.Spec PyProof.Rows
open Dl (D R FE FT FA FO FS FI FB Fl)
section
variable {K : PySem.W.Frag} {C : String → Addr} {E : XK} {Γ Δ : List Nat} {m m1 m2 m3 mr : Nat} {S S1 S2 S3 : List (Nat × Bool)} {H : Hp} {Q : VK}
theorem sameNew {H : Hp} {p : Addr} (h : H p = none) (o : HO) : Same H (upd H p o) := fun b u q => by rw [upd_ne (ne_of_none q h)]; exact q
noncomputable abbrev Out (K : PySem.W.Frag) (C : String → Addr) (H : Hp) (d : D) (Q : VK) : Prop := ∀ v H' B, Same H H' → Rp K C H' d v B → B.Nodup → (∀ a ∈ B, H a = none) → Q v H'
theorem Out.flat {d : D} {v : V} (q : Out K C H d Q) (r : Rp K C H d v []) : Q v H := q v H [] (Same.refl _) r List.nodup_nil (fun _ h => nomatch h)
theorem Out.lst {ds : List D} {vs : List V} {p : Addr} (q : Out K C H (.lst ds) Q) (r : RpA K C H ds vs []) (hp : H p = none) : Q (.ref p) (upd H p (.lst vs)) :=
  q _ _ [p] (sameNew hp _) ⟨p, vs, [], rfl, upd_same, r.same (sameNew hp _), rfl⟩ (by simp) (fun a ha => by rw [List.mem_singleton.mp ha]; exact hp)
theorem Out.tup {ds : List D} {vs : List V} {p : Addr} (q : Out K C H (.tup ds) Q) (r : RpA K C H ds vs []) (hp : H p = none) : Q (.ref p) (upd H p (.tup vs)) :=
  q _ _ [] (sameNew hp _) ⟨p, vs, rfl, upd_same, r.same (sameNew hp _)⟩ List.nodup_nil (fun _ h => nomatch h)
theorem limLine {n : Nat} (h : n ≤ Dl.lim) : n ≤ sizeLine := Nat.le_trans h (by decide)
theorem limLine' {n : Nat} (h : n < Dl.lim) : n < sizeLine := Nat.lt_of_lt_of_le h (by decide)
theorem strOk_cat {x y : Str} (h1 : PyData.strOk x = true) (h2 : PyData.strOk y = true) : PyData.strOk (x ++ y) = true := by
  unfold PyData.strOk at *
  show (x.cps ++ y.cps).all _ = true
  rw [Array.all_append, h1, h2]
  rfl
theorem RpA.nil : RpA K C H [] [] [] := ⟨rfl, rfl⟩
theorem RpA.flat' {ds : List D} {vs : List V} {A : List Addr} (h : Dl.flatA ds = true) (r : RpA K C H ds vs A) : RpA K C H ds vs [] := by
  have e := RpA.flat h r
  subst e
  exact r
theorem RpA.rep {ds : List D} {vs : List V} (r : RpA K C H ds vs []) : ∀ n, RpA K C H (List.replicate n ds).flatten (List.replicate n vs).flatten []
  | 0 => RpA.nil
  | n + 1 => by
    rw [List.replicate_succ, List.replicate_succ, List.flatten_cons, List.flatten_cons]
    exact r.app (RpA.rep r n)
theorem gok_add : GOk K C rAddA Dl.gAdd := by
  intro H x y d vx vy Bx By Q rx ry e q
  unfold Dl.gAdd at e
  split at e
  · cases e
    obtain ⟨rfl, _⟩ := rx
    obtain ⟨rfl, _⟩ := ry
    exact rd_add (Out.flat q ⟨rfl, rfl⟩)
  · split at e
    · rename_i hz
      cases e
      obtain ⟨rfl, h1, _⟩ := rx
      obtain ⟨rfl, h2, _⟩ := ry
      exact .inr (.inl ⟨_, _, rfl, rfl, limLine hz, Out.flat q ⟨rfl, strOk_cat h1 h2, rfl⟩⟩)
    · cases e
  · split at e
    · rename_i hz
      cases e
      obtain ⟨a, xs, B, rfl, e2, e3, _⟩ := rx
      obtain ⟨a', xs', B', rfl, e2', e3', _⟩ := ry
      obtain ⟨hz, f1, f2⟩ := hz
      refine rd_cat e2 e2' (by rw [e3.len, e3'.len]; exact limLine hz) fun p hp => ?_
      exact Out.lst q ((e3.flat' f1).app (e3'.flat' f2)) hp
    · cases e
  · cases e
theorem gok_I0 {g : Int → Int → D} {gv : Int → Int → V} {f : D → D → Option D} (hf : ∀ x y d, f x y = some d → ∃ i j, x = .int i ∧ y = .int j ∧ d = g i j) (hr : ∀ H i j, Rp K C H (g i j) (gv i j) []) : GOk K C (rI0 gv) f := by
  intro H x y d vx vy Bx By Q rx ry e q
  obtain ⟨i, j, rfl, rfl, rfl⟩ := hf x y d e
  obtain ⟨rfl, _⟩ := rx
  obtain ⟨rfl, _⟩ := ry
  exact rd_I0 (Out.flat q (hr H i j))
theorem gok_I {Cd : Int → Int → Prop} {g : Int → Int → D} {gv : Int → Int → V} {f : D → D → Option D} (hf : ∀ x y d, f x y = some d → ∃ i j, x = .int i ∧ y = .int j ∧ d = g i j ∧ Cd i j) (hr : ∀ H i j, Rp K C H (g i j) (gv i j) []) : GOk K C (rI Cd gv) f := by
  intro H x y d vx vy Bx By Q rx ry e q
  obtain ⟨i, j, rfl, rfl, rfl, hc⟩ := hf x y d e
  obtain ⟨rfl, _⟩ := rx
  obtain ⟨rfl, _⟩ := ry
  exact rd_I hc (Out.flat q (hr H i j))
theorem rpI {i : Int} : Rp K C H (.int i) (.int i) [] := ⟨rfl, rfl⟩
theorem rpB {i : Bool} : Rp K C H (.bl i) (.bl i) [] := ⟨rfl, rfl⟩
theorem gok_sub : GOk K C (rI0 fun i j => .int (i - j)) Dl.gSub := gok_I0 (fun x y d e => by unfold Dl.gSub at e; split at e <;> cases e; exact ⟨_, _, rfl, rfl, rfl⟩) fun _ _ _ => rpI
theorem gok_lt : GOk K C (rI0 fun i j => .bl (decide (i < j))) Dl.gLt := gok_I0 (fun x y d e => by unfold Dl.gLt at e; split at e <;> cases e; exact ⟨_, _, rfl, rfl, rfl⟩) fun _ _ _ => rpB
theorem gok_le : GOk K C (rI0 fun i j => .bl (decide (i ≤ j))) Dl.gLe := gok_I0 (fun x y d e => by unfold Dl.gLe at e; split at e <;> cases e; exact ⟨_, _, rfl, rfl, rfl⟩) fun _ _ _ => rpB
theorem gok_gt : GOk K C (rI0 fun i j => .bl (decide (j < i))) Dl.gGt := gok_I0 (fun x y d e => by unfold Dl.gGt at e; split at e <;> cases e; exact ⟨_, _, rfl, rfl, rfl⟩) fun _ _ _ => rpB
theorem gok_ge : GOk K C (rI0 fun i j => .bl (decide (j ≤ i))) Dl.gGe := gok_I0 (fun x y d e => by unfold Dl.gGe at e; split at e <;> cases e; exact ⟨_, _, rfl, rfl, rfl⟩) fun _ _ _ => rpB
theorem gok_mod : GOk K C (rI (fun _ j => 0 < j) fun i j => .int (i % j)) Dl.gMod := gok_I (fun x y d e => by
  unfold Dl.gMod at e
  split at e
  · split at e
    · rename_i h; cases e; exact ⟨_, _, rfl, rfl, rfl, h⟩
    · cases e
  · cases e) fun _ _ _ => rpI
theorem gok_div : GOk K C (rI CDivL fun i j => .int (i / j)) Dl.gDiv := gok_I (fun x y d e => by
  unfold Dl.gDiv at e
  split at e
  · split at e
    · rename_i h; cases e; exact ⟨_, _, rfl, rfl, rfl, h⟩
    · cases e
  · cases e) fun _ _ _ => rpI
theorem gok_pow : GOk K C (rI CPow fun i j => .int (i ^ j.toNat)) Dl.gPow := gok_I (fun x y d e => by
  unfold Dl.gPow at e
  split at e
  · split at e
    · rename_i h; cases e; exact ⟨_, _, rfl, rfl, rfl, h⟩
    · cases e
  · cases e) fun _ _ _ => rpI
theorem short_mul {i j : Int} (h : (Dl.short i || Dl.short j) = true) : CMul i j := by
  unfold Dl.short at h
  simp only [Bool.or_eq_true, Bool.and_eq_true, decide_eq_true_eq] at h
  exact h
theorem gok_mul : GOk K C rMulA Dl.gMul := by
  intro H x y d vx vy Bx By Q rx ry e q
  unfold Dl.gMul at e
  split at e
  · split at e
    · rename_i h
      cases e
      obtain ⟨rfl, _⟩ := rx
      obtain ⟨rfl, _⟩ := ry
      exact rd_mul (short_mul h) (Out.flat q rpI)
    · cases e
  · split at e
    · rename_i h
      cases e
      obtain ⟨a, xs, B, rfl, e2, e3, _⟩ := rx
      obtain ⟨rfl, _⟩ := ry
      obtain ⟨h1, h2, h3, h4⟩ := h
      refine rd_rep e2 (by omega) (by omega) (by rw [e3.len]; exact limLine h2) fun p hp => ?_
      exact Out.lst q ((e3.flat' h4).rep _) hp
    · cases e
  · cases e
theorem shaped_of {d : D} {v : V} {A : List Addr} (h : Dl.dep d ≤ 20) (r : Rp K C H d v A) : Dn K H v (toPy d) ∧ SeqAt.shaped (toPy d) = true := by
  obtain ⟨q1, q2, q3⟩ := r.dn h (by decide)
  refine ⟨q1, ?_⟩
  unfold SeqAt.shaped
  rw [q2, q3]
  simp only [Bool.true_and, decide_eq_true_eq]
  omega
theorem gok_eq : GOk K C (rEqA K) Dl.gEq := by
  intro H x y d vx vy Bx By Q rx ry e q
  unfold Dl.gEq at e
  split at e
  · rename_i h
    cases e
    obtain ⟨a1, a2⟩ := shaped_of h.1 rx
    obtain ⟨b1, b2⟩ := shaped_of h.2 ry
    refine .inr ⟨_, _, a1, b1, a2, b2, ?_⟩
    rw [eqv_py (by omega) (by omega)]
    exact Out.flat q rpB
  · cases e
theorem gok_ne : GOk K C (rNeA K) Dl.gNe := by
  intro H x y d vx vy Bx By Q rx ry e q
  unfold Dl.gNe at e
  split at e
  · rename_i h
    cases e
    obtain ⟨a1, a2⟩ := shaped_of h.1 rx
    obtain ⟨b1, b2⟩ := shaped_of h.2 ry
    refine .inr ⟨_, _, a1, b1, a2, b2, ?_⟩
    rw [eqv_py (by omega) (by omega)]
    exact Out.flat q rpB
  · cases e
theorem isNon_of {x : D} {v : V} {B : List Addr} (r : Rp K C H x v B) : decide (v = .non) = Dl.isNon x := by
  cases x
  · rw [r.1]; rfl
  · rw [r.1]; rfl
  · rw [r.1]; rfl
  · rw [r.1]; rfl
  · obtain ⟨a, xs, B, rfl, _⟩ := r; rfl
  · obtain ⟨a, xs, rfl, _⟩ := r; rfl
  · obtain ⟨a, rfl, _⟩ := r; rfl
  · obtain ⟨a, rfl, _⟩ := r; rfl
  · obtain ⟨a, dx, rfl, _⟩ := r; rfl
  · obtain ⟨a, dx, xs, B, rfl, _⟩ := r; rfl
  · obtain ⟨a, xs, B, rfl, _⟩ := r; rfl
theorem gok_isNot : GOk K C (rIsA true) Dl.gIsNot := by
  intro H x y d vx vy Bx By Q rx ry e q
  unfold Dl.gIsNot at e
  split at e
  · cases e
    refine .inl ⟨ry.1, ?_⟩
    simp only [if_true]
    rw [isNon_of rx]
    exact Out.flat q rpB
  · split at e
    · cases e
      obtain ⟨rfl, _⟩ := rx
      obtain ⟨rfl, _⟩ := ry
      exact .inr ⟨_, _, rfl, rfl, by simp only [if_true]; exact Out.flat q rpB⟩
    · cases e
  · cases e
theorem aok_nil : AOk K C E Γ Δ 2 [] tNil Dl.aNil := fun _ _ H _ _ _ _ _ p => p [] H (Same.refl _) ⟨[], RpA.nil, (fun _ h => nomatch h), fun _ => List.nodup_nil⟩
theorem InS.left {A : Nat → List Addr} {a : Addr} (h : InS A S1 a) : InS A (S1 ++ S2) a := h.mono fun _ hp => List.mem_append_left _ hp
theorem InS.right {A : Nat → List Addr} {a : Addr} (h : InS A S2 a) : InS A (S1 ++ S2) a := h.mono fun _ hp => List.mem_append_right _ hp
theorem aok_cons {te : TE} {t : TA} {fe : FE} {f : FA} (he : EOk K C E Γ Δ m1 S1 te fe) (ha : AOk K C E Γ Δ m2 S2 t f) : AOk K C E Γ Δ 0 (S1 ++ S2) (tCons te t) (Dl.aCons fe f) :=
  fun H0 Hb H σ ρ A Q I p => he H0 Hb H σ ρ A _ I (p.bind.imp (fun x q vx H1 g1 r1 => ha H0 Hb H1 σ ρ A _ (I.mono g1) (q.bind.imp (fun ys q vs H2 g2 r2 => by
    obtain ⟨Bx, r1, r1', _⟩ := r1
    obtain ⟨By, r2, r2', _⟩ := r2
    exact q _ H2 (g1.trans g2) ⟨Bx ++ By, ⟨vx, vs, Bx, By, rfl, r1.same g2, r2, rfl⟩, fun a h => (List.mem_append.mp h).elim (fun h => (r1' a h).imp id InS.left) (fun h => (r2' a h).imp (fun h => g1.free h) InS.right), (fun z => nomatch z)⟩)
    fun c x q H' g' => q H' (g1.trans g'))) fun c x q H' g' => q H' g')
theorem aok_consD {te : TE} {t : TA} {fe : FE} {f : FA} (he : EOk K C E Γ Δ 2 S1 te fe) (ha : AOk K C E Γ Δ 2 S2 t f) (h1 : autoParam (∀ p ∈ S1, p.1 ∈ Δ) aT1._auto_1) (h2 : autoParam (∀ p ∈ S1, ∀ q ∈ S2, p.1 ≠ q.1) aT1._auto_1) : AOk K C E Γ Δ 2 (S1 ++ S2) (tCons te t) (Dl.aCons fe f) :=
  fun H0 Hb H σ ρ A Q I p => he H0 Hb H σ ρ A _ I (p.bind.imp (fun x q vx H1 g1 r1 => ha H0 Hb H1 σ ρ A _ (I.mono g1) (q.bind.imp (fun ys q vs H2 g2 r2 => by
    obtain ⟨Bx, r1, r1', _, n1⟩ := r1
    obtain ⟨By, r2, r2', n2⟩ := r2
    refine q _ H2 (g1.trans g2) ⟨Bx ++ By, ⟨vx, vs, Bx, By, rfl, r1.same g2, r2, rfl⟩, fun a h => (List.mem_append.mp h).elim (fun h => (r1' a h).imp id InS.left) (fun h => (r2' a h).imp (fun h => g1.free h) InS.right), fun _ => ?_⟩
    refine List.nodup_append.mpr ⟨n1 rfl, n2 rfl, fun a ha b hb e => ?_⟩
    subst e
    rcases r2' a hb with z | z
    · obtain ⟨xs, w, _⟩ := r1.isl a ha
      rw [w] at z
      cases z
    · obtain ⟨p2, hp2, z⟩ := z.mem
      rcases r1' a ha with w | w
      · exact I.ne z w
      · obtain ⟨p1, hp1, w⟩ := w.mem
        exact (I.deep p1.1 (h1 p1 hp1)).2.1 p2.1 (fun e => h2 p1 hp1 p2 hp2 e.symm) a w z)
    fun c x q H' g' => q H' (g1.trans g'))) fun c x q H' g' => q H' g')
theorem eok_lst {t : TA} {f : FA} (ha : AOk K C E Γ Δ 2 S t f) : EOk K C E Γ Δ 2 S (tLst t) (Dl.fA Dl.gLst f) :=
  fun H0 Hb H σ ρ A Q I p => ha H0 Hb H σ ρ A _ I (p.bind.imp (fun ds q vs H1 g1 r1 => by
    obtain ⟨d, e, q⟩ := oR_ok q
    unfold Dl.gLst at e
    split at e
    · rename_i hz
      cases e
      obtain ⟨B, r1, r1', n1⟩ := r1
      refine ⟨by rw [r1.len]; exact limLine hz, fun p hp => ?_⟩
      have g2 := sameNew hp (.lst vs)
      refine q _ _ (g1.trans g2) ⟨p :: B, ⟨p, vs, B, rfl, upd_same, r1.same g2, rfl⟩, fun a ha => ?_, (fun z => nomatch z), fun _ => List.nodup_cons.mpr ⟨fun h => ?_, n1 rfl⟩⟩
      · rcases List.mem_cons.mp ha with z | z
        · rw [z]; exact .inl (g1.free hp)
        · exact r1' a z
      · obtain ⟨xs, w, _⟩ := r1.isl p h
        rw [w] at hp
        cases hp
    · cases e) fun c x q H' g' => q H' g')
theorem eok_lst1 {t : TA} {f : FA} (ha : AOk K C E Γ Δ m S t f) : EOk K C E Γ Δ 1 S (tLst t) (Dl.fA Dl.gLst f) :=
  fun H0 Hb H σ ρ A Q I p => ha H0 Hb H σ ρ A _ I (p.bind.imp (fun ds q vs H1 g1 r1 => by
    obtain ⟨d, e, q⟩ := oR_ok q
    unfold Dl.gLst at e
    split at e
    · rename_i hz
      cases e
      obtain ⟨B, r1, r1', n1⟩ := r1
      refine ⟨by rw [r1.len]; exact limLine hz, fun p hp => ?_⟩
      have g2 := sameNew hp (.lst vs)
      refine q _ _ (g1.trans g2) ⟨p :: B, ⟨p, vs, B, rfl, upd_same, r1.same g2, rfl⟩, fun a ha => ?_, fun _ a r e => ?_, (fun z => nomatch z)⟩
      · rcases List.mem_cons.mp ha with z | z
        · rw [z]; exact .inl (g1.free hp)
        · exact r1' a z
      · cases e
        refine ⟨g1.free hp, fun h => ?_⟩
        obtain ⟨xs, w, _⟩ := r1.isl p h
        rw [w] at hp
        cases hp
    · cases e) fun c x q H' g' => q H' g')
theorem eok_tup (hm : m = 0 ∨ m = 2) {t : TA} {f : FA} (ha : AOk K C E Γ Δ m S t f) : EOk K C E Γ Δ m S (tTup t) (Dl.fA Dl.gTup f) :=
  fun H0 Hb H σ ρ A Q I p => ha H0 Hb H σ ρ A _ I (p.bind.imp (fun ds q vs H1 g1 r1 => by
    obtain ⟨d, e, q⟩ := oR_ok q
    unfold Dl.gTup at e
    split at e
    · rename_i hz
      cases e
      obtain ⟨B, r1, r1', n1⟩ := r1
      refine ⟨by rw [r1.len]; exact limLine hz, fun p hp => ?_⟩
      have g2 := sameNew hp (.tup vs)
      exact q _ _ (g1.trans g2) ⟨B, ⟨p, vs, rfl, upd_same, r1.same g2⟩, r1', (fun z => by omega), n1⟩
    · cases e) fun c x q H' g' => q H' g')
theorem eok_cb {r : List V → Hp → VK → Prop} {g : List D → Option D} {t : TA} {f : FA} (hg : GAk K C r g) (ha : AOk K C E Γ Δ m S t f) : EOk K C E Γ Δ 2 [] (tCB r t) (Dl.fA g f) :=
  fun H0 Hb H σ ρ A Q I p => ha H0 Hb H σ ρ A _ I (p.bind.imp (fun ds q vs H1 g1 r1 => by
    obtain ⟨d, e, q⟩ := oR_ok q
    obtain ⟨B, r1, _⟩ := r1
    exact hg H1 ds d vs B Q r1 e fun v H' B' g2 r2 h1 h2 => q v H' (g1.trans g2) (Res.new r2 h1 fun a ha => g1.free (h2 a ha))) fun c x q H' g' => q H' g')
theorem RpA.one' {d : D} {vs : List V} {A : List Addr} (r : RpA K C H [d] vs A) : ∃ v, vs = [v] ∧ Rp K C H d v A := by
  obtain ⟨x, l, B, B', e1, e2, e3, e4⟩ := r
  obtain ⟨e5, e6⟩ := e3
  subst e1 e4 e5 e6
  rw [List.append_nil]
  exact ⟨x, rfl, e2⟩
theorem RpA.two' {d e : D} {vs : List V} {A : List Addr} (r : RpA K C H [d, e] vs A) : ∃ v w B B', vs = [v, w] ∧ Rp K C H d v B ∧ Rp K C H e w B' := by
  obtain ⟨x, l, B, B', e1, e2, e3, e4⟩ := r
  obtain ⟨w, e5, e6⟩ := e3.one'
  subst e1 e5
  exact ⟨x, w, B, B', rfl, e2, e6⟩
theorem gak_len : GAk K C (rLenA K) Dl.gLen := by
  intro H xs d vs B Q r e q
  obtain ⟨x, rfl⟩ := one_at (F := Dl.gLen) rfl (fun x _ _ => by cases x <;> rfl) e
  obtain ⟨v, rfl, r1⟩ := r.one'
  cases x with
  | lst xs =>
    cases (show some (D.int xs.length) = some d from e)
    obtain ⟨a, ys, B, rfl, e2, e3, _⟩ := r1
    refine rd_lenL (SqL.of e2) ?_
    rw [e3.len]
    exact Out.flat q rpI
  | tup xs =>
    cases (show some (D.int xs.length) = some d from e)
    obtain ⟨a, ys, rfl, e2, e3⟩ := r1
    refine rd_lenT (SqT.of e2) ?_
    rw [e3.len]
    exact Out.flat q rpI
  | scr xs =>
    cases (show some (D.int xs.length) = some d from e)
    obtain ⟨a, rfl, e2, _⟩ := r1
    refine rd_lenL e2.sq ?_
    rw [List.length_map]
    exact Out.flat q rpI
  | str z =>
    have e : (if z.length ≤ Dl.lim then some (D.int z.length) else none) = some d := e
    by_cases hz : z.length ≤ Dl.lim
    · rw [if_pos hz] at e
      cases e
      obtain ⟨rfl, _⟩ := r1
      exact rd_lenS (limLine hz) (Out.flat q rpI)
    · rw [if_neg hz] at e
      exact no_some e
  | _ => exact no_some e
noncomputable def rMin2 : List V → Hp → VK → Prop := fun xs H Q => ∃ i j, xs = [.int i, .int j] ∧ Q (.int (if j < i then j else i)) H
theorem call_minR {X : Cx} (hc : X.calm = true) : CallR X (.builtin "min") rMin2 := call_min2 hc
theorem gak_min : GAk K C rMin2 Dl.gMin := by
  intro H xs d vs B Q r e q
  unfold Dl.gMin at e
  split at e
  · cases e
    obtain ⟨v, w, B, B', rfl, r1, r2⟩ := r.two'
    obtain ⟨rfl, _⟩ := r1
    obtain ⟨rfl, _⟩ := r2
    exact ⟨_, _, rfl, Out.flat q rpI⟩
  · cases e
theorem gak_any : GAk K C (rAnyL K) Dl.gAny := by
  intro H xs d vs B Q r e q
  obtain ⟨x, rfl⟩ := one_at (F := Dl.gAny) rfl (fun x _ _ => by cases x <;> rfl) e
  obtain ⟨v, rfl, r1⟩ := r.one'
  cases x with
  | lst xs =>
    obtain ⟨ns, h1, h2⟩ := Option.bind_eq_some_iff.mp e
    cases h2
    obtain ⟨a, ys, B, rfl, e2, e3, _⟩ := r1
    have h := e3.ofBools h1
    subst h
    exact rd_anyL (SqL.of e2) (Out.flat q rpB)
  | _ => exact no_some e
theorem gak_all : GAk K C (rAllL K) Dl.gAll := by
  intro H xs d vs B Q r e q
  obtain ⟨x, rfl⟩ := one_at (F := Dl.gAll) rfl (fun x _ _ => by cases x <;> rfl) e
  obtain ⟨v, rfl, r1⟩ := r.one'
  cases x with
  | lst xs =>
    obtain ⟨ns, h1, h2⟩ := Option.bind_eq_some_iff.mp e
    cases h2
    obtain ⟨a, ys, B, rfl, e2, e3, _⟩ := r1
    have h := e3.ofBools h1
    subst h
    exact rd_allL (SqL.of e2) (Out.flat q rpB)
  | _ => exact no_some e
theorem RpA.rng {lo : Int} {n : Nat} : RpA K C H (Dl.rngL lo n) (rngV lo n) [] := by
  unfold Dl.rngL rngV
  generalize List.range n = l
  induction l with
  | nil => exact RpA.nil
  | cons k l ih => exact ⟨_, _, [], [], rfl, rpI, ih, rfl⟩
theorem gak_list : GAk K C (rList K) Dl.gList := by
  intro H xs d vs B Q r e q
  obtain ⟨x, rfl⟩ := one_at (F := Dl.gList) rfl (fun x _ _ => by cases x <;> rfl) e
  obtain ⟨v, rfl, r1⟩ := r.one'
  cases x with
  | lst xs =>
    have e : (if Dl.flatA xs then some (D.lst xs) else none) = some d := e
    split at e
    · rename_i hf
      cases e
      obtain ⟨a, ys, B, rfl, e2, e3, _⟩ := r1
      exact rd_listL (SqL.of e2) fun l hl => Out.lst q (e3.flat' hf) hl
    · exact no_some e
  | tup xs =>
    have e : (if Dl.flatA xs then some (D.lst xs) else none) = some d := e
    split at e
    · rename_i hf
      cases e
      obtain ⟨a, ys, rfl, e2, e3⟩ := r1
      exact .inl ⟨a, ys, rfl, .inr (SqT.of e2), fun l hl => Out.lst q (e3.flat' hf) hl⟩
    · exact no_some e
  | rng i j =>
    have e : (if -1000000000 ≤ i ∧ i ≤ 1000000000 ∧ -1000000000 ≤ j ∧ j ≤ 1000000000 ∧ (j - i).toNat ≤ Dl.lim then some (D.lst (Dl.rngL i (j - i).toNat)) else none) = some d := e
    split at e
    · rename_i hf
      cases e
      obtain ⟨a, rfl, e2, _⟩ := r1
      obtain ⟨h1, h2, h3, h4, h5⟩ := hf
      exact rd_listR e2 (by omega) (by omega) (by omega) (by omega) h5 fun l hl => Out.lst q RpA.rng hl
    · exact no_some e
  | _ => exact no_some e
theorem ook_none : OOk K C E Γ Δ tNoPart Dl.oNone := fun _ _ H _ _ _ _ _ p => p H (Same.refl _)
theorem ook_some {t : TE} {f : FE} (h : EOk K C E Γ Δ m S t f) : OOk K C E Γ Δ (tPart t) (Dl.oSome f) := fun H0 Hb H σ ρ A Q I p => h H0 Hb H σ ρ A _ I (p.bind.imp (fun d q v H' g r => by
  obtain ⟨B, r, _⟩ := r
  cases d with
  | int i =>
    obtain ⟨rfl, _⟩ := r
    exact ⟨i, rfl, q H' g⟩
  | _ => exact q.elim) fun c x q H' g' => q H' g')
theorem six_eq (n d : Nat) (o : Option Int) : Dl.sixD n d o = HT.sIx n d o := by
  cases o with
  | none => rfl
  | some v =>
    have h := HT.clip_eq v n d
    show (if v < 0 then (max (v + (n : Int)) 0).toNat else min v.toNat n) = _
    by_cases hv : v < 0
    · rw [if_pos hv] at h ⊢
      omega
    · rw [if_neg hv] at h ⊢
      omega
theorem RpA.cut {ds : List D} {vs : List V} {A : List Addr} (h : Dl.flatA ds = true) (r : RpA K C H ds vs A) (lo hi : Option Int) : RpA K C H (Dl.cut ds lo hi) (cutV vs lo hi) [] := by
  unfold Dl.cut cutV
  rw [six_eq, six_eq, r.len]
  exact (r.flatDrop h _).flatTake (flatA_drop h _) _
theorem cut_ints (ns : List Int) (lo hi : Option Int) : cutV (ns.map V.int) lo hi = (Dl.cut ns lo hi).map V.int := by
  unfold Dl.cut cutV
  rw [six_eq, six_eq, List.length_map, List.map_take, List.map_drop]
theorem eok_sl {ta : TE} {tl th : TO} {fa : FE} {fl fh : FO} (ha : EOk K C E Γ Δ m S ta fa) (hl : OOk K C E Γ Δ tl fl) (hh : OOk K C E Γ Δ th fh) : EOk K C E Γ Δ 2 [] (tSl (rSlL K) ta tl th) (Dl.fSl Dl.gSl fa fl fh) :=
  fun H0 Hb H σ ρ A Q I p => ha H0 Hb H σ ρ A _ I (p.bind.imp (fun x q vx H1 g1 r1 => hl H0 Hb H1 σ ρ A _ (I.mono g1) (q.bind.imp (fun lo q H2 g2 => hh H0 Hb H2 σ ρ A _ (I.mono (g1.trans g2)) (q.bind.imp (fun hi q H3 g3 => by
    obtain ⟨d, e, q⟩ := oR_ok q
    obtain ⟨B, r1, _⟩ := r1
    have r1 := r1.same (g2.trans g3)
    have g13 := g1.trans (g2.trans g3)
    have out : Out K C H3 d Q := fun v H' B g4 r h1 h2 => q v H' (g13.trans g4) (Res.new r h1 fun a ha => g13.free (h2 a ha))
    unfold Dl.gSl at e
    split at e
    · split at e
      · rename_i hf
        cases e
        obtain ⟨a, ys, B, rfl, e2, e3, _⟩ := r1
        exact rd_slL (SqL.of e2) fun p hp => Out.lst out (e3.cut hf _ _) hp
      · cases e
    · cases e
      obtain ⟨a, rfl, e2, _⟩ := r1
      refine rd_slL e2.sq fun p hp => ?_
      rw [cut_ints]
      exact Out.lst out RpA.ints hp
    · cases e) fun c x q H' g' => q H' ((g1.trans g2).trans g'))) fun c x q H' g' => q H' (g1.trans g'))) fun c x q H' g' => q H' g')
end
end L2

namespace L2
open PySem PySem.Spec PyProof.Rows
open Dl (D R FE FT FA FO FS FI FB Fl)
section
variable {K : PySem.W.Frag} {C : String → Addr} {E : XK} {Γ Δ Γ' Δ' Γ1 Δ1 Γl Δl : List Nat} {m m1 m2 m3 mr : Nat} {S S1 S2 S3 : List (Nat × Bool)} {H : Hp} {Q : VK}
theorem tok_of {t : TE} {f : FE} (h : EOk K C E Γ Δ m S t f) : ∀ (H0 Hb H : Hp) (σ : St) (ρ : DEnv) (A : Nat → List Addr) (Q : Bool → Hp → Prop), EnvOk K C H0 Hb H Γ Δ σ ρ A →
    Post (Dl.cE f ρ) (fun b => ∀ H', Same H H' → Q b H') (fun c x => ∀ H', Same H H' → EC C E c x H') → t σ H fun x H' => ∃ k, x = .bl k ∧ Q k H' := fun H0 Hb H σ ρ A Q I p => h H0 Hb H σ ρ A _ I (p.bind.imp (fun d q v H' g r => by
  obtain ⟨B, r, _⟩ := r
  cases d with
  | bl b =>
    obtain ⟨rfl, _⟩ := r
    exact ⟨b, rfl, q H' g⟩
  | _ => exact q.elim) fun c x q H' g' => q H' g')
theorem tok_test {t : TE} {f : FE} (h : EOk K C E Γ Δ m S t f) : TOk K C E Γ Δ (tTest t) (Dl.cE f) := tok_of h
theorem tok_B {t : TE} {f : FE} (h : EOk K C E Γ Δ m S t f) : TOk K C E Γ Δ (tB t) (Dl.cE f) := tok_of h
theorem tok_not {t : TT} {f : FT} (h : TOk K C E Γ Δ t f) : TOk K C E Γ Δ (tNot t) (Dl.cNot f) := fun H0 Hb H σ ρ A Q I p => h H0 Hb H σ ρ A _ I (p.bind.imp (fun b q H' g => q H' g) fun c x q H' g' => q H' g')
theorem tok_or {t u : TT} {f g : FT} (h : TOk K C E Γ Δ t f) (h' : TOk K C E Γ Δ u g) : TOk K C E Γ Δ (tOr t u) (Dl.cOr f g) := fun H0 Hb H σ ρ A Q I p => h H0 Hb H σ ρ A _ I (p.bind.imp (fun b q H' g' => by
  cases b with
  | false => exact h' H0 Hb H' σ ρ A Q (I.mono g') (Post.imp q (fun b q H2 g2 => q H2 (g'.trans g2)) fun c x q H2 g2 => q H2 (g'.trans g2))
  | true => exact q H' g') fun c x q H' g' => q H' g')
theorem tok_yes : TOk K C E Γ Δ tYes Dl.cYes := fun _ _ H _ _ _ _ _ p => p H (Same.refl _)
theorem EOk.run {t : TE} {f : FE} (h : EOk K C E Γ Δ m S t f) {H0 Hb H H1 : Hp} {σ : St} {ρ : DEnv} {A : Nat → List Addr} {Q : VK} (I : EnvOk K C H0 Hb H Γ Δ σ ρ A) (g : Same H H1)
    (p : Post (f ρ) (fun d => ∀ v H', Same H H' → Res K C m S H A d v H' → Q v H') (fun c x => ∀ H', Same H H' → EC C E c x H')) : t σ H1 Q :=
  h H0 Hb H1 σ ρ A Q (I.mono g) (p.imp (fun d q v H2 g2 r => q v H2 (g.trans g2) (r.later g (Same.refl _))) fun c x q H2 g2 => q H2 (g.trans g2))
theorem eok_and {ta tb : TE} {fa fb : FE} (ha : EOk K C E Γ Δ m1 S1 ta fa) (hb : EOk K C E Γ Δ m S tb fb) : EOk K C E Γ Δ m S (tAndV ta tb) (Dl.fAnd fa fb) := fun H0 Hb H σ ρ A Q I p => ha H0 Hb H σ ρ A _ I (p.bind.imp (fun d q v H' g r => by
  obtain ⟨B, r, _⟩ := r
  cases d with
  | bl b =>
    obtain ⟨rfl, _⟩ := r
    refine ⟨b, rfl, ?_⟩
    cases b with
    | true => exact hb.run I g q
    | false => exact q _ H' g (Res.flat rpB)
  | _ => exact q.elim) fun c x q H' g' => q H' g')
theorem eok_or {ta tb : TE} {fa fb : FE} (ha : EOk K C E Γ Δ m1 S1 ta fa) (hb : EOk K C E Γ Δ m S tb fb) : EOk K C E Γ Δ m S (tOrV ta tb) (Dl.fOr fa fb) := fun H0 Hb H σ ρ A Q I p => ha H0 Hb H σ ρ A _ I (p.bind.imp (fun d q v H' g r => by
  obtain ⟨B, r, _⟩ := r
  cases d with
  | bl b =>
    obtain ⟨rfl, _⟩ := r
    refine ⟨b, rfl, ?_⟩
    cases b with
    | false => exact hb.run I g q
    | true => exact q _ H' g (Res.flat rpB)
  | _ => exact q.elim) fun c x q H' g' => q H' g')
theorem eok_not {ta : TE} {fa : FE} (ha : EOk K C E Γ Δ m1 S1 ta fa) : EOk K C E Γ Δ 2 [] (tNotV ta) (Dl.f1 Dl.gNot fa) := fun H0 Hb H σ ρ A Q I p => ha H0 Hb H σ ρ A _ I (p.bind.imp (fun d q v H' g r => by
  obtain ⟨B, r, _⟩ := r
  cases d with
  | bl b =>
    obtain ⟨rfl, _⟩ := r
    exact ⟨b, rfl, q _ H' g (Res.flat rpB)⟩
  | _ => exact q.elim) fun c x q H' g' => q H' g')
theorem eok_if {tc : TT} {ta tb : TE} {fc : FT} {fa fb : FE} (hc : TOk K C E Γ Δ tc fc) (ha : EOk K C E Γ Δ m S ta fa) (hb : EOk K C E Γ Δ m S tb fb) : EOk K C E Γ Δ m S (tIf tc ta tb) (Dl.fIf fc fa fb) :=
  fun H0 Hb H σ ρ A Q I p => hc H0 Hb H σ ρ A _ I (p.bind.imp (fun b q H' g => by
    cases b with
    | true => exact ha.run I g q
    | false => exact hb.run I g q) fun c x q H' g' => q H' g')
theorem eok_chain {r r' : R2} {g g' : D → D → Option D} {ta tb tc : TE} {fa fb fc : FE} (hg : GOk K C r g) (hg' : GOk K C r' g') (hbl : ∀ x y d, g x y = some d → ∃ b, d = .bl b) (ha : EOk K C E Γ Δ m1 S1 ta fa) (hb : EOk K C E Γ Δ m2 S2 tb fb) (hc : EOk K C E Γ Δ m3 S3 tc fc) :
    EOk K C E Γ Δ 2 [] (tChain r r' ta tb tc) (Dl.fChain g g' fa fb fc) :=
  fun H0 Hb H σ ρ A Q I p => ha H0 Hb H σ ρ A _ I (p.bind.imp (fun x q vx H1 g1 r1 => hb H0 Hb H1 σ ρ A _ (I.mono g1) (q.bind.imp (fun y q vy H2 g2 r2 => by
    obtain ⟨z, e, q⟩ := oR_ok q.bind
    obtain ⟨Bx, r1, _⟩ := r1
    obtain ⟨By, r2, _⟩ := r2
    obtain ⟨b, rfl⟩ := hbl _ _ _ e
    refine hg H2 x y _ vx vy Bx By _ (r1.same g2) r2 e fun v H3 B g3 r3 _ _ => ?_
    obtain ⟨rfl, _⟩ := r3
    refine ⟨b, rfl, ?_⟩
    have g03 := g1.trans (g2.trans g3)
    cases b with
    | false => exact q _ H3 g03 (Res.flat rpB)
    | true =>
      refine hc H0 Hb H3 σ ρ A _ (I.mono g03) (q.bind.imp (fun w q vw H4 g4 r4 => ?_) fun c x q H' g' => q H' (g03.trans g'))
      obtain ⟨d, e', q⟩ := oR_ok q
      obtain ⟨Bw, r4, _⟩ := r4
      exact hg' H4 y w d vy vw By Bw Q (r2.same (g3.trans g4)) r4 e' fun v H' B g5 r5 h1 h2 => q v H' (g03.trans (g4.trans g5)) (Res.new r5 h1 fun a ha => (g03.trans g4).free (h2 a ha)))
    fun c x q H' g' => q H' (g1.trans g'))) fun c x q H' g' => q H' g')
theorem bl_le {x y d : D} (h : Dl.gLe x y = some d) : ∃ b, d = .bl b := by unfold Dl.gLe at h; split at h <;> cases h; exact ⟨_, rfl⟩
noncomputable def spD (K : PySem.W.Frag) (C : String → Addr) (n mr : Nat) (F : List D → R D) : Sp := fun vs H Q E => ∃ ds B, ds.length = n ∧ RpA K C H ds vs B ∧
  Post (F ds) (fun d => ∀ v H', Same H H' → Res K C mr [] H (fun _ => []) d v H' → Q v H') (fun c x => ∀ H', Same H H' → EC C E c x H')
theorem InS.none {A : Nat → List Addr} {a : Addr} (h : InS A [] a) : False := by
  obtain ⟨p, hp, _⟩ := h
  cases hp
theorem Res.reA {H H' : Hp} {A A' : Nat → List Addr} {d : D} {v : V} (r : Res K C m [] H A d v H') : Res K C m S H A' d v H' := by
  obtain ⟨B, r1, r2, r3, r4⟩ := r
  exact ⟨B, r1, fun a ha => (r2 a ha).imp id fun h => h.none.elim, r3, r4⟩
theorem eok_call {n : Nat} {F : List D → R D} {t : TA} {f : FA} (ha : AOk K C E Γ Δ m S t f) (hn : ∀ ρ ds, f ρ = .ok ds → ds.length = n) : EOk K C E Γ Δ mr [] (tCall (spD K C n mr F) [] E t) (Dl.fCall F f) :=
  fun H0 Hb H σ ρ A Q I p => rd_call (ha H0 Hb H σ ρ A _ I (by
    have p' := p.bind
    cases e : f ρ with
    | bad => rw [e] at p'; exact p'
    | err c x => rw [e] at p'; exact p'
    | ok ds =>
      rw [e] at p'
      intro vs H1 g1 r1
      obtain ⟨B, r1, _⟩ := r1
      exact ⟨ds, B, hn ρ ds e, r1, Post.imp p' (fun d q v H' g2 r => q v H' (g1.trans g2) ((r.later g1 (Same.refl _)).reA)) fun c x q H' g' => q H' (g1.trans g')⟩))
theorem len_nil (ρ : DEnv) (ds : List D) (h : Dl.aNil ρ = .ok ds) : ds.length = 0 := by cases h; rfl
theorem len_cons {n : Nat} {fe : FE} {f : FA} (hf : ∀ ρ ds, f ρ = .ok ds → ds.length = n) (ρ : DEnv) (ds : List D) (h : Dl.aCons fe f ρ = .ok ds) : ds.length = n + 1 := by
  unfold Dl.aCons at h
  cases e : fe ρ with
  | ok x =>
    rw [e] at h
    cases e' : f ρ with
    | ok xs =>
      rw [e'] at h
      cases h
      rw [List.length_cons, hf ρ xs e']
    | err c x => rw [e'] at h; cases h
    | bad => rw [e'] at h; cases h
  | err c x => rw [e] at h; cases h
  | bad => rw [e] at h; cases h
noncomputable def Goes (K : PySem.W.Frag) (C : String → Addr) (J : It) (ds : List D) (Hb : Hp) : Prop := ∀ H2, Same Hb H2 → (∀ i, i < ds.length → J.go i H2) ∧ (∀ i, ds.length ≤ i → J.stop i H2) ∧
  ∀ i x H3, i < ds.length → J.yld i H2 x H3 → Same H2 H3 ∧ ∃ d B, ds[i]? = some d ∧ Rp K C H3 d x B ∧ ∀ a ∈ B, Hb a ≠ none
noncomputable def IOk (K : PySem.W.Frag) (C : String → Addr) (E : XK) (Γ Δ : List Nat) (S : List (Nat × Bool)) (wi : TI) (f : FI) : Prop := ∀ (H0 Hb H : Hp) (σ : St) (ρ : DEnv) (A : Nat → List Addr) (Rr : It → Hp → Prop), EnvOk K C H0 Hb H Γ Δ σ ρ A →
  Post (f ρ) (fun ds => ∀ J H' W, Same H H' → (∀ a ∈ W, (∃ o, H' a = some o ∧ IsM o) ∧ (H a = none ∨ InS A S a)) → ds.length ≤ Dl.lim →
    (∀ Hc, Agree W H' Hc → Goes K C J ds Hc) → Rr J H') (fun c x => ∀ H', Same H H' → EC C E c x H') → wi σ H Rr
theorem goes_of {J : It} {ds : List D} {vs : List V} {B : List Addr} {Hc : Hp} (r : RpA K C Hc ds vs B) (h : ∀ H2, Same Hc H2 → (∀ i, i < vs.length → J.go i H2) ∧ (∀ i, vs.length ≤ i → J.stop i H2) ∧ ∀ i x H3, J.yld i H2 x H3 → H3 = H2 ∧ (i < vs.length → vs[i]? = some x)) : Goes K C J ds Hc := fun H2 g => by
  obtain ⟨h1, h2, h3⟩ := h H2 g
  have hl := r.len
  refine ⟨fun i hi => h1 i (by omega), fun i hi => h2 i (by omega), fun i x H3 hi y => ?_⟩
  obtain ⟨e, y2⟩ := h3 i x H3 y
  subst e
  obtain ⟨d, Bd, q1, q2, q3⟩ := r.get' (y2 (by omega))
  refine ⟨Same.refl _, d, Bd, q1, q2.same g, fun a ha z => ?_⟩
  obtain ⟨xs, e, _⟩ := q2.isl a ha
  rw [e] at z
  cases z
theorem goes_list {a : Addr} {ds : List D} {vs : List V} {B : List Addr} {Hc : Hp} (r : RpA K C Hc ds vs B) (h : ∀ H2, Same Hc H2 → SqL K H2 a vs) : Goes K C (Itl K a) ds Hc := goes_of r fun H2 g => by
  have q := h H2 g
  exact ⟨fun i hi => ⟨vs, vs[i], q, by simp [hi]⟩, fun i hi => ⟨vs, q, hi⟩, fun i x H3 y => ⟨y.1, fun _ => y.2 vs q⟩⟩
theorem goes_tup {a : Addr} {ds : List D} {vs : List V} {B : List Addr} {Hc : Hp} (r : RpA K C Hc ds vs B) (h : ∀ H2, Same Hc H2 → SqT K H2 a vs) : Goes K C (Itt K a) ds Hc := goes_of r fun H2 g => by
  have q := h H2 g
  exact ⟨fun i hi => ⟨vs, vs[i], q, by simp [hi]⟩, fun i hi => ⟨vs, q, hi⟩, fun i x H3 y => ⟨y.1, fun _ => y.2 vs q⟩⟩
theorem goes_rng {lo : Int} {n : Nat} {Hc : Hp} : Goes K C (Itr lo n) (Dl.rngL lo n) Hc := goes_of (vs := rngV lo n) RpA.rng fun H2 _ => by
  have hl : (rngV lo n).length = n := by simp [rngV]
  refine ⟨fun i hi => by rw [hl] at hi; exact hi, fun i hi => by rw [hl] at hi; exact hi, fun i x H3 y => ⟨y.1, fun hi => ?_⟩⟩
  rw [hl] at hi
  rw [y.2]
  simp [rngV, hi]
theorem FzL.keep {a : Addr} {xs : List V} {H Hb : Hp} (h : FzL K H a xs) (hk : ∀ b o, H b = some o → ¬ IsM o → Hb b = some o) : FzL K Hb a xs := by
  rcases h with ⟨o, h⟩ | h
  · exact .inl ⟨o, hk a _ h (fun z => by cases z)⟩
  · exact .inr h
theorem FzL.same {a : Addr} {xs : List V} {H Hb : Hp} (h : FzL K H a xs) (g : Same H Hb) : FzL K Hb a xs := h.keep fun b o q _ => g b o q
theorem iok_list {t : TE} {f : FE} (h : EOk K C E Γ Δ m S t f) : IOk K C E Γ Δ S (iList K t) (Dl.jList f) := fun H0 Hb H σ ρ A Rr I p => h H0 Hb H σ ρ A _ I (p.bind.imp (fun d q v H' g r => by
  obtain ⟨B, r, r', _⟩ := r
  cases d with
  | lst ds =>
    obtain ⟨a, xs, B', rfl, e2, e3, e4⟩ := r
    subst e4
    simp only at q
    split at q
    · rename_i hl
      refine ⟨a, rfl, ⟨xs, SqL.of e2⟩, q _ H' (a :: B') g (fun b hb => ?_) hl fun Hc h1 => goes_list (e3.agree h1 fun b hb => .tail _ hb) fun H2 g2 => SqL.of (g2 _ _ ((h1.1 a (.head _)).trans e2))⟩
      rcases List.mem_cons.mp hb with z | z
      · rw [z]
        exact ⟨⟨_, e2, .lst⟩, r' a (.head _)⟩
      · exact ⟨e3.isl b z, r' b (.tail _ z)⟩
    · exact q.elim
  | scr ns =>
    obtain ⟨a, rfl, e2, _⟩ := r
    simp only at q
    split at q
    · rename_i hl
      exact ⟨a, rfl, ⟨_, e2.sq⟩, q _ H' [] g (fun b hb => nomatch hb) (by rw [List.length_map]; exact hl) fun Hc h2 => goes_list RpA.ints fun H2 g2 => ((e2.keep h2.2).same g2).sq⟩
    · exact q.elim
  | _ => exact q.elim) fun c x q H' g' => q H' g')
theorem iok_tup {t : TE} {f : FE} (h : EOk K C E Γ Δ m S t f) : IOk K C E Γ Δ S (iTup K t) (Dl.jTup f) := fun H0 Hb H σ ρ A Rr I p => h H0 Hb H σ ρ A _ I (p.bind.imp (fun d q v H' g r => by
  obtain ⟨B, r, r', _⟩ := r
  cases d with
  | tup ds =>
    obtain ⟨a, xs, rfl, e2, e3⟩ := r
    simp only at q
    split at q
    · rename_i hl
      exact ⟨a, rfl, ⟨xs, SqT.of e2⟩, q _ H' B g (fun b hb => ⟨e3.isl b hb, r' b hb⟩) hl fun Hc h2 => goes_tup (e3.agree h2 fun b hb => hb) fun H2 g2 => SqT.of (g2 _ _ (h2.2 a _ e2 fun z => by cases z))⟩
    · exact q.elim
  | _ => exact q.elim) fun c x q H' g' => q H' g')
theorem rngL_len (lo : Int) (n : Nat) : (Dl.rngL lo n).length = n := by simp [Dl.rngL]
theorem iok_rng1 {t : TA} {f : FA} (h : AOk K C E Γ Δ m S t f) : IOk K C E Γ Δ [] (iRng1 t) (Dl.jRng1 f) := fun H0 Hb H σ ρ A Rr I p => h H0 Hb H σ ρ A _ I (p.bind.imp (fun ds q vs H' g r => by
  obtain ⟨B, r, _⟩ := r
  split at q
  · split at q
    · rename_i hl
      obtain ⟨v, rfl, r1⟩ := r.one'
      obtain ⟨rfl, _⟩ := r1
      exact ⟨_, rfl, by omega, by omega, q _ H' [] g (fun b hb => nomatch hb) (by rw [rngL_len]; show _ ≤ 1000000; omega) fun Hc _ => goes_rng⟩
    · exact q.elim
  · exact q.elim) fun c x q H' g' => q H' g')
theorem comp_gen {J : It} {ds : List D} {Hc H : Hp} {Dd : Addr} {k : Nat} {g : TG} {tc : TT} {te : TE} {σ : St} {Rr : Hp → Prop} (go : Goes K C J ds Hc) (Pv : Nat → Hp → Prop) (h0 : Pv 0 (upd H Dd (.lst []))) (hb : ∀ i H, Pv i H → Same Hc H)
    (hs : ∀ i d x B H H3, ds[i]? = some d → Pv i H → Same H H3 → Rp K C H3 d x B → (∀ a ∈ B, Hc a ≠ none) → ∀ os : St, os.length = k → g x (σ ++ os) H3 fun σ' Hg => (∃ os', os'.length = k ∧ σ' = σ ++ os') ∧ tc σ' Hg fun b H2 => if b = true then te σ' H2 fun v H3 => ∃ ys, H3 Dd = some (.lst ys) ∧ ys.length < sizeLine ∧ Pv (i + 1) (upd H3 Dd (.lst (ys ++ [v]))) else Pv (i + 1) H2)
    (hd : ∀ H, Pv ds.length H → Rr H) :
    ∃ W : Nat → Nat → Hp → Prop, (∃ m, W 0 m (upd H Dd (.lst []))) ∧ ∀ i m H, W i m H →
      (J.stop i H ∧ Rr H) ∨ (J.go i H ∧ ∃ N : Hp → Prop, (∀ H', N H' → ∃ m', m' < m ∧ W (i + 1) m' H') ∧ ∀ x H', J.yld i H x H' → ∀ os : St, os.length = k → g x (σ ++ os) H' fun σ' Hg => (∃ os', os'.length = k ∧ σ' = σ ++ os') ∧ tc σ' Hg fun b H2 =>
        if b = true then te σ' H2 fun v H3 => ∃ ys, H3 Dd = some (.lst ys) ∧ ys.length < sizeLine ∧ N (upd H3 Dd (.lst (ys ++ [v])))
        else N H2) := by
  refine ⟨fun i m H => m = ds.length - i ∧ i ≤ ds.length ∧ Pv i H, ⟨ds.length, by simp, Nat.zero_le _, h0⟩, ?_⟩
  rintro i m H1 ⟨rfl, hi, p⟩
  obtain ⟨g1, g2, g3⟩ := go H1 (hb i H1 p)
  by_cases hlt : i < ds.length
  · refine .inr ⟨g1 i hlt, Pv (i + 1), fun H' p' => ⟨ds.length - (i + 1), by omega, rfl, hlt, p'⟩, fun x H' y => ?_⟩
    obtain ⟨e, d, B, y1, y2, y3⟩ := g3 i x H' hlt y
    exact hs i d x B H1 H' y1 p e y2 y3
  · have e : i = ds.length := by omega
    subst e
    exact .inl ⟨g2 _ (Nat.le_refl _), hd H1 p⟩
theorem for_gen {J : It} {ds : List D} {Hc H : Hp} {g : TG} {tb : TS} {Dd : Ends} {σ : St} (go : Goes K C J ds Hc) (Pv : Nat → St → Hp → Prop) (h0 : Pv 0 σ H) (hb : ∀ i σ H, Pv i σ H → Same Hc H)
    (hs : ∀ i d x B σ H H3, ds[i]? = some d → Pv i σ H → Same H H3 → Rp K C H3 d x B → (∀ a ∈ B, Hc a ≠ none) → g x σ H3 fun σ2 H2 => tb { Dd with nx := Pv (i + 1), ct := Pv (i + 1), bk := Dd.nx } σ2 H2) (hd : ∀ σ H, Pv ds.length σ H → Dd.nx σ H) :
    ∃ W : Nat → Nat → St → Hp → Prop, (∃ m, W 0 m σ H) ∧ ∀ i m σ H, W i m σ H →
      (J.stop i H ∧ Dd.nx σ H) ∨ (J.go i H ∧ ∃ N : St → Hp → Prop, (∀ σ' H', N σ' H' → ∃ m', m' < m ∧ W (i + 1) m' σ' H') ∧ ∀ x H', J.yld i H x H' → g x σ H' fun σ2 H2 => tb { Dd with nx := N, ct := N, bk := Dd.nx } σ2 H2) := by
  refine ⟨fun i m σ H => m = ds.length - i ∧ i ≤ ds.length ∧ Pv i σ H, ⟨ds.length, by simp, Nat.zero_le _, h0⟩, ?_⟩
  rintro i m σ H1 ⟨rfl, hi, p⟩
  obtain ⟨g1, g2, g3⟩ := go H1 (hb i σ H1 p)
  by_cases hlt : i < ds.length
  · refine .inr ⟨g1 i hlt, Pv (i + 1), fun σ' H' p' => ⟨ds.length - (i + 1), by omega, rfl, hlt, p'⟩, fun x H' y => ?_⟩
    obtain ⟨e, d, B, y1, y2, y3⟩ := g3 i x H' hlt y
    exact hs i d x B σ H1 H' y1 p e y2 y3
  · have e : i = ds.length := by omega
    subst e
    exact .inl ⟨g2 _ (Nat.le_refl _), hd σ H1 p⟩
theorem EnvOk.more {H0 Hb H : Hp} {σ : St} {ρ : DEnv} {A : Nat → List Addr} (I : EnvOk K C H0 Hb H Γ Δ σ ρ A) (os : St) : EnvOk K C H H H [] [] (σ ++ os) (ρ ++ List.replicate os.length none) A := by
  refine ⟨Same.refl _, Same.refl _, by rw [List.length_append, List.length_append, I.len, List.length_replicate], fun i e h => ?_, fun i h => ?_, (fun _ h => nomatch h), (fun _ h => nomatch h), (fun _ h => nomatch h)⟩
  · by_cases hi : i < ρ.length
    · rw [List.getElem?_append_left hi] at h
      obtain ⟨w, q1, q2⟩ := I.rep i e h
      refine ⟨w, ?_, q2⟩
      rw [List.getElem?_append_left (by rw [I.len]; exact hi)]
      exact q1
    · rw [List.getElem?_append_right (by omega)] at h
      have hm := List.mem_of_getElem? h
      rw [List.mem_replicate] at hm
      exact absurd hm.2 (by intro z; cases z)
  · refine I.nil i fun e h' => h e ?_
    rw [List.getElem?_append_left (List.getElem?_eq_some_iff.mp h').1]
    exact h'
noncomputable def NOk (K : PySem.W.Frag) (C : String → Addr) (n k : Nat) (g : TG) (b : FB) : Prop := ∀ (H : Hp) (σ os : St) (ρ : DEnv) (A : Nat → List Addr) (d : D) (v : V) (B : List Addr) (Rr : St → Hp → Prop), σ.length = n → os.length = k → EnvOk K C H H H [] [] (σ ++ os) ρ A → Rp K C H d v B →
  Post (b d ρ) (fun ρ' => ∀ os' A', os'.length = k → EnvOk K C H H H [] [] (σ ++ os') ρ' A' → Rr (σ ++ os') H) (fun _ _ => False) → g v (σ ++ os) H Rr
noncomputable def NsOk (K : PySem.W.Frag) (C : String → Addr) (n k : Nat) (g : TGs) (b : List D → DEnv → R DEnv) : Prop := ∀ (H : Hp) (σ os : St) (ρ : DEnv) (A : Nat → List Addr) (d : List D) (v : List V) (B : List Addr) (Rr : St → Hp → Prop), σ.length = n → os.length = k → EnvOk K C H H H [] [] (σ ++ os) ρ A → RpA K C H d v B →
  Post (b d ρ) (fun ρ' => ∀ os' A', os'.length = k → EnvOk K C H H H [] [] (σ ++ os') ρ' A' → Rr (σ ++ os') H) (fun _ _ => False) → g v (σ ++ os) H Rr
theorem comp_split (k : Nat) (b : FB) (c : FT) (e : FE) (ρ : DEnv) (xs : List D) {i : Nat} {x : D} (h : xs[i]? = some x) : Dl.compN k b c e ρ (xs.drop i) = (b x (ρ ++ List.replicate k none)).calm.bind fun ρ1 => (c ρ1).bind fun t => if t then (e ρ1).bind fun y => (Dl.compN k b c e ρ (xs.drop (i + 1))).bind fun ys => .ok (y :: ys) else Dl.compN k b c e ρ (xs.drop (i + 1)) := by
  obtain ⟨hi, rfl⟩ := List.getElem?_eq_some_iff.mp h
  rw [List.drop_eq_getElem_cons hi]
  rfl
theorem calm_of {α : Type} {r : R α} {ok : α → Prop} {er : String → Option Int → Prop} (h : Post r.calm ok er) : Post r ok (fun _ _ => False) := by
  cases r with
  | ok a => exact h
  | err c x => exact h
  | bad => exact h
theorem get_set {α : Type} {l : List α} {i j : Nat} {x y : α} (h : (l.set i x)[j]? = some y) : (j = i ∧ i < l.length ∧ y = x) ∨ (j ≠ i ∧ l[j]? = some y) := by
  by_cases e : i = j
  · subst e
    rw [List.getElem?_set_self'] at h
    by_cases hi : i < l.length
    · rw [List.getElem?_eq_getElem hi] at h
      simp at h
      exact .inl ⟨rfl, hi, h.symm⟩
    · rw [List.getElem?_eq_none (by omega)] at h
      cases h
  · rw [List.getElem?_set_ne e] at h
    exact .inr ⟨fun z => e z.symm, h⟩
theorem EnvOk.put {H0 Hb H : Hp} {σ : St} {ρ : DEnv} {A : Nat → List Addr} {i : Nat} {d : D} {v : V} {B : List Addr} (I : EnvOk K C H0 Hb H Γ Δ σ ρ A) (r : Rp K C H d v B)
    (h1 : ∀ j ∈ Γ', j ≠ i → j ∈ Γ ∧ ∀ a l, A j = a :: l → a ∉ B)
    (h2 : i ∈ Γ' → (∀ a ∈ B, H0 a = none) ∧ ∀ a l, B = a :: l → Hb a = none ∧ a ∉ l ∧ ∀ j, j ≠ i → a ∉ A j)
    (h3 : ∀ j ∈ Δ', j ≠ i → j ∈ Δ ∧ ∀ a ∈ A j, a ∉ B)
    (h4 : i ∈ Δ' → B.Nodup ∧ (∀ j, j ≠ i → ∀ a ∈ B, a ∉ A j) ∧ ∀ a ∈ B, Hb a = none) : ∃ A', EnvOk K C H0 Hb H Γ' Δ' (σ.set i (some v)) (ρ.set i (some d)) A' ∧ ∀ j a, a ∈ A' j → a ∈ B ∨ a ∈ A j := by
  by_cases hi : i < ρ.length
  · refine ⟨fun j => if j = i then B else A j, ⟨I.s0, I.same, by rw [List.length_set, List.length_set, I.len], fun j e h => ?_, fun j h => ?_, fun j hj a ha => ?_, fun j hj a l e => ?_, fun j hj => ?_⟩, fun j a ha => ?_⟩
    · rcases get_set h with ⟨e1, _, e2⟩ | ⟨e1, e2⟩
      · subst e1
        cases e2
        refine ⟨v, ?_, by rw [if_pos rfl]; exact r⟩
        rw [List.getElem?_set_self (by rw [I.len]; exact hi)]
      · obtain ⟨w, q1, q2⟩ := I.rep j e e2
        refine ⟨w, ?_, by rw [if_neg e1]; exact q2⟩
        rw [List.getElem?_set_ne (fun z => e1 z.symm)]
        exact q1
    · by_cases e : j = i
      · subst e
        exact absurd (List.getElem?_set_self hi) (h d)
      · rw [if_neg e]
        refine I.nil j fun x hx => h x ?_
        rw [List.getElem?_set_ne (fun z => e z.symm)]
        exact hx
    · by_cases e : j = i
      · subst e
        rw [if_pos rfl] at ha
        exact (h2 hj).1 a ha
      · rw [if_neg e] at ha
        exact I.loc j (h1 j hj e).1 a ha
    · by_cases e' : j = i
      · subst e'
        rw [if_pos rfl] at e
        obtain ⟨q0, q1, q2⟩ := (h2 hj).2 a l e
        refine ⟨q0, q1, fun k hk => ?_⟩
        rw [if_neg hk]
        exact q2 k hk
      · rw [if_neg e'] at e
        obtain ⟨q0, q⟩ := h1 j hj e'
        obtain ⟨q3, q1, q2⟩ := I.top j q0 a l e
        refine ⟨q3, q1, fun k hk => ?_⟩
        by_cases ek : k = i
        · rw [if_pos ek]; exact q a l e
        · rw [if_neg ek]; exact q2 k hk
    · by_cases e : j = i
      · subst e
        rw [if_pos rfl]
        obtain ⟨q1, q2, q3⟩ := h4 hj
        refine ⟨q1, fun k hk a ha => ?_, q3⟩
        rw [if_neg hk]
        exact q2 k hk a ha
      · rw [if_neg e]
        obtain ⟨q0, q⟩ := h3 j hj e
        obtain ⟨q1, q2, q3⟩ := I.deep j q0
        refine ⟨q1, fun k hk a ha => ?_, q3⟩
        by_cases ek : k = i
        · rw [if_pos ek]; exact q a ha
        · rw [if_neg ek]; exact q2 k hk a ha
    · have ha : a ∈ (if j = i then B else A j) := ha
      by_cases e : j = i
      · rw [if_pos e] at ha; exact .inl ha
      · rw [if_neg e] at ha; exact .inr ha
  · have e1 : ρ.set i (some d) = ρ := List.set_eq_of_length_le (by omega)
    have e2 : σ.set i (some v) = σ := List.set_eq_of_length_le (by rw [I.len]; omega)
    have e3 : A i = [] := I.nil i fun x h => by
      have := (List.getElem?_eq_some_iff.mp h).1
      omega
    refine ⟨A, ?_, fun j a ha => .inr ha⟩
    rw [e1, e2]
    refine ⟨I.s0, I.same, I.len, I.rep, I.nil, fun j hj a ha => ?_, fun j hj a l e => ?_, fun j hj => ?_⟩
    · by_cases e : j = i
      · subst e; rw [e3] at ha; cases ha
      · exact I.loc j (h1 j hj e).1 a ha
    · by_cases e' : j = i
      · subst e'; rw [e3] at e; cases e
      · exact I.top j (h1 j hj e').1 a l e
    · by_cases e : j = i
      · subst e
        rw [e3]
        exact ⟨List.nodup_nil, fun _ _ _ h => (nomatch h), fun _ h => (nomatch h)⟩
      · exact I.deep j (h3 j hj e).1
theorem EnvOk.writeO {H0 Hb H : Hp} {σ : St} {ρ : DEnv} {A : Nat → List Addr} {i : Nat} {es : List D} {ys : List V} {o' : HO} {d' : D} {B' : List Addr} {a : Addr} {l : List Addr} (I : EnvOk K C H0 Hb H Γ Δ σ ρ A) (hi : i ∈ Γ) (hA : A i = a :: l) (hl : i < ρ.length) (hs : σ[i]? = some (some (.ref a)))
    (mk : ∀ H', H' a = some o' → RpA K C H' es ys B' → Rp K C H' d' (.ref a) (a :: B')) (r : RpA K C H es ys B') (hn : ∀ b ∈ B', H0 b = none) (ha : a ∉ B')
    (h1 : ∀ j ∈ Γ', j ≠ i → j ∈ Γ ∧ ∀ b l, A j = b :: l → b ∉ B')
    (h2 : ∀ j ∈ Δ', j ≠ i → j ∈ Δ ∧ ∀ b ∈ A j, b ∉ B')
    (h3 : i ∈ Δ' → B'.Nodup ∧ (∀ j, j ≠ i → ∀ b ∈ B', b ∉ A j) ∧ ∀ b ∈ B', Hb b = none) : ∃ A', EnvOk K C H0 Hb (upd H a o') Γ' Δ' σ (ρ.set i (some d')) A' := by
  obtain ⟨xs, hxs, hm⟩ := I.is (j := i) (a := a) (by rw [hA]; exact .head _)
  have hne : ∀ j, j ≠ i → a ∉ A j := (I.top i hi a l hA).2.2
  have hb0 : Hb a = none := (I.top i hi a l hA).1
  have h0 : H0 a = none := I.loc i hi a (by rw [hA]; exact .head _)
  have ext : Ext (fun b => b = a) H (upd H a o') := fun b o h => by
    by_cases e : b = a
    · subst e
      rw [hxs] at h
      cases h
      exact .inr ⟨rfl, hm⟩
    · rw [upd_ne e]
      exact .inl h
  refine ⟨fun j => if j = i then a :: B' else A j, I.s0, fun b o h => ?_, by rw [List.length_set, I.len], fun j e h => ?_, fun j h => ?_, fun j hj b hb => ?_, fun j hj b l' e => ?_, fun j hj => ?_⟩
  · rw [upd_ne (ne_of_none h hb0)]
    exact I.same b o h
  · rcases get_set h with ⟨e1, _, e2⟩ | ⟨e1, e2⟩
    · subst e1
      cases e2
      refine ⟨.ref a, hs, ?_⟩
      rw [if_pos rfl]
      exact mk _ upd_same (r.ext ext (fun b hb h => ha (by rw [h] at hb; exact hb)))
    · obtain ⟨w, q1, q2⟩ := I.rep j e e2
      refine ⟨w, q1, ?_⟩
      rw [if_neg e1]
      exact q2.ext ext fun b hb h => hne j e1 (by rw [h] at hb; exact hb)
  · by_cases e : j = i
    · subst e
      exact absurd (List.getElem?_set_self hl) (h _)
    · rw [if_neg e]
      refine I.nil j fun x hx => h x ?_
      rw [List.getElem?_set_ne (fun z => e z.symm)]
      exact hx
  · by_cases e : j = i
    · subst e
      rw [if_pos rfl] at hb
      rcases List.mem_cons.mp hb with z | z
      · rw [z]; exact h0
      · exact hn b z
    · rw [if_neg e] at hb
      exact I.loc j (h1 j hj e).1 b hb
  · by_cases e' : j = i
    · subst e'
      rw [if_pos rfl] at e
      cases e
      refine ⟨hb0, ha, fun k hk => ?_⟩
      rw [if_neg hk]
      exact hne k hk
    · rw [if_neg e'] at e
      obtain ⟨q0, q⟩ := h1 j hj e'
      obtain ⟨q3, q1, q2⟩ := I.top j q0 b l' e
      refine ⟨q3, q1, fun k hk => ?_⟩
      by_cases ek : k = i
      · rw [if_pos ek]
        intro z
        rcases List.mem_cons.mp z with z | z
        · exact hne j e' (by rw [e, z]; exact .head _)
        · exact q b l' e z
      · rw [if_neg ek]; exact q2 k hk
  · by_cases e : j = i
    · subst e
      rw [if_pos rfl]
      obtain ⟨q1, q2, q3⟩ := h3 hj
      refine ⟨List.nodup_cons.mpr ⟨ha, q1⟩, fun k hk b hb => ?_, fun b hb => ?_⟩
      · rw [if_neg hk]
        rcases List.mem_cons.mp hb with z | z
        · rw [z]; exact hne k hk
        · exact q2 k hk b z
      · rcases List.mem_cons.mp hb with z | z
        · rw [z]; exact hb0
        · exact q3 b z
    · rw [if_neg e]
      obtain ⟨q0, q⟩ := h2 j hj e
      obtain ⟨q1, q2, q3⟩ := I.deep j q0
      refine ⟨q1, fun k hk b hb => ?_, q3⟩
      by_cases ek : k = i
      · rw [if_pos ek]
        intro z
        rcases List.mem_cons.mp z with z | z
        · exact hne j e (by rw [← z]; exact hb)
        · exact q b hb z
      · rw [if_neg ek]; exact q2 k hk b hb
theorem EnvOk.write {H0 Hb H : Hp} {σ : St} {ρ : DEnv} {A : Nat → List Addr} {i : Nat} {es : List D} {ys : List V} {B' : List Addr} {a : Addr} {l : List Addr} (I : EnvOk K C H0 Hb H Γ Δ σ ρ A) (hi : i ∈ Γ) (hA : A i = a :: l) (hl : i < ρ.length) (hs : σ[i]? = some (some (.ref a)))
    (r : RpA K C H es ys B') (hn : ∀ b ∈ B', H0 b = none) (ha : a ∉ B')
    (h1 : ∀ j ∈ Γ', j ≠ i → j ∈ Γ ∧ ∀ b l, A j = b :: l → b ∉ B')
    (h2 : ∀ j ∈ Δ', j ≠ i → j ∈ Δ ∧ ∀ b ∈ A j, b ∉ B')
    (h3 : i ∈ Δ' → B'.Nodup ∧ (∀ j, j ≠ i → ∀ b ∈ B', b ∉ A j) ∧ ∀ b ∈ B', Hb b = none) : ∃ A', EnvOk K C H0 Hb (upd H a (.lst ys)) Γ' Δ' σ (ρ.set i (some (.lst es))) A' := I.writeO hi hA hl hs (fun _ q1 q2 => ⟨a, _, _, rfl, q1, q2, rfl⟩) r hn ha h1 h2 h3
theorem nok_name {n k : Nat} (i : Nat) (h1 : n ≤ i) (h2 : i < n + k) : NOk K C n k (gName i) (Dl.bName i) := fun H σ os ρ A d v B Rr hσ hos I r p => by
  have e : (σ ++ os).set i (some v) = σ ++ os.set (i - n) (some v) := by rw [← hσ, List.set_append_right _ _ (by omega)]
  obtain ⟨A', I', _⟩ := I.put (Γ' := []) (Δ' := []) (i := i) r (fun _ h => nomatch h) (fun h => nomatch h) (fun _ h => nomatch h) (fun h => nomatch h)
  show Rr ((σ ++ os).set i (some v)) H
  rw [e] at I' ⊢
  exact p _ A' (by rw [List.length_set]; exact hos) I'
theorem nok_nil {n k : Nat} : NsOk K C n k gNil Dl.bNil := fun H σ os ρ A d v B Rr hσ hos I r p => by
  cases d with
  | nil => exact ⟨r.1, p _ A hos I⟩
  | cons _ _ => exact p.elim
theorem nok_cons {n k : Nat} {g : TG} {gs : TGs} {b : FB} {bs : List D → DEnv → R DEnv} (h1 : NOk K C n k g b) (h2 : NsOk K C n k gs bs) : NsOk K C n k (gCons g gs) (Dl.bCons b bs) := fun H σ os ρ A d v B Rr hσ hos I r p => by
  cases d with
  | nil => exact p.elim
  | cons d ds =>
    obtain ⟨x, l, B1, B2, e1, e2, e3, e4⟩ := r
    subst e1 e4
    exact ⟨x, l, rfl, h1 H σ os ρ A d x B1 _ hσ hos I e2 (Post.imp (Post.bind p) (fun ρ1 q os1 A1 ho1 I1 => h2 H σ os1 ρ1 A1 ds l B2 Rr hσ ho1 I1 e3 q) fun _ _ z => z)⟩
theorem nok_tup {n k : Nat} {gs : TGs} {bs : List D → DEnv → R DEnv} {l : Nat} (hn : ∀ ds ρ ρ', bs ds ρ = .ok ρ' → ds.length = l) (h : NsOk K C n k gs bs) : NOk K C n k (gTup K l gs) (Dl.bTup bs) := fun H σ os ρ A d v B Rr hσ hos I r p => by
  cases d with
  | tup ds =>
    obtain ⟨a, xs, rfl, e2, e3⟩ := r
    have p' : Post (bs ds ρ) (fun ρ' => ∀ os' A', os'.length = k → EnvOk K C H H H [] [] (σ ++ os') ρ' A' → Rr (σ ++ os') H) (fun _ _ => False) := p
    have hl : xs.length = l := by
      rw [e3.len]
      cases e : bs ds ρ with
      | ok ρ' => exact hn ds ρ ρ' e
      | err _ _ => rw [e] at p'; exact p'.elim
      | bad => rw [e] at p'; exact p'.elim
    exact ⟨a, xs, rfl, SqT.of e2, hl, h H σ os ρ A ds xs B Rr hσ hos I e3 p'⟩
  | _ => exact p.elim
theorem eok_comp {n k : Nat} {g : TG} {wi : TI} {tc : TT} {te : TE} {fi : FI} {fb : FB} {fc : FT} {fe : FE} (hi : IOk K C E Γ Δ S wi fi) (hg : NOk K C n k g fb) (hc : TOk K C E0 [] [] tc fc) (he : EOk K C E0 [] [] 2 [] te fe) : EOk K C E Γ Δ 2 [] (tCompN k g wi tc te) (Dl.fComp n k fi fb fc fe) := fun H0 Hb H σ ρ A Q I p => by
  unfold Dl.fComp at p
  split at p
  · rename_i hn
    refine hi H0 Hb H σ ρ A _ I (p.bind.imp (fun ds q J H1 W g1 hW hlen hJ Dd hD => ?_) fun c x q H' g' => q H' g')
    have I1 := I.mono g1
    have go : Goes K C J ds H1 := hJ H1 ⟨fun _ _ => rfl, fun b o h _ => h⟩
    have q' := calm_of q.bind
    refine comp_gen go (fun i H2 => Same H1 H2 ∧ ∃ (us : List D) (ys : List V) (B' : List Addr), H2 Dd = some (.lst ys) ∧ us.length ≤ i ∧ RpA K C H2 us ys B' ∧ B'.Nodup ∧ Dd ∉ B' ∧ (∀ a ∈ B', H1 a = none) ∧
      Post (Dl.compN k fb fc fe ρ (ds.drop i)) (fun zs => ∀ v H', Same H H' → Res K C 2 [] H A (.lst (us ++ zs)) v H' → Q v H') (fun _ _ => False)) ⟨sameNew hD _, [], [], [], upd_same, Nat.le_refl _, RpA.nil, List.nodup_nil, (fun h => nomatch h), (fun _ h => nomatch h), q'⟩ (fun _ _ h => h.1) ?_ ?_
    · rintro i x v Bx H2a H2 hx ⟨g2a, us, ys, B', hD2, hul, ru, nd, hDB, hnew, pq⟩ g2b rx _ os hos
      have g2 := g2a.trans g2b
      have hil := (List.getElem?_eq_some_iff.mp hx).1
      rw [comp_split _ _ _ _ _ _ hx] at pq
      have I2 := (I1.mono g2).more os
      have pq' := calm_of pq.bind
      rw [← hos] at pq'
      refine hg H2 σ os _ A x v Bx _ (by rw [I.len, hn]) hos I2 rx (pq'.imp (fun ρ1 pq os1 A1 ho1 I3 => ⟨⟨os1, ho1, rfl⟩, ?_⟩) fun _ _ z => z)
      refine hc H2 H2 H2 _ _ _ _ I3 (pq.bind.imp (fun b pq H3 g3 => ?_) fun _ _ z => z.elim)
      have hD2' := g2b _ _ hD2
      have ru' := ru.same g2b
      cases b with
      | false =>
        simp only [Bool.false_eq_true, if_false] at pq ⊢
        rw [hos] at pq
        exact ⟨g2.trans g3, us, ys, B', g3 _ _ hD2', by omega, ru'.same g3, nd, hDB, hnew, pq⟩
      | true =>
        simp only [if_true] at pq ⊢
        refine he H2 H2 H3 _ _ _ _ (I3.mono g3) (pq.bind.imp (fun y pq w H4 g4 r4 => ?_) fun _ _ z => z.elim)
        rw [hos] at pq
        obtain ⟨By, ry, hy1, _, hy2⟩ := r4
        have g24 := g3.trans g4
        have hD4 := g24 _ _ hD2'
        have hnewy : ∀ a ∈ By, H3 a = none := fun a ha => (hy1 a ha).elim id fun z => z.none.elim
        have hDy : Dd ∉ By := fun h => by
          have z := hnewy Dd h
          rw [g3 _ _ hD2'] at z
          cases z
        have ext : Ext (fun a => a = Dd) H4 (upd H4 Dd (.lst (ys ++ [w]))) := fun b o h => by
          by_cases e : b = Dd
          · subst e
            rw [hD4] at h
            cases h
            exact .inr ⟨rfl, .lst⟩
          · rw [upd_ne e]
            exact .inl h
        have hDB' : Dd ∉ B' ++ By := fun h => (List.mem_append.mp h).elim hDB hDy
        refine ⟨ys, hD4, ?_, ?_, us ++ [y], ys ++ [w], B' ++ By, upd_same, by rw [List.length_append]; simp; omega, ?_, ?_, hDB', ?_, ?_⟩
        · rw [ru.len]
          exact limLine' (by omega)
        · intro b o h
          have hb : b ≠ Dd := ne_of_none h hD
          rw [upd_ne hb]
          exact (g2.trans g24) b o h
        · exact ((ru'.same g24).app (RpA.one ry)).ext ext fun a ha h => hDB' (by rw [h] at ha; exact ha)
        · refine List.nodup_append.mpr ⟨nd, hy2 rfl, fun a ha b hb e => ?_⟩
          subst e
          obtain ⟨xs, z, _⟩ := (ru'.same g3).isl a ha
          rw [hnewy a hb] at z
          cases z
        · intro a ha
          rcases List.mem_append.mp ha with h | h
          · exact hnew a h
          · exact (g2.trans g3).free (hnewy a h)
        · exact pq.bind.imp (fun zs pq v H' g' r => by
            rw [List.append_assoc] at r
            exact pq v H' g' r) fun _ _ z => z
    · rintro H2 ⟨g2, us, ys, B', hD2, hul, ru, nd, hDB, hnew, pq⟩
      rw [List.drop_length] at pq
      have pq : ∀ v H', Same H H' → Res K C 2 [] H A (.lst (us ++ [])) v H' → Q v H' := pq
      rw [List.append_nil] at pq
      refine pq _ H2 (g1.trans g2) ⟨Dd :: B', ⟨Dd, ys, B', rfl, hD2, ru, rfl⟩, fun a ha => .inl ?_, (fun z => nomatch z), fun _ => List.nodup_cons.mpr ⟨hDB, nd⟩⟩
      rcases List.mem_cons.mp ha with h | h
      · rw [h]; exact g1.free hD
      · exact g1.free (hnew a h)
  · exact p.elim
end
end L2

namespace L2
open PySem PySem.Spec PyProof.Rows
open Dl (D R FE FT FA FO FS FI FB Fl)
section
variable {K : PySem.W.Frag} {C : String → Addr} {E : XK} {Γ Δ Γ' Δ' Γ1 Δ1 Γl Δl Γk Δk : List Nat} {m m1 m2 m3 mr : Nat} {S S1 S2 S3 : List (Nat × Bool)} {H : Hp} {Q : VK}
theorem PostS.weak {H0 Hb : Hp} {D : Ends} {r : R Fl} (h : PostS K C E mr Γl Δl Γ' Δ' H0 Hb D r) (h1 : ∀ i ∈ Γ', i ∈ Γ1) (h2 : ∀ i ∈ Δ', i ∈ Δ1) : PostS K C E mr Γl Δl Γ1 Δ1 H0 Hb D r := by
  unfold PostS at *
  refine Post.imp h (fun fl q => ?_) fun _ _ q => q
  cases fl with
  | nx ρ' => exact fun σ' H' A' I => q σ' H' A' (I.weak h1 h2)
  | ret d => exact q
  | brk ρ' => exact q
  | cnt ρ' => exact q
theorem sok_weak {t : TS} {f : FS} (h : SOk K C E mr Γl Δl Γ Δ Γ1 Δ1 t f) (h1 : autoParam (∀ i ∈ Γ', i ∈ Γ1) aT1._auto_1) (h2 : autoParam (∀ i ∈ Δ', i ∈ Δ1) aT1._auto_1) : SOk K C E mr Γl Δl Γ Δ Γ' Δ' t f := fun H0 Hb H σ ρ A D I p =>
  h H0 Hb H σ ρ A D I (p.weak h1 h2)
theorem sok_nx : SOk K C E mr Γl Δl Γ Δ Γ Δ tNext Dl.sNx := fun _ _ H σ _ A _ I p => p σ H A I
theorem sok_never : SOk K C E mr Γl Δl Γ Δ Γ' Δ' tNever Dl.sNever := fun _ _ _ _ _ _ _ _ p => p.elim
theorem sok_seq {t u : TS} {f g : FS} (h1 : SOk K C E mr Γl Δl Γ Δ Γ1 Δ1 t f) (h2 : SOk K C E mr Γl Δl Γ1 Δ1 Γ' Δ' u g) : SOk K C E mr Γl Δl Γ Δ Γ' Δ' (tSeq t u) (Dl.sSeq f g) := fun H0 Hb H σ ρ A D I p =>
  h1 H0 Hb H σ ρ A _ I (Post.imp (Post.bind p) (fun fl q => by
    cases fl with
    | nx ρ' => exact fun σ' H' A' I' => h2 H0 Hb H' σ' ρ' A' D I' q
    | ret d => exact q
    | brk ρ' => exact q
    | cnt ρ' => exact q) fun _ _ q => q)
theorem Same.from0 {H0 Hb H H' : Hp} {σ : St} {ρ : DEnv} {A : Nat → List Addr} (I : EnvOk K C H0 Hb H Γ Δ σ ρ A) (g : Same H H') : Same H0 H' := I.s0.trans (I.same.trans g)
theorem EnvOk.top_out {H0 Hb H : Hp} {σ : St} {ρ : DEnv} {A : Nat → List Addr} (I : EnvOk K C H0 Hb H Γ Δ σ ρ A) {j : Nat} (hj : j ∈ Γ) (hS : (j, false) ∉ S) {a : Addr} {l : List Addr} (e : A j = a :: l) : ¬ InS A S a := fun h => by
  obtain ⟨q0, q1, q2⟩ := I.top j hj a l e
  obtain ⟨p, hp, q⟩ := h
  split at q
  · by_cases ep : p.1 = j
    · rw [ep, e] at q
      exact q1 q
    · exact q2 p.1 ep (List.mem_of_mem_tail q)
  · rename_i hf
    by_cases ep : p.1 = j
    · refine hS ?_
      have : p = (j, false) := by
        obtain ⟨p1, p2⟩ := p
        simp at ep hf
        rw [ep, hf]
      rw [← this]
      exact hp
    · exact q2 p.1 ep q
theorem EnvOk.deep_out {H0 Hb H : Hp} {σ : St} {ρ : DEnv} {A : Nat → List Addr} (I : EnvOk K C H0 Hb H Γ Δ σ ρ A) {j : Nat} (hj : j ∈ Δ) (hS : ∀ p ∈ S, p.1 ≠ j) {a : Addr} (e : a ∈ A j) : ¬ InS A S a := fun h => by
  obtain ⟨p, hp, q⟩ := h.mem
  exact (I.deep j hj).2.1 p.1 (hS p hp) a e q
theorem sok_set2 {i : Nat} {te : TE} {fe : FE} (he : EOk K C E Γ Δ 2 [] te fe) (h1 : autoParam (∀ j ∈ Γ', j = i ∨ j ∈ Γ) aT1._auto_1) (h2 : autoParam (∀ j ∈ Δ', j = i ∨ j ∈ Δ) aT1._auto_1) : SOk K C E mr Γl Δl Γ Δ Γ' Δ' (tAsg te (gName i)) (Dl.sSet i fe) := fun H0 Hb H σ ρ A D I p =>
  he H0 Hb H σ ρ A _ I (Post.imp (Post.bind p) (fun d q v H1 g1 r => by
    obtain ⟨B, r1, r2, r3, r4⟩ := r
    have hn : ∀ a ∈ B, H a = none := fun a ha => (r2 a ha).elim id fun z => z.none.elim
    have nd := r4 rfl
    obtain ⟨A', I', _⟩ := (I.mono g1).put (Γ' := Γ') (Δ' := Δ') (i := i) r1 (fun j hj e => ⟨(h1 j hj).elim (fun z => absurd z e) id, fun a l e' ha => I.ne (j := j) (by rw [e']; exact .head _) (hn a ha)⟩)
      (fun _ => ⟨fun a ha => I.s0.free (I.same.free (hn a ha)), fun a l e => by subst e; exact ⟨I.same.free (hn a (.head _)), (List.nodup_cons.mp nd).1, fun j _ h => I.ne h (hn a (.head _))⟩⟩)
      (fun j hj e => ⟨(h2 j hj).elim (fun z => absurd z e) id, fun a ha hB => I.ne ha (hn a hB)⟩)
      (fun _ => ⟨nd, fun j _ a ha h => I.ne h (hn a ha), fun a ha => I.same.free (hn a ha)⟩)
    exact q _ H1 A' I') fun c x q H' g' => q H' (Same.from0 I g'))
theorem sok_ret2 {te : TE} {fe : FE} (he : EOk K C E Γ Δ 2 S te fe) (h0 : autoParam (∀ p ∈ S, p.1 ∈ Δ) aT1._auto_1) : SOk K C E 2 Γl Δl Γ Δ Γ' Δ' (tRet te) (Dl.sRet fe) := fun H0 Hb H σ ρ A D I p =>
  he H0 Hb H σ ρ A _ I (Post.imp (Post.bind p) (fun d q v H1 g1 r => by
    obtain ⟨B, r1, r2, r3, r4⟩ := r
    refine q v H1 (Same.from0 I g1) ⟨B, r1, fun a ha => .inl ((r2 a ha).elim (fun z => I.s0.free (I.same.free z)) fun z => ?_), (fun z => nomatch z), r4⟩
    obtain ⟨p, hp, z⟩ := z.mem
    exact I.s0.free ((I.deep p.1 (h0 p hp)).2.2 a z)) fun c x q H' g' => q H' (Same.from0 I g'))
theorem sok_if {tc : TT} {t u : TS} {fc : FT} {f g : FS} (hc : TOk K C E Γ Δ tc fc) (h1 : SOk K C E mr Γl Δl Γ Δ Γ' Δ' t f) (h2 : SOk K C E mr Γl Δl Γ Δ Γ' Δ' u g) : SOk K C E mr Γl Δl Γ Δ Γ' Δ' (tIfS tc t u) (Dl.sIf fc f g) := fun H0 Hb H σ ρ A D I p =>
  hc H0 Hb H σ ρ A _ I (Post.imp (Post.bind p) (fun b q H1 g1 => by
    cases b with
    | true => exact h1 H0 Hb H1 σ ρ A D (I.mono g1) q
    | false => exact h2 H0 Hb H1 σ ρ A D (I.mono g1) q) fun c x q H' g' => q H' (Same.from0 I g'))
theorem slot_lst {H0 Hb H : Hp} {σ : St} {ρ : DEnv} {A : Nat → List Addr} {i : Nat} {ds : List D} (I : EnvOk K C H0 Hb H Γ Δ σ ρ A) (e : ρ[i]? = some (some (.lst ds))) : ∃ a xs l, σ[i]? = some (some (.ref a)) ∧ H a = some (.lst xs) ∧ RpA K C H ds xs l ∧ A i = a :: l ∧ i < ρ.length := by
  obtain ⟨v, q1, a, xs, l, rfl, q3, q4, q5⟩ := I.rep i _ e
  exact ⟨a, xs, l, q1, q3, q4, q5, (List.getElem?_eq_some_iff.mp e).1⟩
theorem sok_app2 {i : Nat} {te : TE} {fe : FE} (hi : autoParam (i ∈ Γ) aT1._auto_1) (he : EOk K C E Γ Δ 2 [] te fe) : SOk K C E mr Γl Δl Γ Δ Γ Δ (tDrop (tBM K "list" rAppend (tVar i) (tCons te tNil))) (Dl.sApp i fe) := fun H0 Hb H σ ρ A D I p => by
  unfold Dl.sApp at p
  split at p
  · rename_i ds e
    obtain ⟨a, xs, l, s1, h1, r1, hA, hl⟩ := slot_lst I e
    refine ⟨.ref a, s1, .inl ⟨rfl, xs, SqL.of h1⟩, he H0 Hb H σ ρ A _ I (Post.imp (Post.bind p) (fun d q v H1 g1 r => ?_) fun c x q H' g' => q H' (Same.from0 I g'))⟩
    split at q
    · rename_i hz
      obtain ⟨B, r2, r3, _, r4⟩ := r
      have hn : ∀ a ∈ B, H a = none := fun a ha => (r3 a ha).elim id fun z => z.none.elim
      have h1' := g1 _ _ h1
      show rAppend (.ref a) [v] H1 fun _ H3 => D.nx σ H3
      refine rd_app h1' (by rw [r1.len]; exact limLine' hz) ?_
      obtain ⟨tb, ta, tt⟩ := I.top i hi a l hA
      have I1 := I.mono g1
      have haB : a ∉ B := fun z => by
        have := hn a z
        rw [h1] at this
        cases this
      have w1 : ∀ b ∈ l ++ B, H0 b = none := fun b hb => by
        rcases List.mem_append.mp hb with z | z
        · exact I.loc i hi b (by rw [hA]; exact .tail _ z)
        · exact I.s0.free (I.same.free (hn b z))
      have w2 : ∀ j ∈ Γ, j ≠ i → j ∈ Γ ∧ ∀ b l', A j = b :: l' → b ∉ l ++ B := fun j hj e => ⟨hj, fun b l' e' z => by
        rcases List.mem_append.mp z with z | z
        · exact (I.top j hj b l' e').2.2 i (fun w => e w.symm) (by rw [hA]; exact .tail _ z)
        · exact I.ne (j := j) (by rw [e']; exact .head _) (hn b z)⟩
      have w3 : ∀ j ∈ Δ, j ≠ i → j ∈ Δ ∧ ∀ b ∈ A j, b ∉ l ++ B := fun j hj e => ⟨hj, fun b hb z => by
        rcases List.mem_append.mp z with z | z
        · exact (I.deep j hj).2.1 i (fun w => e w.symm) b hb (by rw [hA]; exact .tail _ z)
        · exact I.ne hb (hn b z)⟩
      have w4 : i ∈ Δ → (l ++ B).Nodup ∧ (∀ j, j ≠ i → ∀ b ∈ l ++ B, b ∉ A j) ∧ ∀ b ∈ l ++ B, Hb b = none := fun hd => by
        obtain ⟨d1, d2, d3⟩ := I.deep i hd
        rw [hA] at d1 d2 d3
        refine ⟨List.nodup_append.mpr ⟨(List.nodup_cons.mp d1).2, r4 rfl, fun x hx y hy e => ?_⟩, fun j hj b hb => ?_, fun b hb => ?_⟩
        · subst e
          exact I.ne (j := i) (by rw [hA]; exact .tail _ hx) (hn x hy)
        · rcases List.mem_append.mp hb with z | z
          · exact d2 j hj b (.tail _ z)
          · exact fun w => I.ne w (hn b z)
        · rcases List.mem_append.mp hb with z | z
          · exact d3 b (.tail _ z)
          · exact I.same.free (hn b z)
      obtain ⟨A', I'⟩ := I1.write (Γ' := Γ) (Δ' := Δ) hi hA hl s1 ((r1.same g1).app (RpA.one r2)) w1 (fun z => (List.mem_append.mp z).elim ta haB) w2 w3 w4
      exact q _ _ A' I'
    · exact q.elim
  · exact p.elim
end
end L2

namespace L2
open PySem PySem.Spec PyProof.Rows
open Dl (D R FE FT FA FO FS FI FB Fl)
section
variable {K : PySem.W.Frag} {C : String → Addr} {E : XK} {Γ Δ Γ' Δ' Γ1 Δ1 Γl Δl Γk Δk : List Nat} {m m1 m2 m3 mr : Nat} {S S1 S2 S3 : List (Nat × Bool)} {H : Hp} {Q : VK}
noncomputable def BOk (K : PySem.W.Frag) (C : String → Addr) (Γ Δ : List Nat) (g : TG) (b : FB) : Prop := ∀ (H0 Hb H : Hp) (σ : St) (ρ : DEnv) (A : Nat → List Addr) (d : D) (v : V) (B : List Addr) (Rr : St → Hp → Prop), EnvOk K C H0 Hb H Γ Δ σ ρ A → Rp K C H d v B → (∀ a ∈ B, Hb a ≠ none) →
  Post (b d ρ) (fun ρ' => ∀ σ' A', EnvOk K C H0 Hb H Γ Δ σ' ρ' A' → Rr σ' H) (fun _ _ => False) → g v σ H Rr
noncomputable def BsOk (K : PySem.W.Frag) (C : String → Addr) (Γ Δ : List Nat) (g : TGs) (b : List D → DEnv → R DEnv) : Prop := ∀ (H0 Hb H : Hp) (σ : St) (ρ : DEnv) (A : Nat → List Addr) (d : List D) (v : List V) (B : List Addr) (Rr : St → Hp → Prop), EnvOk K C H0 Hb H Γ Δ σ ρ A → RpA K C H d v B → (∀ a ∈ B, Hb a ≠ none) →
  Post (b d ρ) (fun ρ' => ∀ σ' A', EnvOk K C H0 Hb H Γ Δ σ' ρ' A' → Rr σ' H) (fun _ _ => False) → g v σ H Rr
theorem bok_name {i : Nat} (h1 : autoParam (i ∉ Γ) aT1._auto_1) (h2 : autoParam (i ∉ Δ) aT1._auto_1) : BOk K C Γ Δ (gName i) (Dl.bName i) := fun H0 Hb H σ ρ A d v B Rr I r hB p => by
  obtain ⟨A', I', _⟩ := I.put (Γ' := Γ) (Δ' := Δ) (i := i) r (fun j hj e => ⟨hj, fun a l e' ha => hB a ha (I.top j hj a l e').1⟩) (fun hj => absurd hj h1) (fun j hj e => ⟨hj, fun a ha hb => hB a hb ((I.deep j hj).2.2 a ha)⟩) (fun hj => absurd hj h2)
  exact p _ A' I'
theorem bok_nil : BsOk K C Γ Δ gNil Dl.bNil := fun H0 Hb H σ ρ A d v B Rr I r hB p => by
  cases d with
  | nil => exact ⟨r.1, p _ A I⟩
  | cons _ _ => exact p.elim
theorem bok_cons {g : TG} {gs : TGs} {b : FB} {bs : List D → DEnv → R DEnv} (h1 : BOk K C Γ Δ g b) (h2 : BsOk K C Γ Δ gs bs) : BsOk K C Γ Δ (gCons g gs) (Dl.bCons b bs) := fun H0 Hb H σ ρ A d v B Rr I r hB p => by
  cases d with
  | nil => exact p.elim
  | cons d ds =>
    obtain ⟨x, l, B1, B2, e1, e2, e3, e4⟩ := r
    subst e1 e4
    refine ⟨x, l, rfl, h1 H0 Hb H σ ρ A d x B1 _ I e2 (fun a ha => hB a (List.mem_append_left _ ha)) (Post.imp (Post.bind p) (fun ρ1 q σ1 A1 I1 => ?_) fun _ _ z => z)⟩
    exact h2 H0 Hb H σ1 ρ1 A1 ds l B2 Rr I1 e3 (fun a ha => hB a (List.mem_append_right _ ha)) q
theorem bok_tup {gs : TGs} {bs : List D → DEnv → R DEnv} {n : Nat} (hn : ∀ ds ρ ρ', bs ds ρ = .ok ρ' → ds.length = n) (h : BsOk K C Γ Δ gs bs) : BOk K C Γ Δ (gTup K n gs) (Dl.bTup bs) := fun H0 Hb H σ ρ A d v B Rr I r hB p => by
  cases d with
  | tup ds =>
    obtain ⟨a, xs, rfl, e2, e3⟩ := r
    have hl : xs.length = n := by
      rw [e3.len]
      have p' : Post (bs ds ρ) (fun ρ' => ∀ σ' A', EnvOk K C H0 Hb H Γ Δ σ' ρ' A' → Rr σ' H) (fun _ _ => False) := p
      cases e : bs ds ρ with
      | ok ρ' => exact hn ds ρ ρ' e
      | err _ _ => rw [e] at p'; exact p'.elim
      | bad => rw [e] at p'; exact p'.elim
    exact ⟨a, xs, rfl, SqT.of e2, hl, h H0 Hb H σ ρ A ds xs B Rr I e3 hB p⟩
  | _ => exact p.elim
theorem bn_nil (ds : List D) (ρ ρ' : DEnv) (h : Dl.bNil ds ρ = .ok ρ') : ds.length = 0 := by
  cases ds with
  | nil => rfl
  | cons _ _ => cases h
theorem bn_cons {n : Nat} {b : FB} {bs : List D → DEnv → R DEnv} (hb : ∀ ds ρ ρ', bs ds ρ = .ok ρ' → ds.length = n) (ds : List D) (ρ ρ' : DEnv) (h : Dl.bCons b bs ds ρ = .ok ρ') : ds.length = n + 1 := by
  cases ds with
  | nil => cases h
  | cons d ds =>
    have h : ((b d ρ).bind fun ρ' => bs ds ρ') = .ok ρ' := h
    cases e : b d ρ with
    | ok ρ1 =>
      rw [e] at h
      rw [List.length_cons, hb ds ρ1 ρ' h]
    | err _ _ => rw [e] at h; cases h
    | bad => rw [e] at h; cases h
noncomputable def ownAt (A : Nat → List Addr) (Γ Δ : List Nat) : List Addr := Γ.flatMap (fun i => (A i).take 1) ++ Δ.flatMap A
theorem mem_own {A : Nat → List Addr} {a : Addr} (h : a ∈ ownAt A Γ Δ) : (∃ i ∈ Γ, ∃ l, A i = a :: l) ∨ ∃ i ∈ Δ, a ∈ A i := by
  rcases List.mem_append.mp h with h | h
  · obtain ⟨i, hi, h⟩ := List.mem_flatMap.mp h
    left
    refine ⟨i, hi, ?_⟩
    cases e : A i with
    | nil => rw [e] at h; cases h
    | cons b l =>
      rw [e] at h
      simp only [List.take_succ_cons, List.take_zero, List.mem_singleton] at h
      rw [h]
      exact ⟨l, rfl⟩
  · obtain ⟨i, hi, h⟩ := List.mem_flatMap.mp h
    exact .inr ⟨i, hi, h⟩
theorem own_top {A : Nat → List Addr} {i : Nat} (hi : i ∈ Γ) {a : Addr} {l : List Addr} (e : A i = a :: l) : a ∈ ownAt A Γ Δ := List.mem_append_left _ (List.mem_flatMap.mpr ⟨i, hi, by rw [e]; simp⟩)
theorem own_deep {A : Nat → List Addr} {i : Nat} (hi : i ∈ Δ) {a : Addr} (h : a ∈ A i) : a ∈ ownAt A Γ Δ := List.mem_append_right _ (List.mem_flatMap.mpr ⟨i, hi, h⟩)
theorem forD_split (b : FB) (s : FS) (xs : List D) {i : Nat} {x : D} (h : xs[i]? = some x) (ρ : DEnv) : Dl.forD b s (xs.drop i) ρ = (b x ρ).calm.bind fun ρ1 => (s ρ1).bind fun fl => match fl with
    | .nx ρ2 => Dl.forD b s (xs.drop (i + 1)) ρ2
    | .cnt ρ2 => Dl.forD b s (xs.drop (i + 1)) ρ2
    | .brk ρ2 => .ok (.nx ρ2)
    | .ret d => .ok (.ret d) := by
  obtain ⟨hi, rfl⟩ := List.getElem?_eq_some_iff.mp h
  rw [List.drop_eq_getElem_cons hi]
  rfl
theorem sok_for {wi : TI} {g : TG} {tb : TS} {fi : FI} {fb : FB} {fs : FS} (hi : IOk K C E Γ Δ S wi fi) (hb : BOk K C Γl Δl g fb) (hs : SOk K C E mr Γl Δl Γl Δl Γl Δl tb fs)
    (h1 : autoParam (∀ i ∈ Γl, i ∈ Γ) aT1._auto_1) (h2 : autoParam (∀ i ∈ Δl, i ∈ Δ) aT1._auto_1) (h3 : autoParam (∀ p ∈ S, p.1 ∉ Γl ∧ p.1 ∉ Δl) aT1._auto_1) : SOk K C E mr Γk Δk Γ Δ Γl Δl (tFor wi g tb) (Dl.sFor fi fb fs) := fun H0 Hb H σ ρ A D I p => by
  refine hi H0 Hb H σ ρ A _ I (Post.imp (Post.bind p) (fun ds q J H1 W g1 hW hlen hJ => ?_) fun c x q H' g' => q H' (Same.from0 I g'))
  have I1 := (I.mono g1).weak h1 h2
  have hlst : ∀ a ∈ ownAt A Γl Δl, ∃ o, H1 a = some o ∧ IsM o := fun a ha => by
    rcases mem_own ha with ⟨i, _, l, e⟩ | ⟨i, _, e⟩
    · exact I1.is (j := i) (by rw [e]; exact .head _)
    · exact I1.is e
  have hbn : ∀ a ∈ ownAt A Γl Δl, Hb a = none := fun a ha => by
    rcases mem_own ha with ⟨i, hi, l, e⟩ | ⟨i, hi, e⟩
    · exact (I1.top i hi a l e).1
    · exact (I1.deep i hi).2.2 a e
  have hout : ∀ a ∈ W, a ∉ ownAt A Γl Δl := fun a ha ho => by
    rcases (hW a ha).2 with z | z
    · rcases mem_own ho with ⟨i, hi, l, e⟩ | ⟨i, hi, e⟩
      · exact I.ne (j := i) (by rw [e]; exact .head _) z
      · exact I.ne e z
    · rcases mem_own ho with ⟨i, hi, l, e⟩ | ⟨i, hi, e⟩
      · exact I1.top_out hi (fun h => (h3 _ h).1 hi) e z
      · exact I1.deep_out hi (fun p hp e' => (h3 p hp).2 (by rw [e']; exact hi)) e z
  let Hc : Hp := fun b => if b ∈ ownAt A Γl Δl then none else H1 b
  have c1 : Same Hc H1 := fun b o h => by
    show H1 b = some o
    have h : (if b ∈ ownAt A Γl Δl then none else H1 b) = some o := h
    split at h
    · cases h
    · exact h
  have c2 : Same Hb Hc := fun b o h => by
    show (if b ∈ ownAt A Γl Δl then none else H1 b) = some o
    rw [if_neg fun ho => by rw [hbn b ho] at h; cases h]
    exact I1.same b o h
  have c3 : ∀ a, a ∉ ownAt A Γl Δl → Hc a = H1 a := fun a ha => if_neg ha
  have c4 : ∀ a ∈ ownAt A Γl Δl, Hc a = none := fun a ha => if_pos ha
  have I2 : EnvOk K C H0 Hc H1 Γl Δl σ ρ A := ⟨I1.s0.trans c2, c1, I1.len, I1.rep, I1.nil, I1.loc, fun i hi a l e => ⟨c4 a (own_top hi e), (I1.top i hi a l e).2⟩, fun i hi => ⟨(I1.deep i hi).1, (I1.deep i hi).2.1, fun a ha => c4 a (own_deep hi ha)⟩⟩
  have back : ∀ {σ' : St} {ρ' : DEnv} {H' : Hp} {A' : Nat → List Addr}, EnvOk K C H0 Hc H' Γl Δl σ' ρ' A' → EnvOk K C H0 Hb H' Γl Δl σ' ρ' A' := fun I' =>
    ⟨I1.s0, c2.trans I'.same, I'.len, I'.rep, I'.nil, I'.loc, fun i hi a l e => ⟨c2.free (I'.top i hi a l e).1, (I'.top i hi a l e).2⟩, fun i hi => ⟨(I'.deep i hi).1, (I'.deep i hi).2.1, fun a ha => c2.free ((I'.deep i hi).2.2 a ha)⟩⟩
  have go : Goes K C J ds Hc := hJ Hc ⟨fun a ha => c3 a (hout a ha), fun b o h hn => (c3 b fun ho => by
    obtain ⟨xs, e, hm⟩ := hlst b ho
    rw [e] at h
    cases h
    exact hn hm).trans h⟩
  refine for_gen go (fun k σ' H' => ∃ ρ' A', EnvOk K C H0 Hc H' Γl Δl σ' ρ' A' ∧ PostS K C E mr Γk Δk Γl Δl H0 Hb D (Dl.forD fb fs (ds.drop k) ρ')) ⟨ρ, A, I2, q⟩ (fun _ _ _ ⟨_, _, I', _⟩ => I'.same) ?_ ?_
  · rintro k d x Bx σ' Ha H' hd ⟨ρ', A', Ia, pq⟩ ga rx hBx
    have I' := Ia.mono ga
    rw [forD_split _ _ _ hd] at pq
    have pq' := calm_of (Post.bind pq)
    refine hb H0 Hc H' σ' ρ' A' d x Bx _ I' rx hBx (Post.imp pq' (fun ρ1 pq σ1 A1 I1' => ?_) fun _ _ z => z)
    refine hs H0 Hc H' σ1 ρ1 A1 _ I1' (Post.imp (Post.bind pq) (fun fl pq => ?_) fun _ _ z => z)
    cases fl with
    | nx ρ2 => exact fun σ2 H2 A2 I2' => ⟨ρ2, A2, I2', pq⟩
    | cnt ρ2 => exact fun σ2 H2 A2 I2' => ⟨ρ2, A2, I2', pq⟩
    | brk ρ2 => exact fun σ2 H2 A2 I2' => pq σ2 H2 A2 (back I2')
    | ret d => exact pq
  · rintro σ' H' ⟨ρ', A', I', pq⟩
    rw [List.drop_length] at pq
    exact pq σ' H' A' (back I')
theorem start_env {N : Nat} {ds : List D} {vs : List V} {B : List Addr} {H : Hp} (r : RpA K C H ds vs B) : ∃ A, EnvOk K C H H H [] [] (vs.map some ++ List.replicate (N - vs.length) none) (ds.map some ++ List.replicate (N - ds.length) none) A := by
  have hl := r.len
  have key : ∀ {ds : List D} {vs : List V} {B : List Addr}, RpA K C H ds vs B → ∃ A : Nat → List Addr, (∀ (i : Nat) d, ds[i]? = some d → ∃ v, vs[i]? = some v ∧ Rp K C H d v (A i)) ∧ ∀ i, ds.length ≤ i → A i = [] := by
    intro ds
    induction ds with
    | nil => intro vs B r; exact ⟨fun _ => [], fun i d h => by simp at h, fun _ _ => rfl⟩
    | cons d ds ih =>
      intro vs B r
      obtain ⟨x, l, B1, B2, e1, e2, e3, e4⟩ := r
      obtain ⟨A, h1, h2⟩ := ih e3
      subst e1
      refine ⟨fun i => match i with | 0 => B1 | i + 1 => A i, fun i d' h => ?_, fun i h => ?_⟩
      · cases i with
        | zero => simp at h; subst h; exact ⟨x, rfl, e2⟩
        | succ i => simp at h; obtain ⟨v, q1, q2⟩ := h1 i d' h; exact ⟨v, by simpa using q1, q2⟩
      · cases i with
        | zero => simp at h
        | succ i => exact h2 i (by simpa using h)
  obtain ⟨A, h1, h2⟩ := key r
  refine ⟨A, Same.refl _, Same.refl _, by simp [hl], fun i d h => ?_, fun i h => ?_, (fun _ h => nomatch h), (fun _ h => nomatch h), (fun _ h => nomatch h)⟩
  · by_cases hi : i < ds.length
    · rw [List.getElem?_append_left (by simpa using hi), List.getElem?_map] at h
      obtain ⟨d', hd, e⟩ := Option.map_eq_some_iff.mp h
      cases e
      obtain ⟨v, q1, q2⟩ := h1 i d hd
      refine ⟨v, ?_, q2⟩
      rw [List.getElem?_append_left (by simp [hl, hi]), List.getElem?_map, q1]
      rfl
    · rw [List.getElem?_append_right (by simpa using hi)] at h
      have := List.mem_of_getElem? h
      rw [List.mem_replicate] at this
      exact absurd this.2 (by intro z; cases z)
  · by_cases hi : i < ds.length
    · exact absurd (by rw [List.getElem?_append_left (by simpa using hi), List.getElem?_map, List.getElem?_eq_getElem hi]; rfl) (h ds[i])
    · exact h2 i (by omega)
theorem run_post {N : Nat} {t : TS} {f : FS} {E : XK} {ds : List D} {vs : List V} {B : List Addr} {H : Hp} {Q : VK} (h : SOk K C E mr [] [] [] [] Γ' Δ' t f) (r : RpA K C H ds vs B)
    (p : Post (Dl.run N f ds) (fun d => ∀ v H', Same H H' → Res K C mr [] H (fun _ => []) d v H' → Q v H') (fun c x => ∀ H', Same H H' → EC C E c x H')) :
    t { nx := fun _ H' => Q .non H', rt := Q } (vs.map some ++ List.replicate (N - vs.length) none) H := by
  obtain ⟨A, I⟩ := start_env (N := N) r
  refine h H H H _ _ A _ I (Post.imp (Post.bind p) (fun fl q => ?_) fun _ _ q => q)
  cases fl with
  | nx ρ' => exact fun σ' H' A' I' => q _ H' I'.same (Res.flat ⟨rfl, rfl⟩)
  | ret d => exact q
  | brk _ => exact q.elim
  | cnt _ => exact q.elim
end
end L2

namespace L2
open PySem PySem.Spec PyProof.Rows
open Dl (D R FE FT FA FO FS FI FB Fl)
structure JE (X : Cx) (C : String → Addr) (E : XK) (Γ Δ : List Nat) (m : Nat) (S : List (Nat × Bool)) (e : Expr) (t : TE) (f : FE) : Prop where
  q : QE X e t
  o : EOk X.K C E Γ Δ m S t f
structure JT (X : Cx) (C : String → Addr) (E : XK) (Γ Δ : List Nat) (e : Expr) (t : TT) (f : FT) : Prop where
  q : QT X e t
  o : TOk X.K C E Γ Δ t f
structure JW (X : Cx) (C : String → Addr) (E : XK) (Γ Δ : List Nat) (e : Expr) (t : TT) (f : FT) : Prop where
  q : QW X e t
  o : TOk X.K C E Γ Δ t f
structure JA (X : Cx) (C : String → Addr) (E : XK) (Γ Δ : List Nat) (m : Nat) (S : List (Nat × Bool)) (e : List Expr) (n : Nat) (t : TA) (f : FA) : Prop where
  q : QA X e t
  o : AOk X.K C E Γ Δ m S t f
  n : ∀ ρ ds, f ρ = .ok ds → ds.length = n
structure JO (X : Cx) (C : String → Addr) (E : XK) (Γ Δ : List Nat) (e : Option Expr) (t : TO) (f : FO) : Prop where
  q : QO X e t
  o : OOk X.K C E Γ Δ t f
structure JI (X : Cx) (C : String → Addr) (E : XK) (Γ Δ : List Nat) (S : List (Nat × Bool)) (tg e : Expr) (t : TI) (f : FI) : Prop where
  q : QI X tg e t
  o : IOk X.K C E Γ Δ S t f
structure JG (X : Cx) (C : String → Addr) (Γ Δ : List Nat) (e : Expr) (t : TG) (f : FB) : Prop where
  q : QG X e t
  o : BOk X.K C Γ Δ t f
structure JGs (X : Cx) (C : String → Addr) (Γ Δ : List Nat) (es : List Expr) (n : Nat) (t : TGs) (f : List D → DEnv → R DEnv) : Prop where
  q : QGs X es t
  o : BsOk X.K C Γ Δ t f
  n : ∀ ds ρ ρ', f ds ρ = .ok ρ' → ds.length = n
structure JS (X : Cx) (C : String → Addr) (E : XK) (mr : Nat) (Γl Δl Γ Δ Γ' Δ' : List Nat) (s : Stmt) (t : TS) (f : FS) : Prop where
  q : QS X s t
  o : SOk X.K C E mr Γl Δl Γ Δ Γ' Δ' t f
structure JSs (X : Cx) (C : String → Addr) (E : XK) (mr : Nat) (Γl Δl Γ Δ Γ' Δ' : List Nat) (s : List Stmt) (t : TS) (f : FS) : Prop where
  q : QSs X s t
  o : SOk X.K C E mr Γl Δl Γ Δ Γ' Δ' t f
structure JIf (X : Cx) (C : String → Addr) (E : XK) (Γ Δ : List Nat) (e : List Expr) (t : TT) (f : FT) : Prop where
  q : QIf X e t
  o : TOk X.K C E Γ Δ t f
section
variable {X : Cx} {C : String → Addr} {E : XK} {Γ Δ Γ' Δ' Γ1 Δ1 Γl Δl Γk Δk : List Nat} {m m1 m2 m3 mr : Nat} {S S1 S2 S3 : List (Nat × Bool)} {a b c e st o tg iter : Expr} {es rest : List Expr} {ta tb tc te ts : TE} {fa fb fc fe fs : FE} {t : TA} {f : FA} {pos p p2 apos cpos : Pos} {n : Nat}
theorem ce_int {i : Int} {j : Nat} : JE X C E Γ Δ 2 [] (.Constant (.int i) j pos) (tC (.int i)) (Dl.fC (.int i)) := ⟨qe_int, eok_c fun _ => rpI⟩
theorem ce_bl {i : Bool} {j : Nat} : JE X C E Γ Δ 2 [] (.Constant (.bool i) j pos) (tC (.bl i)) (Dl.fC (.bl i)) := ⟨qe_bl, eok_c fun _ => rpB⟩
theorem ce_non {j : Nat} : JE X C E Γ Δ 2 [] (.Constant .none j pos) (tC .non) (Dl.fC .non) := ⟨qe_non, eok_c fun _ => ⟨rfl, rfl⟩⟩
theorem ce_str {x : Str} {j : Nat} (h : PyData.strOk x = true := by decide +kernel) : JE X C E Γ Δ 2 [] (.Constant (.str x) j pos) (tC (.str x)) (Dl.fC (.str x)) := ⟨qe_str, eok_c fun _ => ⟨rfl, h, rfl⟩⟩
theorem ce_v (i : Nat) {x : Str} (hN : autoParam (X.N[i]? = some x) aT2._auto_1) (hv : autoParam (Vis X.env.scope x) aT3._auto_1) (hd : autoParam ((x == ("__debug__" : Str)) = false) aT1._auto_1)
    (hcd : autoParam ((x == ("__classdict__" : Str)) = false) aT1._auto_1) : JE X C E Γ Δ 0 [(i, false)] (.Name x pos) (tVar i) (Dl.fV i) := ⟨qv i hN hv hd hcd, eok_v⟩
theorem ce_vd (i : Nat) {x : Str} (hi : autoParam (i ∈ Δ) aT1._auto_1) (hN : autoParam (X.N[i]? = some x) aT2._auto_1) (hv : autoParam (Vis X.env.scope x) aT3._auto_1) (hd : autoParam ((x == ("__debug__" : Str)) = false) aT1._auto_1)
    (hcd : autoParam ((x == ("__classdict__" : Str)) = false) aT1._auto_1) : JE X C E Γ Δ 2 [(i, false)] (.Name x pos) (tVar i) (Dl.fV i) := ⟨qv i hN hv hd hcd, eok_vd hi⟩
theorem ce_flat (h : JE X C E Γ Δ m S e te fe) : JE X C E Γ Δ 2 [] e te (Dl.f1 Dl.gFlat fe) := ⟨h.q, eok_flat h.o⟩
theorem ce_op {op : Operator} {r : R2} {g : D → D → Option D} (ho : OpR X (binaryOp op) r) (hg : GOk X.K C r g) (ha : JE X C E Γ Δ m1 S1 a ta fa) (hb : JE X C E Γ Δ m2 S2 b tb fb) : JE X C E Γ Δ 2 [] (.BinOp a op b pos) (tOp r ta tb) (Dl.f2 g fa fb) := ⟨qe_op ho ha.q hb.q, eok_op hg ha.o hb.o⟩
theorem ce_neg (ha : JE X C E Γ Δ m1 S1 a ta fa) : JE X C E Γ Δ 2 [] (.UnaryOp .USub a pos) (tUn (rU fun i => .int (-i)) ta) (Dl.f1 Dl.gNeg fa) := ⟨qe_un un_neg ha.q, eok_un (fun H x d vx Bx Q r e q => by
  unfold Dl.gNeg at e
  split at e
  · cases e
    obtain ⟨rfl, _⟩ := r
    exact rd_U (Out.flat q rpI)
  · cases e) ha.o⟩
theorem ce_cmp {op : CmpOp} {r : R2} {g : D → D → Option D} (ho : OpR X (compareOp op) r) (hg : GOk X.K C r g) (ha : JE X C E Γ Δ m1 S1 a ta fa) (hb : JE X C E Γ Δ m2 S2 b tb fb) (hm : behindInMarks op b = false) : JE X C E Γ Δ 2 [] (.Compare a [op] [b] pos) (tOp r ta tb) (Dl.f2 g fa fb) := ⟨qe_cmpR ho ha.q hb.q hm, eok_op hg ha.o hb.o⟩
theorem ct_cmp {op : CmpOp} {r : R2} {g : D → D → Option D} (ho : OpR X (compareOp op) r) (hg : GOk X.K C r g) (ha : JE X C E Γ Δ m1 S1 a ta fa) (hb : JE X C E Γ Δ m2 S2 b tb fb) (hm : behindInMarks op b = false) : JT X C E Γ Δ (.Compare a [op] [b] pos) (tTest (tOp r ta tb)) (Dl.cE (Dl.f2 g fa fb)) := ⟨qt_cmpR ho ha.q hb.q hm, tok_test (eok_op hg ha.o hb.o)⟩
theorem ce_chain {op op' : CmpOp} {r r' : R2} {g g' : D → D → Option D} (ho : OpR X (compareOp op) r) (ho' : OpR X (compareOp op') r') (hg : GOk X.K C r g) (hg' : GOk X.K C r' g') (hbl : ∀ {x y d}, g x y = some d → ∃ b, d = .bl b) (ha : JE X C E Γ Δ m1 S1 a ta fa) (hb : JE X C E Γ Δ m2 S2 b tb fb) (hc : JE X C E Γ Δ m3 S3 c tc fc)
    (hm : lastMarks [op, op'] [b, c] = false := by with_unfolding_all rfl) : JE X C E Γ Δ 2 [] (.Compare a [op, op'] [b, c] pos) (tChain r r' ta tb tc) (Dl.fChain g g' fa fb fc) := ⟨qe_chain ho ho' ha.q hb.q hc.q hm, eok_chain hg hg' (fun _ _ _ => hbl) ha.o hb.o hc.o⟩
theorem ct_chain {op op' : CmpOp} {r r' : R2} {g g' : D → D → Option D} (ho : OpR X (compareOp op) r) (ho' : OpR X (compareOp op') r') (hg : GOk X.K C r g) (hg' : GOk X.K C r' g') (hbl : ∀ {x y d}, g x y = some d → ∃ b, d = .bl b) (ha : JE X C E Γ Δ m1 S1 a ta fa) (hb : JE X C E Γ Δ m2 S2 b tb fb) (hc : JE X C E Γ Δ m3 S3 c tc fc)
    (hm : lastMarks [op, op'] [b, c] = false := by with_unfolding_all rfl) : JT X C E Γ Δ (.Compare a [op, op'] [b, c] pos) (tTest (tChain r r' ta tb tc)) (Dl.cE (Dl.fChain g g' fa fb fc)) := ⟨qt_chain ho ho' ha.q hb.q hc.q hm, tok_test (eok_chain hg hg' (fun _ _ _ => hbl) ha.o hb.o hc.o)⟩
theorem ce_one {op : BoolOp} (h : JE X C E Γ Δ m S a ta fa) : JE X C E Γ Δ m S (.BoolOp op [a] pos) ta fa := ⟨qe_one h.q, h.o⟩
theorem ce_and (ha : JE X C E Γ Δ m1 S1 a ta fa) (hb : JE X C E Γ Δ m S (.BoolOp .And (b :: rest) pos) tb fb) : JE X C E Γ Δ m S (.BoolOp .And (a :: b :: rest) pos) (tAndV ta tb) (Dl.fAnd fa fb) := ⟨qe_and ha.q hb.q, eok_and ha.o hb.o⟩
theorem ce_or (ha : JE X C E Γ Δ m1 S1 a ta fa) (hb : JE X C E Γ Δ m S (.BoolOp .Or (b :: rest) pos) tb fb) : JE X C E Γ Δ m S (.BoolOp .Or (a :: b :: rest) pos) (tOrV ta tb) (Dl.fOr fa fb) := ⟨qe_or ha.q hb.q, eok_or ha.o hb.o⟩
theorem ce_not (ha : JE X C E Γ Δ m1 S1 a ta fa) : JE X C E Γ Δ 2 [] (.UnaryOp .Not a pos) (tNotV ta) (Dl.f1 Dl.gNot fa) := ⟨qe_not ha.q, eok_not ha.o⟩
theorem ce_if {tA : TT} {fA : FT} (hc : JT X C E Γ Δ c tA fA) (ha : JE X C E Γ Δ m S a ta fa) (hb : JE X C E Γ Δ m S b tb fb) : JE X C E Γ Δ m S (.IfExp c a b pos) (tIf tA ta tb) (Dl.fIf fA fa fb) := ⟨qe_ifExp hc.q ha.q hb.q, eok_if hc.o ha.o hb.o⟩
theorem ct_val (h : JE X C E Γ Δ m S e te fe) (he : ∀ whole, isTrue e X.env whole = (do let v ← whole; standAt e.pos; holding [v] (truthy v)) := by intro _; rfl) : JT X C E Γ Δ e (tB te) (Dl.cE fe) := ⟨qt_val h.q he, tok_B h.o⟩
theorem ct_not {tA : TT} {fA : FT} (ha : JT X C E Γ Δ a tA fA) : JT X C E Γ Δ (.UnaryOp .Not a pos) (tNot tA) (Dl.cNot fA) := ⟨qt_not ha.q, tok_not ha.o⟩
theorem cw_or1 {tA : TT} {fA : FT} (ha : JT X C E Γ Δ a tA fA) : JW X C E Γ Δ (.BoolOp .Or [a] pos) tA fA := ⟨qw_or1 ha.q, ha.o⟩
theorem cw_or {tA tB' : TT} {fA fB : FT} (ha : JT X C E Γ Δ a tA fA) (hb : JW X C E Γ Δ (.BoolOp .Or (b :: rest) pos) tB' fB) : JW X C E Γ Δ (.BoolOp .Or (a :: b :: rest) pos) (tOr tA tB') (Dl.cOr fA fB) := ⟨qw_or ha.q hb.q, tok_or ha.o hb.o⟩
theorem ct_w {tA : TT} {fA : FT} (h : JW X C E Γ Δ a tA fA) : JT X C E Γ Δ a tA fA := ⟨qt_w h.q, h.o⟩
theorem ca_nil : JA X C E Γ Δ 2 [] [] 0 tNil Dl.aNil := ⟨qa_nil, aok_nil, len_nil⟩
theorem ca_cons (ha : JE X C E Γ Δ m1 S1 e te fe) (hr : JA X C E Γ Δ m2 S2 es n t f) (hs : starEach (e :: es) X.env = (false, eval e X.env) :: starEach es X.env) : JA X C E Γ Δ 0 (S1 ++ S2) (e :: es) (n + 1) (tCons te t) (Dl.aCons fe f) := ⟨qa_cons ha.q hr.q hs, aok_cons ha.o hr.o, len_cons hr.n⟩
theorem ca_cons2 (ha : JE X C E Γ Δ 2 [] e te fe) (hr : JA X C E Γ Δ 2 [] es n t f) (hs : starEach (e :: es) X.env = (false, eval e X.env) :: starEach es X.env) : JA X C E Γ Δ 2 [] (e :: es) (n + 1) (tCons te t) (Dl.aCons fe f) :=
  ⟨qa_cons ha.q hr.q hs, aok_consD (S1 := []) (S2 := []) ha.o hr.o (fun _ h => nomatch h) (fun _ h => nomatch h), len_cons hr.n⟩
theorem ce_tup {x1 : Nat} (h : JA X C E Γ Δ 2 S es n t f) : JE X C E Γ Δ 2 S (.Tuple es x1 pos) (tTup t) (Dl.fA Dl.gTup f) := ⟨qe_tup h.q, eok_tup (.inr rfl) h.o⟩
theorem ce_lst (h : JA X C E Γ Δ 2 S es n t f) : JE X C E Γ Δ 2 S (.List es pos) (tLst t) (Dl.fA Dl.gLst f) := ⟨qe_lst h.q, eok_lst h.o⟩
theorem ce_lst1 (h : JA X C E Γ Δ m S es n t f) : JE X C E Γ Δ 1 S (.List es pos) (tLst t) (Dl.fA Dl.gLst f) := ⟨qe_lst h.q, eok_lst1 h.o⟩
theorem ce_ix (K : PySem.W.Frag) (ha : JE X C E Γ Δ m1 S1 a ta fa) (hb : JE X C E Γ Δ m2 S2 b tb fb) (hs : PlainIx b) (hK : autoParam (X.K = K) aT2._auto_1) : JE X C E Γ Δ 0 S1 (.Subscript a b pos) (tOp (rIx K) ta tb) (Dl.f2 Dl.gIx fa fb) := by
  subst hK
  exact ⟨qe_ix ix_seq ha.q hb.q hs, eok_ix ha.o hb.o⟩
theorem co_none : JO X C E Γ Δ none tNoPart Dl.oNone := ⟨qo_none, ook_none⟩
theorem co_some (h : JE X C E Γ Δ m S e te fe) : JO X C E Γ Δ (some e) (tPart te) (Dl.oSome fe) := ⟨qo_some h.q, ook_some h.o⟩
theorem ce_sl (K : PySem.W.Frag) {lo hi : Option Expr} {tl th : TO} {fl fh : FO} (he : JE X C E Γ Δ m S e te fe) (hl : JO X C E Γ Δ lo tl fl) (hu : JO X C E Γ Δ hi th fh) (hK : autoParam (X.K = K) aT2._auto_1) : JE X C E Γ Δ 2 [] (.Subscript e (.Slice lo hi none p2) pos) (tSl (rSlL K) te tl th) (Dl.fSl Dl.gSl fe fl fh) := by
  subst hK
  exact ⟨qe_slice sl_list he.q hl.q hu.q, eok_sl he.o hl.o hu.o⟩
theorem ce_call {K : PySem.W.Frag} {CX : CXT} {k : Nat} {ps : List Str} {F : List D → R D} {x : Str} (Df : Def X.prog X.w X.K X.mg X.base CX k x ps (spD K C n mr F)) (hr : Room k X.A) (hg : Gl X x) (hx : Passes CX X E)
    (ha : JA X C E Γ Δ m S (e :: es) n t f) (hdb : autoParam ((x == ("__debug__" : Str)) = false) aT1._auto_1) (he : autoParam (starEach (e :: es) X.env = (false, eval e X.env) :: starEach es X.env) aT2._auto_1) (hpl : autoParam ((backTo pos (starEach es X.env)).any (·.1) = false) aT2._auto_1) (hK : autoParam (X.K = K) aT2._auto_1) :
    JE X C E Γ Δ mr [] (.Call (.Name x p) (e :: es) [] pos) (tCall (spD K C n mr F) [] E t) (Dl.fCall F f) := by
  subst hK
  exact ⟨qe_callD Df hr hg hx ha.q hdb he hpl, eok_call ha.o ha.n⟩
theorem ce_callB {x : Str} {id : String} {r : List V → Hp → VK → Prop} {g : List D → Option D} (hc : CallR X (.builtin id) r) (hgk : GAk X.K C r g) (hg : Gl X x) (hm : X.mg x = none) (hv : bootBuiltins x = some (.builtin id)) (ha : JA X C E Γ Δ m S (e :: es) n t f) (hn : autoParam (x ≠ "__name__") aT1._auto_1) (hdb : autoParam ((x == ("__debug__" : Str)) = false) aT1._auto_1)
    (he : autoParam (starEach (e :: es) X.env = (false, eval e X.env) :: starEach es X.env) aT2._auto_1) (hpl : autoParam ((backTo pos (starEach es X.env)).any (·.1) = false) aT2._auto_1) : JE X C E Γ Δ 2 [] (.Call (.Name x p) (e :: es) [] pos) (tCB r t) (Dl.fA g f) := ⟨qe_callB hc hg hm hv ha.q hn hdb he hpl, eok_cb hgk ha.o⟩
theorem ce_callTy {x : Str} {T : String} {r : List V → Hp → VK → Prop} {g : List D → Option D} (hc : CallR X (.type T) r) (hgk : GAk X.K C r g) (hg : Gl X x) (hm : X.mg x = none) (hv : bootBuiltins x = some (.type T)) (ha : JA X C E Γ Δ m S (e :: es) n t f) (hn : autoParam (x ≠ "__name__") aT1._auto_1) (hdb : autoParam ((x == ("__debug__" : Str)) = false) aT1._auto_1)
    (he : autoParam (starEach (e :: es) X.env = (false, eval e X.env) :: starEach es X.env) aT2._auto_1) (hpl : autoParam ((backTo pos (starEach es X.env)).any (·.1) = false) aT2._auto_1) : JE X C E Γ Δ 2 [] (.Call (.Name x p) (e :: es) [] pos) (tCB r t) (Dl.fA g f) := ⟨qe_callTy hc hg hm hv ha.q hn hdb he hpl, eok_cb hgk ha.o⟩
theorem ci_list (h : JE X C E Γ Δ m S e te fe) : JI X C E Γ Δ S tg e (iList X.K te) (Dl.jList fe) := ⟨qi_list h.q, iok_list h.o⟩
theorem ci_tup (h : JE X C E Γ Δ m S e te fe) : JI X C E Γ Δ S tg e (iTup X.K te) (Dl.jTup fe) := ⟨qi_tup h.q, iok_tup h.o⟩
theorem ci_rng1 (hg : Gl X "range") (hm : X.mg "range" = none) (ha : JA X C E Γ Δ m S [a] n t f) (hs : autoParam (starEach [a] X.env = [(false, eval a X.env)]) aT2._auto_1) : JI X C E Γ Δ [] tg (.Call (.Name "range" p) [a] [] pos) (iRng1 t) (Dl.jRng1 f) := ⟨qi_range1 hg hm ha.q hs, iok_rng1 ha.o⟩
theorem cg_name {i : Nat} {x : Str} (h1 : autoParam (i ∉ Γ) aT1._auto_1) (h2 : autoParam (i ∉ Δ) aT1._auto_1) (hN : X.N.Nodup) (hi : X.N[i]? = some x) (hx : Loc X.env.scope x) (hf : autoParam (X.fn x = true ∨ X.env.scope.names.lookup x = some .local) aT0._auto_1) : JG X C Γ Δ (.Name x pos) (gName i) (Dl.bName i) := ⟨qg_name hN hi hx hf, bok_name h1 h2⟩
theorem cgs_nil : JGs X C Γ Δ [] 0 gNil Dl.bNil := ⟨qgs_nil, bok_nil, bn_nil⟩
theorem cgs_cons {tt : TG} {u : TGs} {fb : FB} {fu : List D → DEnv → R DEnv} (h1 : JG X C Γ Δ e tt fb) (h2 : JGs X C Γ Δ es n u fu) (hs : autoParam ((assignEach (e :: es) X.env).map (·.2) = assign e X.env :: (assignEach es X.env).map (·.2)) aT2._auto_1) : JGs X C Γ Δ (e :: es) (n + 1) (gCons tt u) (Dl.bCons fb fu) := ⟨qgs_cons h1.q h2.q hs, bok_cons h1.o h2.o, bn_cons h2.n⟩
theorem cg_tup {k : Nat} {u : TGs} {fu : List D → DEnv → R DEnv} (hc : X.calm = true) (h : JGs X C Γ Δ es n u fu) (hn : autoParam ((assignEach es X.env).length = n) aT2._auto_1) (hst : autoParam ((assignEach es X.env).findIdx? (·.1) = none) aT2._auto_1) : JG X C Γ Δ (.Tuple es k pos) (gTup X.K n u) (Dl.bTup fu) := ⟨qg_tup hc h.q hn hst, bok_tup h.n h.o⟩
theorem cif_nil : JIf X C E Γ Δ [] tYes Dl.cYes := ⟨qif_nil, tok_yes⟩
structure JB (X : Cx) (C : String → Addr) (n k : Nat) (e : Expr) (t : TG) (f : FB) : Prop where
  q : QG X e t
  o : NOk X.K C n k t f
structure JBs (X : Cx) (C : String → Addr) (n k : Nat) (es : List Expr) (l : Nat) (t : TGs) (f : List D → DEnv → R DEnv) : Prop where
  q : QGs X es t
  o : NsOk X.K C n k t f
  n : ∀ ds ρ ρ', f ds ρ = .ok ρ' → ds.length = l
theorem cb_name {k : Nat} (i : Nat) {x : Str} (hN : X.N.Nodup := by decide +kernel) (hi : autoParam (X.N[i]? = some x) aT2._auto_1) (hx : Loc X.env.scope x := by exact .inl rfl) (hf : X.fn x = true ∨ X.env.scope.names.lookup x = some .local := by exact .inr rfl) (h1 : autoParam (n ≤ i) aT1._auto_1) (h2 : autoParam (i < n + k) aT1._auto_1) : JB X C n k (.Name x pos) (gName i) (Dl.bName i) := ⟨qg_name hN hi hx hf, nok_name i h1 h2⟩
theorem cbs_nil {k : Nat} : JBs X C n k [] 0 gNil Dl.bNil := ⟨qgs_nil, nok_nil, bn_nil⟩
theorem cbs_cons {k l : Nat} {tt : TG} {u : TGs} {fb : FB} {fu : List D → DEnv → R DEnv} (h1 : JB X C n k e tt fb) (h2 : JBs X C n k es l u fu) (hs : autoParam ((assignEach (e :: es) X.env).map (·.2) = assign e X.env :: (assignEach es X.env).map (·.2)) aT2._auto_1) : JBs X C n k (e :: es) (l + 1) (gCons tt u) (Dl.bCons fb fu) := ⟨qgs_cons h1.q h2.q hs, nok_cons h1.o h2.o, bn_cons h2.n⟩
theorem cb_tup (K : PySem.W.Frag) {k l kk : Nat} {u : TGs} {fu : List D → DEnv → R DEnv} (h : JBs X C n k es l u fu) (hc : autoParam (X.calm = true) aT2._auto_1) (hn : autoParam ((assignEach es X.env).length = l) aT2._auto_1) (hst : autoParam ((assignEach es X.env).findIdx? (·.1) = none) aT2._auto_1) (hK : autoParam (X.K = K) aT2._auto_1) : JB X C n k (.Tuple es kk pos) (gTup K l u) (Dl.bTup fu) := by
  subst hK
  exact ⟨qg_tup hc h.q hn hst, nok_tup h.n h.o⟩
theorem ce_comp {elt : Expr} {ifs : List Expr} {sc : Scope} {wi : TI} {tc : TT} {gg : TG} {fi : FI} {fc : FT} {fg : FB} (esc : Scope) (N N2 xs : List Str) (B : BlkN sc esc xs N N2) (hi : JI X C E Γ Δ S tg iter wi fi) (hg : ∀ cl C' s0 H0 fp, JB (X.blkN N2 xs sc cl C' s0 H0 fp) C n xs.length tg gg fg) (ht : ∀ cl C' s0 H0 fp, JIf (X.blkN N2 xs sc cl C' s0 H0 fp) C E0 [] [] ifs tc fc) (he : ∀ cl C' s0 H0 fp, JE (X.blkN N2 xs sc cl C' s0 H0 fp) C E0 [] [] 2 [] elt te fe)
    (hesc : autoParam (X.env.scope = esc) aT2._auto_1) (hN : autoParam (X.N = N) aT2._auto_1) (hc : autoParam (X.calm = true) aT2._auto_1) (hs : ∀ v, foldedSetIterable iter X.env v = pure v := by intro _; rfl) : JE X C E Γ Δ 2 [] (.ListComp elt [⟨tg, iter, ifs, 0⟩] sc pos) (tCompN xs.length gg wi tc te) (Dl.fComp n xs.length fi fg fc fe) :=
  ⟨qe_compN esc N N2 xs B hi.q (fun cl C' s0 H0 fp => (hg cl C' s0 H0 fp).q) (fun cl C' s0 H0 fp => (ht cl C' s0 H0 fp).q) (fun cl C' s0 H0 fp => (he cl C' s0 H0 fp).q) hesc hN hc hs, eok_comp hi.o (hg [] 0 X.s₀ X.H₀ []).o (ht [] 0 X.s₀ X.H₀ []).o (he [] 0 X.s₀ X.H₀ []).o⟩
variable {s1 : Stmt} {ss body other : List Stmt} {u v : TS} {g h : FS} {pos' : Pos}
theorem css_nil : JSs X C E mr Γl Δl Γ Δ Γ Δ [] tNext Dl.sNx := ⟨qss_nil, sok_nx⟩
theorem css_cons (Γ1 Δ1 : List Nat) (h1 : JS X C E mr Γl Δl Γ Δ Γ1 Δ1 s1 u g) (h2 : JSs X C E mr Γl Δl Γ1 Δ1 Γ' Δ' ss v h) : JSs X C E mr Γl Δl Γ Δ Γ' Δ' (s1 :: ss) (tSeq u v) (Dl.sSeq g h) := ⟨qss_cons h1.q h2.q, sok_seq h1.o h2.o⟩
theorem css_one (h1 : JS X C E mr Γl Δl Γ Δ Γ' Δ' s1 u g) : JSs X C E mr Γl Δl Γ Δ Γ' Δ' [s1] u g := ⟨qss_one h1.q, h1.o⟩
theorem css_weak (Γ1 Δ1 : List Nat) (h : JSs X C E mr Γl Δl Γ Δ Γ1 Δ1 ss u g) (h1 : autoParam (∀ i ∈ Γ', i ∈ Γ1) aT1._auto_1) (h2 : autoParam (∀ i ∈ Δ', i ∈ Δ1) aT1._auto_1) : JSs X C E mr Γl Δl Γ Δ Γ' Δ' ss u g := ⟨h.q, sok_weak h.o h1 h2⟩
theorem cs_never : JS X C E mr Γl Δl Γ Δ Γ' Δ' s1 tNever Dl.sNever := ⟨qs_never, sok_never⟩
theorem cs_ret (he : JE X C E Γ Δ 2 S e te fe) (h0 : autoParam (∀ p ∈ S, p.1 ∈ Δ) aT1._auto_1) : JS X C E 2 Γl Δl Γ Δ Γ' Δ' (.Return (some e) pos) (tRet te) (Dl.sRet fe) := ⟨qs_ret he.q, sok_ret2 he.o h0⟩
theorem cs_if {tA : TT} {fA : FT} (hc : JT X C E Γ Δ c tA fA) (ha : JSs X C E mr Γl Δl Γ Δ Γ' Δ' body u g) (hb : JSs X C E mr Γl Δl Γ Δ Γ' Δ' other v h) : JS X C E mr Γl Δl Γ Δ Γ' Δ' (.If c body other pos) (tIfS tA u v) (Dl.sIf fA g h) := ⟨qs_if hc.q ha.q hb.q, sok_if hc.o ha.o hb.o⟩
theorem cs_set {i : Nat} {x : Str} (hN : X.N.Nodup) (hi : X.N[i]? = some x) (hx : Loc X.env.scope x) (he : JE X C E Γ Δ 2 [] e te fe) (hs : autoParam (swapsWith e (some (.Name x pos')) pos.line X.env = pure false) aT2._auto_1) (hf : autoParam (X.fn x = true ∨ X.env.scope.names.lookup x = some .local) aT0._auto_1)
    (h1 : autoParam (∀ j ∈ Γ', j = i ∨ j ∈ Γ) aT1._auto_1) (h2 : autoParam (∀ j ∈ Δ', j = i ∨ j ∈ Δ) aT1._auto_1) : JS X C E mr Γl Δl Γ Δ Γ' Δ' (.Assign [.Name x pos'] e pos) (tAsg te (gName i)) (Dl.sSet i fe) := ⟨qs_set hN hi hx he.q hs hf, sok_set2 he.o h1 h2⟩
theorem cs_setC {elt : Expr} {y : Str} {py spos : Pos} {ifs : List Expr} {sc : Scope} {wi : TI} {tc : TT} {gg : TG} {fi : FI} {fc : FT} {fg : FB} {i : Nat} (esc : Scope) (N N2 xs : List Str) (B : BlkN sc esc xs N N2) (hy : N[i]? = some y) (hl : esc.names.lookup y = some .local) (hi : JI X C E Γ Δ S tg iter wi fi) (hg : ∀ cl C' s0 H0 fp, JB (X.blkN N2 xs sc cl C' s0 H0 fp) C n xs.length tg gg fg) (ht : ∀ cl C' s0 H0 fp, JIf (X.blkN N2 xs sc cl C' s0 H0 fp) C E0 [] [] ifs tc fc) (he : ∀ cl C' s0 H0 fp, JE (X.blkN N2 xs sc cl C' s0 H0 fp) C E0 [] [] 2 [] elt te fe)
    (hesc : autoParam (X.env.scope = esc) aT2._auto_1) (hN : autoParam (X.N = N) aT2._auto_1) (hc : autoParam (X.calm = true) aT2._auto_1) (hsw : autoParam (swapsWith (.ListComp elt [⟨tg, iter, ifs, 0⟩] sc pos) (some (.Name y py)) spos.line X.env = pure true) aT2._auto_1) (hs : ∀ v, foldedSetIterable iter X.env v = pure v := by intro _; rfl)
    (h1 : autoParam (∀ j ∈ Γ', j = i ∨ j ∈ Γ) aT1._auto_1) (h2 : autoParam (∀ j ∈ Δ', j = i ∨ j ∈ Δ) aT1._auto_1) : JS X C E mr Γl Δl Γ Δ Γ' Δ' (.Assign [.Name y py] (.ListComp elt [⟨tg, iter, ifs, 0⟩] sc pos) spos) (tAsg (tCompN xs.length gg wi tc te) (gName i)) (Dl.sSet i (Dl.fComp n xs.length fi fg fc fe)) :=
  ⟨qs_compN esc N N2 xs B hy hl hi.q (fun cl C' s0 H0 fp => (hg cl C' s0 H0 fp).q) (fun cl C' s0 H0 fp => (ht cl C' s0 H0 fp).q) (fun cl C' s0 H0 fp => (he cl C' s0 H0 fp).q) hesc hN hc hsw hs, sok_set2 (eok_comp hi.o (hg [] 0 X.s₀ X.H₀ []).o (ht [] 0 X.s₀ X.H₀ []).o (he [] 0 X.s₀ X.H₀ []).o) h1 h2⟩
theorem cs_app {i : Nat} {x : Str} (hi : autoParam (i ∈ Γ) aT1._auto_1) (hN : autoParam (X.N[i]? = some x) aT2._auto_1) (hv : autoParam (Vis X.env.scope x) aT3._auto_1) (hd : autoParam ((x == ("__debug__" : Str)) = false) aT1._auto_1) (hcd : autoParam ((x == ("__classdict__" : Str)) = false) aT1._auto_1)
    (he : JE X C E Γ Δ 2 [] e te fe) (hse : starEach [e] X.env = (false, eval e X.env) :: starEach [] X.env)
    (hbase : autoParam (attributeBase (.Name x p) "append" X.env (eval (.Name x p) X.env) = eval (.Name x p) X.env) aT2._auto_1)
    (hfew : autoParam (((backTo cpos (starEach [e] X.env)).all (fun x => !x.1) && (backToKw cpos (keywordEach [] X.env)).all (fun x => x.1.isSome) && decide (([e] : List Expr).length + ([] : List Keyword).length + (if ([] : List Keyword).isEmpty then 0 else 1) < 30)) = true) aT2._auto_1)
    (hline : autoParam ((apos.endLine == cpos.line) = true) aT2._auto_1) (hplain : autoParam ((backTo cpos (starEach ([] : List Expr) X.env)).any (·.1) = false) aT2._auto_1) (hsw : autoParam (swapsWith (.Call (.Attribute (.Name x p) "append" apos) [e] [] cpos) none pos.line X.env = pure false) aT2._auto_1) :
    JS X C E mr Γl Δl Γ Δ Γ Δ (.Expr (.Call (.Attribute (.Name x p) "append" apos) [e] [] cpos) pos) (tDrop (tBM X.K "list" rAppend (tVar i) (tCons te tNil))) (Dl.sApp i fe) :=
  ⟨qs_expr (qe_bm PySem.F.plainAttrs_list PySem.F.slot_list_append PySem.F.type_list_append mt_append (qv i hN hv hd hcd) (qa_cons he.q qa_nil hse) hbase hfew hline hse hplain) hsw, sok_app2 hi he.o⟩
theorem cs_for {wi : TI} {tt : TG} {fi : FI} {fb : FB} (Γl Δl : List Nat) (hp : PassesOwn (model X.prog X.w) X.A X.env X.xe) (hc : X.calm = true) (hi : JI X C E Γ Δ S tg iter wi fi) (hg : JG X C Γl Δl tg tt fb) (hb : JSs X C E mr Γl Δl Γl Δl Γl Δl body u g) (hs : ∀ x, foldedSetIterable iter X.env x = pure x := by intro _; rfl)
    (h1 : autoParam (∀ i ∈ Γl, i ∈ Γ) aT1._auto_1) (h2 : autoParam (∀ i ∈ Δl, i ∈ Δ) aT1._auto_1) (h3 : autoParam (∀ p ∈ S, p.1 ∉ Γl ∧ p.1 ∉ Δl) aT1._auto_1) : JS X C E mr Γk Δk Γ Δ Γl Δl (.For tg iter body [] pos) (tFor wi tt u) (Dl.sFor fi fb g) := ⟨qs_for hp hc hi.q hg.q hb.q hs, sok_for hi.o hg.o hb.o h1 h2 h3⟩
end
theorem Fun.okC {P : Program} {w : World} {K : PySem.W.Frag} {C : String → Addr} {mg : Str → Option Value} {base : Heap} {x qual : Str} {st : Stmt} {f : Addr} {fd : FuncData} {N ps : List Str} {k n mr : Nat} {Γ' Δ' : List Nat} {g : FS} (F : Fun K x qual st f fd) (S : FnScope N ps (defScope st)) (hn : ps.length = n)
    (hbody : ∀ (cdv : Value) (A : Around) (outer : List Env) (s : Shared) (H : Hp) (E : XK), Room k (A.deeper (envOfC qual (defScope st) s.heap.objs.size f cdv)) →
      ∃ t, JSs (cxOf CX0 P w K mg base N qual (defScope st) f cdv A outer s H E).nox C E0 mr [] [] [] [] Γ' Δ' (defBody st) t g) : FnOk P w K mg base CX0 (k + 1) f fd ps (spD K C n mr fun ds => (Dl.run N.length g ds).calm) :=
  F.okQ S (fun vs H Q E h => by
    obtain ⟨ds, B, h1, h2, _⟩ := h
    rw [h2.len, h1, hn]) fun cdv A outer s H vs Q E hr h => by
    obtain ⟨ds, B, h1, h2, h3⟩ := h
    obtain ⟨t, ht⟩ := hbody cdv A outer s H E hr
    exact ⟨t, ht.q, run_post (K := K) ht.o h2 (Post.imp (calm_of h3) (fun _ q => q) fun _ _ z => z.elim)⟩
end L2

namespace L2
open PySem PySem.Spec PyProof.Rows
open Dl (D R FE FT FA FO FS FI FB Fl)
section
variable {K : PySem.W.Frag} {C : String → Addr} {E : XK} {Γ Δ Γ' Δ' Γ1 Δ1 Γl Δl Γk Δk : List Nat} {m m1 m2 m3 mr : Nat} {S S1 S2 S3 : List (Nat × Bool)} {H : Hp} {Q : VK}
noncomputable def Kit (c : String) : Prop := ∀ (K : PySem.W.Frag) (d : D) (b : Bool), Dl.gIsI c d = some (.bl b) → PySem.W.kitOne K (.type (Dl.tyName d)) (.type c) = some b
theorem kit_int : Kit "int" := fun K d b h => by cases d <;> cases h <;> rfl
theorem kit_bool : Kit "bool" := fun K d b h => by cases d <;> cases h <;> rfl
theorem kit_list : Kit "list" := fun K d b h => by cases d <;> cases h <;> rfl
theorem kit_tuple : Kit "tuple" := fun K d b h => by cases d <;> cases h <;> rfl
theorem eok_isI {c : String} (hk : Kit c) {ta : TE} {fa : FE} (ha : EOk K C E Γ Δ m S ta fa) : EOk K C E Γ Δ 2 [] (tCB (rIsI K) (tCons ta (tCons (tC (.ty c)) tNil))) (Dl.f1 (Dl.gIsI c) fa) := fun H0 Hb H σ ρ A Q I p =>
  ha H0 Hb H σ ρ A _ I (p.bind.imp (fun x q v H1 g1 r => by
    obtain ⟨d, e, q⟩ := oR_ok q
    obtain ⟨B, r, _⟩ := r
    have out : ∀ b t, d = .bl b → TyOf K H1 v t → t = .type (Dl.tyName x) → rIsI K [v, .ty c] H1 Q := fun b t ed ty et => by
      subst ed et
      exact rd_isI ty (hk K x b e) (q _ H1 g1 (Res.flat rpB))
    show rIsI K [v, .ty c] H1 Q
    cases x with
    | non => cases e; exact out _ _ rfl (by rw [r.1]; exact .non) rfl
    | bl b => cases e; exact out _ _ rfl (by rw [r.1]; exact .bl _) rfl
    | int i => cases e; exact out _ _ rfl (by rw [r.1]; exact .int _) rfl
    | str z => cases e; exact out _ _ rfl (by rw [r.1]; exact .str _) rfl
    | lst ds =>
      cases e
      obtain ⟨a, xs, B, rfl, e2, _⟩ := r
      exact out _ _ rfl (.lst e2) rfl
    | tup ds =>
      cases e
      obtain ⟨a, xs, rfl, e2, _⟩ := r
      exact out _ _ rfl (.tup e2) rfl
    | scr _ => cases e
    | rng _ _ => cases e
    | exc _ _ => cases e
    | obj _ _ _ => cases e
    | dct _ _ => cases e) fun c x q H' g' => q H' g')
theorem EnvOk.rewrite {H0 Hb H H1 : Hp} {σ : St} {ρ : DEnv} {A : Nat → List Addr} {i : Nat} {a : Addr} {l B' : List Addr} {es : List D} {ys : List V} (I : EnvOk K C H0 Hb H Γ Δ σ ρ A) (g1 : Same H H1) (hi : i ∈ Γ) (hA : A i = a :: l) (hl : i < ρ.length) (s1 : σ[i]? = some (some (.ref a))) (r : RpA K C H1 es ys B')
    (hB : ∀ b ∈ B', b ∈ l ∨ H b = none) (hD : i ∈ Δ → B'.Nodup) : ∃ A', EnvOk K C H0 Hb (upd H1 a (.lst ys)) Γ Δ σ (ρ.set i (some (.lst es))) A' := by
  obtain ⟨tb, ta, tt⟩ := I.top i hi a l hA
  have ha : a ∈ A i := by rw [hA]; exact .head _
  have w1 : ∀ b ∈ B', H0 b = none := fun b hb => (hB b hb).elim (fun z => I.loc i hi b (by rw [hA]; exact .tail _ z)) fun z => I.s0.free (I.same.free z)
  have w0 : a ∉ B' := fun z => (hB a z).elim ta fun z => I.ne ha z
  have w2 : ∀ j ∈ Γ, j ≠ i → j ∈ Γ ∧ ∀ b l', A j = b :: l' → b ∉ B' := fun j hj e => ⟨hj, fun b l' e' z => (hB b z).elim
    (fun z => (I.top j hj b l' e').2.2 i (fun w => e w.symm) (by rw [hA]; exact .tail _ z)) fun z => I.ne (j := j) (by rw [e']; exact .head _) z⟩
  have w3 : ∀ j ∈ Δ, j ≠ i → j ∈ Δ ∧ ∀ b ∈ A j, b ∉ B' := fun j hj e => ⟨hj, fun b hb z => (hB b z).elim
    (fun z => (I.deep j hj).2.1 i (fun w => e w.symm) b hb (by rw [hA]; exact .tail _ z)) fun z => I.ne hb z⟩
  have w4 : i ∈ Δ → B'.Nodup ∧ (∀ j, j ≠ i → ∀ b ∈ B', b ∉ A j) ∧ ∀ b ∈ B', Hb b = none := fun hd => by
    obtain ⟨d1, d2, d3⟩ := I.deep i hd
    rw [hA] at d2 d3
    exact ⟨hD hd, fun j hj b hb => (hB b hb).elim (fun z => d2 j hj b (.tail _ z)) fun z w => I.ne w z, fun b hb => (hB b hb).elim (fun z => d3 b (.tail _ z)) fun z => I.same.free z⟩
  exact (I.mono g1).write (Γ' := Γ) (Δ' := Δ) hi hA hl s1 r w1 w0 w2 w3 w4
theorem sok_clear {i : Nat} (hi : autoParam (i ∈ Γ) aT1._auto_1) : SOk K C E mr Γl Δl Γ Δ Γ Δ (tDrop (tBM0 K "list" rClear (tVar i))) (Dl.sClear i) := fun H0 Hb H σ ρ A D I p => by
  unfold Dl.sClear at p
  split at p
  · rename_i ds e
    obtain ⟨a, xs, l, s1, h1, r1, hA, hl⟩ := slot_lst I e
    obtain ⟨A', I'⟩ := I.rewrite (Same.refl _) hi hA hl s1 RpA.nil (fun _ hb => nomatch hb) fun _ => List.nodup_nil
    exact ⟨.ref a, s1, .inl ⟨rfl, xs, SqL.of h1⟩, a, xs, rfl, rfl, h1, p _ _ A' I'⟩
  · exact p.elim
noncomputable def BsN (K : PySem.W.Frag) (C : String → Addr) (Γ Δ Γ' Δ' : List Nat) (g : TGs) (b : List D → DEnv → R DEnv) : Prop := ∀ (H0 Hb H : Hp) (σ : St) (ρ : DEnv) (A : Nat → List Addr) (d : List D) (v : List V) (B : List Addr) (Rr : St → Hp → Prop), EnvOk K C H0 Hb H Γ Δ σ ρ A → RpA K C H d v B → B.Nodup → (∀ a ∈ B, Hb a = none ∧ ∀ j, a ∉ A j) →
  Post (b d ρ) (fun ρ' => ∀ σ' A', EnvOk K C H0 Hb H Γ' Δ' σ' ρ' A' → Rr σ' H) (fun _ _ => False) → g v σ H Rr
end
section
variable {X : Cx} {C : String → Addr} {E : XK} {Γ Δ Γ' Δ' Γ1 Δ1 Γl Δl Γk Δk : List Nat} {m m1 m2 m3 mr : Nat} {S S1 S2 S3 : List (Nat × Bool)} {a b c e st o tg iter : Expr} {es rest : List Expr} {ta tb tc te ts : TE} {fa fb fc fe fs : FE} {t : TA} {f : FA} {pos p p2 apos cpos pos' : Pos} {n : Nat}
theorem ce_isI (K : PySem.W.Frag) {T : String} {ty : Str} (hk : Kit T) (hg : Gl X "isinstance") (hm : X.mg "isinstance" = none) (hgt : Gl X ty) (hmt : X.mg ty = none) (hvt : bootBuiltins ty = some (.type T)) (ha : JE X C E Γ Δ m S e te fe) (hse : starEach (e :: [.Name ty p2]) X.env = (false, eval e X.env) :: starEach [.Name ty p2] X.env)
    (hn : autoParam (ty ≠ "__name__") aT1._auto_1) (hd : autoParam ((ty == ("__debug__" : Str)) = false) aT1._auto_1) (hpl : autoParam ((backTo pos (starEach [.Name ty p2] X.env)).any (·.1) = false) aT2._auto_1) (hK : autoParam (X.K = K) aT2._auto_1) :
    JE X C E Γ Δ 2 [] (.Call (.Name "isinstance" p) [e, .Name ty p2] [] pos) (tCB (rIsI K) (tCons te (tCons (tC (.ty T)) tNil))) (Dl.f1 (Dl.gIsI T) fe) := by
  subst hK
  exact ⟨qe_callB call_isinst hg hm PyProof.Rows.boot_isinstance (qa_cons ha.q (qa_cons (qe_bltn (v := .ty T) hgt hmt hvt rfl hn hd) qa_nil star_name) hse) (by decide) (by decide) hse hpl, eok_isI hk ha.o⟩
structure JN (X : Cx) (C : String → Addr) (Γ Δ Γ' Δ' : List Nat) (es : List Expr) (n : Nat) (t : TGs) (f : List D → DEnv → R DEnv) : Prop where
  q : QGs X es t
  o : BsN X.K C Γ Δ Γ' Δ' t f
  n : ∀ ds ρ ρ', f ds ρ = .ok ρ' → ds.length = n
theorem ce_glob {x : Str} {i : Int} {u : Value} (hg : Gl X x) (hm : X.mg x = some u) (r : RelV (.int i) u) (hd : autoParam ((x == ("__debug__" : Str)) = false) aT1._auto_1) : JE X C E Γ Δ 2 [] (.Name x pos) (tC (.int i)) (Dl.fC (.int i)) := ⟨qe_glob hg hm r hd, eok_c fun _ => rpI⟩
end
end L2

namespace L2
open PySem PySem.Spec PyProof.Rows
open Dl (D R FE FT FA FO FS FI FB Fl)
section
variable {K : PySem.W.Frag} {C : String → Addr} {E : XK} {Γ Δ Γ' Δ' Γ1 Δ1 Γl Δl Γk Δk : List Nat} {m m1 m2 m3 mr : Nat} {S S1 S2 S3 : List (Nat × Bool)} {H : Hp} {Q : VK}
end
section
variable {X : Cx} {C : String → Addr} {E : XK} {Γ Δ Γ' Δ' Γ1 Δ1 Γl Δl Γk Δk : List Nat} {m m1 m2 m3 mr : Nat} {S S1 S2 S3 : List (Nat × Bool)} {a b c e st o tg iter : Expr} {es rest : List Expr} {ta tb tc te ts : TE} {fa fb fc fe fs : FE} {t : TA} {f : FA} {pos p p2 apos cpos pos' : Pos} {n : Nat}
end
end L2

namespace L2
open PySem PySem.Spec PyProof.Rows
open Dl (D R FE FT FA FO FS FI FB Fl)
section
variable {K : PySem.W.Frag} {C : String → Addr} {E : XK} {Γ Δ Γ' Δ' Γ1 Δ1 Γl Δl Γk Δk : List Nat} {m m1 m2 m3 mr : Nat} {S S1 S2 S3 : List (Nat × Bool)} {H : Hp} {Q : VK}
noncomputable def JOk (K : PySem.W.Frag) (C : String → Addr) (E : XK) (Γ Δ : List Nat) (t : TJ) (f : FA) : Prop := ∀ (H0 Hb H : Hp) (σ : St) (ρ : DEnv) (A : Nat → List Addr) (Q : Hp → Prop), EnvOk K C H0 Hb H Γ Δ σ ρ A →
  Post (f ρ) (fun _ => ∀ H', Same H H' → Q H') (fun c x => ∀ H', Same H H' → EC C E c x H') → t σ H Q
end
section
variable {X : Cx} {C : String → Addr} {E : XK} {Γ Δ Γ' Δ' Γ1 Δ1 Γl Δl Γk Δk : List Nat} {m n mr : Nat} {S : List (Nat × Bool)} {e : Expr} {es : List Expr} {t : TA} {f : FA} {np cpos pos hpos : Pos}
end
end L2

namespace L2
open PySem PySem.Spec PyProof.Rows
open Dl (D R FE FT FA FO FS FI FB Fl)
section
variable {K : PySem.W.Frag} {C : String → Addr} {E : XK} {Γ Δ Γ' Δ' Γ1 Δ1 Γl Δl Γk Δk : List Nat} {m m1 m2 m3 mr : Nat} {S S1 S2 S3 : List (Nat × Bool)} {H : Hp} {Q : VK}
end
section
variable {X : Cx} {C : String → Addr} {E : XK} {Γ Δ Γ' Δ' Γ1 Δ1 Γl Δl Γk Δk : List Nat} {m m1 m2 m3 mr : Nat} {S S1 S2 S3 : List (Nat × Bool)} {a b c e st o tg iter : Expr} {es rest : List Expr} {ta tb tc te ts : TE} {fa fb fc fe fs : FE} {t : TA} {f : FA} {pos p p2 apos cpos pos' : Pos} {n : Nat} {body : List Stmt} {u : TS} {g : FS}
end
end L2

namespace L2
open PySem PySem.Spec PyProof.Rows
open Dl (D R FE FT FA FO FS FI FB Fl)
structure ClsIn (K : PySem.W.Frag) (C : Addr) : Prop where
  ty : PySem.W.typeIn K (.ref C) = some (.type "type")
  cl : ∃ c, PySem.W.clsIn K C = some c
  se : PySem.W.subIn K (.ref C) (.ref C) = some true
section
variable {K : PySem.W.Frag} {C : String → Addr} {E : XK} {Γ Δ Γ' Δ' Γ1 Δ1 Γl Δl Γk Δk : List Nat} {m m1 m2 m3 mr : Nat} {S S1 S2 S3 : List (Nat × Bool)} {H : Hp} {Q : VK}
end
structure JJ (X : Cx) (C : String → Addr) (E : XK) (Γ Δ : List Nat) (es : List Expr) (t : TJ) (f : FA) : Prop where
  q : QJ X es t
  o : JOk X.K C E Γ Δ t f
section
variable {X : Cx} {C : String → Addr} {E : XK} {Γ Δ Γ' Δ' Γ1 Δ1 Γl Δl Γk Δk : List Nat} {m m1 m2 m3 mr : Nat} {S S1 S2 S3 : List (Nat × Bool)} {a b c e st o tg iter : Expr} {es rest : List Expr} {ta tb tc te ts : TE} {fa fb fc fe fs : FE} {t : TA} {f : FA} {pos p p2 apos cpos pos' np jp : Pos} {n : Nat} {body : List Stmt} {s : Stmt} {u : TS} {g : FS} {tj : TJ}
end
end L2

namespace L2
open PySem PySem.Spec PyProof.Rows
open Dl (D R FE FT FA FO FS FI FB Fl)
theorem pl_of {n : Nat} {z : Str} (h : Dl.plain n z = true) : Pl n z := by
  unfold Dl.plain at h
  rw [Bool.and_eq_true] at h
  refine ⟨of_decide_eq_true h.1, fun c hc => ?_⟩
  exact of_decide_eq_true (List.all_eq_true.mp h.2 c hc)
theorem Pl.ok {n : Nat} {z : Str} (h : Pl n z) : PyData.strOk z = true := by
  unfold PyData.strOk
  rw [Array.all_eq_true_iff_forall_mem]
  intro c hc
  have := h.asc c (Array.mem_toList_iff.mpr hc)
  simp
  omega
noncomputable def rSlX : V → Option Int → Option Int → Hp → VK → Prop := fun x lo hi H Q => ∃ z, x = .str z ∧ Pl 1000 z ∧ Q (.str (Dl.strCut z lo hi)) H
section
variable {X : Cx}
theorem sl_strX : SlR X rSlX := by
  intro pins s σ H x v vl vu lo hi sl Q I rx hs pl pu h
  obtain ⟨z, rfl, hz, q⟩ := h
  obtain ⟨tk, rfl⟩ := rx
  refine ⟨"str", _, PySem.F.slot_str_getitem.lookup, typeIs_str _ z tk, ?_⟩
  have hp : ∀ {v : Value} {o : Option Int}, IsPart v o → ∃ p : Option (Int × Tok), v = partValue p ∧ p.map (·.1) = o := fun h => by
    cases h with
    | none => exact ⟨none, rfl, rfl⟩
    | int i t => exact ⟨some (i, t), rfl, rfl⟩
  obtain ⟨l, rfl, el⟩ := hp pl
  obtain ⟨u, rfl, eu⟩ := hp pu
  subst el eu
  refine wpAny_getItem_str_slice (l := l) (u := u) (st := none) hs rfl ?_
  have hl := hz.len
  unfold Dl.strCut at q
  unfold sliceMade
  by_cases hc : ((Builtin.Str.strSliceIndices (l.map (·.1)) (u.map (·.1)) 1 z.length).length == z.length) = true
  · rw [if_pos hc] at q
    rw [if_pos (by simpa [slicePicked] using hc)]
    exact ⟨.str z, H, I, ⟨_, rfl⟩, q⟩
  · rw [if_neg hc] at q
    rw [if_neg (by simpa [slicePicked] using hc)]
    refine ⟨?_, .str _, H, I.tok _, ⟨_, rfl⟩, q⟩
    have h1 : ((slicePicked z l u none).filterMap (z.cps[·]?)).length ≤ (slicePicked z l u none).length := List.length_filterMap_le ..
    have h2 : (slicePicked z l u none).length ≤ z.length := sliceIndices_le _ _ _
    exact Nat.le_trans h1 (Nat.le_trans h2 (by rw [sizeLine_eq]; omega))
end
section
variable {K : PySem.W.Frag} {C : String → Addr} {E : XK} {Γ Δ Γ' Δ' Γ1 Δ1 Γl Δl Γk Δk : List Nat} {m m1 m2 m3 mr : Nat} {S S1 S2 S3 : List (Nat × Bool)} {H : Hp} {Q : VK}
theorem eok_slS {ta : TE} {tl th : TO} {fa : FE} {fl fh : FO} (ha : EOk K C E Γ Δ m S ta fa) (hl : OOk K C E Γ Δ tl fl) (hh : OOk K C E Γ Δ th fh) : EOk K C E Γ Δ 2 [] (tSl rSlX ta tl th) (Dl.fSl Dl.gSlS fa fl fh) :=
  fun H0 Hb H σ ρ A Q I p => ha H0 Hb H σ ρ A _ I (p.bind.imp (fun x q vx H1 g1 r1 => hl H0 Hb H1 σ ρ A _ (I.mono g1) (q.bind.imp (fun lo q H2 g2 => hh H0 Hb H2 σ ρ A _ (I.mono (g1.trans g2)) (q.bind.imp (fun hi q H3 g3 => by
    obtain ⟨d, e, q⟩ := oR_ok q
    obtain ⟨B, r1, _⟩ := r1
    have g13 := g1.trans (g2.trans g3)
    unfold Dl.gSlS at e
    split at e
    · split at e
      · rename_i z _ _ hz
        cases e
        obtain ⟨rfl, _⟩ := r1
        have pl := pl_of hz
        refine ⟨z, rfl, pl, q _ _ g13 (Res.flat ⟨rfl, ?_, rfl⟩)⟩
        have pc : Pl 1000 (Dl.strCut z lo hi) := by
          unfold Dl.strCut
          split
          · exact pl
          · refine ⟨?_, fun c hc => ?_⟩
            · exact Nat.le_trans (List.length_filterMap_le ..) (Nat.le_trans (sliceIndices_le _ _ _) pl.len)
            · obtain ⟨i, _, hi⟩ := List.mem_filterMap.mp (show c ∈ (Builtin.Str.strSliceIndices lo hi 1 z.length).filterMap (z.cps[·]?) from hc)
              exact pl.asc c (List.mem_of_getElem? (i := i) (by simpa using hi))
        exact pc.ok
      · cases e
    · cases e) fun c x q H' g' => q H' ((g1.trans g2).trans g'))) fun c x q H' g' => q H' (g1.trans g'))) fun c x q H' g' => q H' g')
theorem eok_slT {ta : TE} {tl th : TO} {fa : FE} {fl fh : FO} (ha : EOk K C E Γ Δ m S ta fa) (hl : OOk K C E Γ Δ tl fl) (hh : OOk K C E Γ Δ th fh) : EOk K C E Γ Δ 2 [] (tSl (rSlT K) ta tl th) (Dl.fSl Dl.gSlT fa fl fh) :=
  fun H0 Hb H σ ρ A Q I p => ha H0 Hb H σ ρ A _ I (p.bind.imp (fun x q vx H1 g1 r1 => hl H0 Hb H1 σ ρ A _ (I.mono g1) (q.bind.imp (fun lo q H2 g2 => hh H0 Hb H2 σ ρ A _ (I.mono (g1.trans g2)) (q.bind.imp (fun hi q H3 g3 => by
    obtain ⟨d, e, q⟩ := oR_ok q
    obtain ⟨B, r1, _⟩ := r1
    have r1 := r1.same (g2.trans g3)
    have g13 := g1.trans (g2.trans g3)
    have out : Out K C H3 d Q := fun v H' B g4 r h1 h2 => q v H' (g13.trans g4) (Res.new r h1 fun a ha => g13.free (h2 a ha))
    unfold Dl.gSlT at e
    split at e
    · split at e
      · rename_i hf
        cases e
        obtain ⟨a, ys, rfl, e2, e3⟩ := r1
        refine ⟨a, ys, rfl, SqT.of e2, ?_⟩
        refine ⟨?_, fun p hp => Out.tup out (e3.cut hf.1 _ _) hp⟩
        rw [e3.len, ← six_eq, ← six_eq]
        exact hf.2
      · cases e
    · cases e) fun c x q H' g' => q H' ((g1.trans g2).trans g'))) fun c x q H' g' => q H' (g1.trans g'))) fun c x q H' g' => q H' g')
end
section
variable {X : Cx} {C : String → Addr} {E : XK} {Γ Δ Γ' Δ' Γ1 Δ1 Γl Δl Γk Δk : List Nat} {m m1 m2 m3 mr : Nat} {S S1 S2 S3 : List (Nat × Bool)} {a b c e st o tg iter : Expr} {es rest : List Expr} {ta tb tc te ts : TE} {fa fb fc fe fs : FE} {t : TA} {f : FA} {pos p p2 apos cpos pos' np jp : Pos} {n : Nat} {tj : TJ}
theorem ce_slT (K : PySem.W.Frag) {lo hi : Option Expr} {tl th : TO} {fl fh : FO} (he : JE X C E Γ Δ m S e te fe) (hl : JO X C E Γ Δ lo tl fl) (hu : JO X C E Γ Δ hi th fh) (hK : autoParam (X.K = K) aT2._auto_1) : JE X C E Γ Δ 2 [] (.Subscript e (.Slice lo hi none p2) pos) (tSl (rSlT K) te tl th) (Dl.fSl Dl.gSlT fe fl fh) := by
  subst hK
  exact ⟨qe_slice sl_tup he.q hl.q hu.q, eok_slT he.o hl.o hu.o⟩
theorem ce_slS {lo hi : Option Expr} {tl th : TO} {fl fh : FO} (he : JE X C E Γ Δ m S e te fe) (hl : JO X C E Γ Δ lo tl fl) (hu : JO X C E Γ Δ hi th fh) : JE X C E Γ Δ 2 [] (.Subscript e (.Slice lo hi none p2) pos) (tSl rSlX te tl th) (Dl.fSl Dl.gSlS fe fl fh) := ⟨qe_slice sl_strX he.q hl.q hu.q, eok_slS he.o hl.o hu.o⟩
end
end L2

namespace L2
open PySem PySem.Spec PyProof.Rows
open Dl (D R FE FT FA FO FS FI FB Fl)
section
variable {X : Cx} {e : Expr} {te : TE} {pos : Pos}
end
section
variable {K : PySem.W.Frag} {C : String → Addr} {E : XK} {Γ Δ Γ' Δ' Γ1 Δ1 Γl Δl Γk Δk : List Nat} {m m1 m2 m3 mr : Nat} {S S1 S2 S3 : List (Nat × Bool)} {H : Hp} {Q : VK}
end
section
variable {X : Cx} {C : String → Addr} {E : XK} {Γ Δ : List Nat} {m : Nat} {S : List (Nat × Bool)} {e : Expr} {es : List Expr} {te : TE} {fe : FE} {f : FA} {pos : Pos} {tj : TJ}
end
end L2

namespace L2
open PySem PySem.Spec PyProof.Rows
open Dl (D R FE FT FA FO FS FI FB Fl)
section
variable {K : PySem.W.Frag} {C : String → Addr} {E : XK} {Γ Δ Γ' Δ' Γ1 Δ1 Γl Δl Γk Δk : List Nat} {m m1 m2 m3 mr : Nat} {S S1 S2 S3 : List (Nat × Bool)} {H : Hp} {Q : VK}
end
section
variable {X : Cx} {C : String → Addr} {E : XK} {Γ Δ Γ' Δ' Γ1 Δ1 Γl Δl Γk Δk : List Nat} {mr : Nat} {np pos hpos : Pos}
end
end L2

namespace L2
open PySem PySem.Spec PyProof.Rows
open Dl (D R FE FT FA FO FS FI FB Fl)
section
variable {K : PySem.W.Frag} {C : String → Addr} {E : XK} {Γ Δ Γ' Δ' Γ1 Δ1 Γl Δl Γk Δk : List Nat} {m m1 m2 m3 mr : Nat} {S S1 S2 S3 : List (Nat × Bool)} {H : Hp} {Q : VK}
theorem RpA.ofStrs : ∀ {ds : List D} {vs : List V} {A : List Addr} {ts : List Str}, RpA K C H ds vs A → Dl.strsOf ds = some ts → vs = ts.map V.str ∧ ∀ t ∈ ts, PyData.strOk t = true
  | [], _, _, ts, r, h => by
    simp only [Dl.strsOf, Option.some.injEq] at h
    rw [r.1, ← h]
    exact ⟨rfl, fun _ z => nomatch z⟩
  | d :: ds, _, _, ts, r, h => by
    obtain ⟨x, l, B, B', e1, e2, e3, e4⟩ := r
    cases d <;> simp only [Dl.strsOf] at h <;> try cases h
    obtain ⟨ms, h1, h2⟩ := Option.map_eq_some_iff.mp h
    obtain ⟨q1, q2⟩ := RpA.ofStrs e3 h1
    subst h2
    rw [e1, e2.1, q1]
    refine ⟨rfl, fun t ht => ?_⟩
    rcases List.mem_cons.mp ht with z | z
    · rw [z]; exact e2.2.1
    · exact q2 t z
theorem strOk_join {s : Str} (hs : PyData.strOk s = true) : ∀ {ts : List Str}, (∀ t ∈ ts, PyData.strOk t = true) → PyData.strOk (Str.join s ts) = true
  | [], _ => by
    show PyData.strOk Str.empty = true
    decide +kernel
  | [x], h => h x (.head _)
  | x :: y :: r, h => by
    show PyData.strOk (x ++ s ++ Str.join s (y :: r)) = true
    exact strOk_cat (strOk_cat (h x (.head _)) hs) (strOk_join hs fun t ht => h t (.tail _ ht))
noncomputable def rJoin (K : PySem.W.Frag) : V → List V → Hp → VK → Prop := fun x vs H Q => ∃ s ts a, x = .str s ∧ vs = [.ref a] ∧ SqL K H a (ts.map V.str) ∧ (ts.map (·.length)).sum + ts.length * s.length ≤ sizeLine ∧ Q (.str (Str.join s ts)) H
theorem vals_strs : ∀ {ts : List Str} {us : List Value}, Vals (ts.map V.str) us → ∃ l : List (Str × Tok), l.map (·.1) = ts ∧ us = strValues l
  | [], us, h => by cases h; exact ⟨[], rfl, rfl⟩
  | t :: ts, us, h => by
    cases h with
    | cons r rr =>
      obtain ⟨tk, rfl⟩ := r
      obtain ⟨l, h1, h2⟩ := vals_strs rr
      exact ⟨(t, tk) :: l, by rw [← h1]; rfl, by rw [h2]; rfl⟩
theorem mt_join {X : Cx} : MtR X "str.join" (rJoin X.K) := by
  intro pins s σ H x vs v us Q I rx rv h
  obtain ⟨sep, ts, a, rfl, rfl, hq, hz, q⟩ := h
  obtain ⟨tk, rfl⟩ := rx
  obtain ⟨u, rfl, ru⟩ := rv.one
  cases ru
  obtain ⟨its, rv2, p, _⟩ := I.list hq
  obtain ⟨l, h1, h2⟩ := vals_strs rv2
  subst h1 h2
  have hok : Builtin.Str.tooLong ((l.map (·.1)).toArray.foldl (· + ·.length + sep.length) 0) = false := by
    rw [StrLaws.joinTotal]
    unfold Builtin.Str.tooLong
    simpa using hz
  refine call_meets F.slot_str_join (typeIs_str _ sep tk) F.entry_str_join (F.args_str_join_2 _ _) (meets_str_join_list sep tk a l hok) ⟨p.isList, post_join l ⟨joinFit_length hok, fun t' k => ?_⟩⟩
  have e : Txt.join sep (l.map (·.1)) = Str.join sep (l.map (·.1)) := StrLaws.glued_eq_join _ _
  rw [e]
  exact ⟨.str _, H, I.tok _, ⟨_, rfl⟩, q⟩
theorem eok_join {ta tb : TE} {fa fb : FE} (ha : EOk K C E Γ Δ m1 S1 ta fa) (hb : EOk K C E Γ Δ m2 S2 tb fb) : EOk K C E Γ Δ 2 [] (tBM K "str" (rJoin K) ta (tCons tb tNil)) (Dl.fJoin fa fb) :=
  fun H0 Hb H σ ρ A Q I p => ha H0 Hb H σ ρ A _ I (p.bind.imp (fun x q vx H1 g1 r1 => by
    obtain ⟨Bx, r1, _⟩ := r1
    cases x with
    | str s =>
      obtain ⟨rfl, hs, _⟩ := r1
      refine ⟨rfl, hb H0 Hb H1 σ ρ A _ (I.mono g1) (q.bind.imp (fun y q vy H2 g2 r2 => ?_) fun c x q H' g' => q H' (g1.trans g'))⟩
      obtain ⟨d, e, q⟩ := oR_ok q
      obtain ⟨By, r2, _⟩ := r2
      cases y with
      | lst ds =>
        obtain ⟨a, ys, B, rfl, e2, e3, _⟩ := r2
        obtain ⟨ts, h1, h2⟩ := Option.bind_eq_some_iff.mp (show (Dl.strsOf ds).bind (fun ts => if (ts.map (·.length)).sum + ts.length * s.length ≤ Dl.lim then some (D.str (Str.join s ts)) else none) = some d from e)
        split at h2
        · rename_i hz
          cases h2
          obtain ⟨q1, q2⟩ := RpA.ofStrs e3 h1
          subst q1
          exact ⟨s, ts, a, rfl, rfl, SqL.of e2, limLine hz, q _ _ (g1.trans g2) (Res.flat ⟨rfl, strOk_join hs q2, rfl⟩)⟩
        · cases h2
      | _ => cases e
    | _ => exact q.elim) fun c x q H' g' => q H' g')
end
section
variable {X : Cx} {C : String → Addr} {E : XK} {Γ Δ Γ' Δ' Γ1 Δ1 Γl Δl Γk Δk : List Nat} {m m1 m2 m3 mr : Nat} {S S1 S2 S3 : List (Nat × Bool)} {a b c e st o tg iter : Expr} {es rest : List Expr} {ta tb tc te ts : TE} {fa fb fc fe fs : FE} {pos p p2 apos cpos pos' : Pos}
theorem ce_join (K : PySem.W.Frag) (ho : JE X C E Γ Δ m1 S1 o ta fa) (he : JE X C E Γ Δ m2 S2 e tb fb) (hse : starEach [e] X.env = (false, eval e X.env) :: starEach [] X.env) (hbase : autoParam (attributeBase o "join" X.env (eval o X.env) = eval o X.env) aT2._auto_1)
    (hfew : autoParam (((backTo cpos (starEach [e] X.env)).all (fun x => !x.1) && (backToKw cpos (keywordEach [] X.env)).all (fun x => x.1.isSome) && decide (([e] : List Expr).length + ([] : List Keyword).length + (if ([] : List Keyword).isEmpty then 0 else 1) < 30)) = true) aT2._auto_1)
    (hline : autoParam ((apos.endLine == cpos.line) = true) aT2._auto_1) (hplain : autoParam ((backTo cpos (starEach ([] : List Expr) X.env)).any (·.1) = false) aT2._auto_1) (hK : autoParam (X.K = K) aT2._auto_1) : JE X C E Γ Δ 2 [] (.Call (.Attribute o "join" apos) [e] [] cpos) (tBM K "str" (rJoin K) ta (tCons tb tNil)) (Dl.fJoin fa fb) := by
  subst hK
  exact ⟨qe_bm PySem.F.plainAttrs_str PySem.F.slot_str_join PySem.F.type_str_join mt_join ho.q (qa_cons he.q qa_nil hse) hbase hfew hline hse hplain, eok_join ho.o he.o⟩
end
end L2

namespace L2
open PySem PySem.Spec PyProof.Rows
open Dl (D R FE FT FA FO FS FI FB Fl)
section
variable {X : Cx} {pins : List (Addr × Obj)} {σ : St} {H : Hp} {s : Shared} {h' : Heap}
theorem Inv.turnTup {t' : Nat} {ch : List Addr} {p : Addr} {xs : List V} {its : List Value} (I : Inv X pins σ H s) (k : ∀ b o, b ∉ ch → s.heap.get? b = some o → h'.get? b = some o) (hf : ∀ b ∈ ch, FpOk X pins H b)
    (hp : s.heap.objs.size ≤ p) (hz : xs.length ≤ sizeLine) (hv : Vals xs its) (ho : IsTup h' p its.toArray) : Inv X pins σ (upd H p (.tup xs)) { s with heap := h', toks := t' } := by
  have hn : H p = none := I.hok.fresh hp
  have nch : ∀ b u, H b = some u → b ∉ ch := fun b u e z => by rw [(hf b z).1] at e; cases e
  refine I.step (g' := s.gens) (d' := s.drawn) (ch := ch) (fun b hb => ⟨(hf b hb).2.2.2.1, (hf b hb).2.1, (hf b hb).2.2.2.2.1, (hf b hb).2.2.2.2.2⟩) (fun b o _ _ hc e _ => k b o hc e) (fun b o _ _ hc e _ => ⟨o.slots, k b o hc e⟩) (fun b o _ e n => ?_)
    (fun b o hc e => ⟨o, k b o hc e⟩) (fun b ys e => by rw [upd_ne (ne_of_none e hn)]; exact e) (fun b o u e => by rw [upd_ne (ne_of_none e hn)]; exact e) (fun b ps e => ⟨#[], by rw [upd_ne (ne_of_none e hn), e]; simp⟩) (fun m hm => ?_) (fun b u e => ?_) I.bare
  · rw [upd_ne]
    · exact n
    · exact Nat.ne_of_lt (Nat.lt_of_lt_of_le (Heap.lt_size e) hp)
  · obtain ⟨o, es, ep, ho, r⟩ := hm
    exact ⟨o, es, ep, k _ o (fun z => (hf _ z).2.1 rfl) ho, r⟩
  · by_cases hb : b = p
    · subst hb
      rw [upd_same] at e
      cases e
      exact ⟨hz, its, hv, ho⟩
    · rw [upd_ne hb] at e
      refine (I.hok b u e).stay (fun c v hc q => k c v ?_ q) (fun c q => by rw [upd_ne (ne_of_none q hn)]; exact q) fun c ys q => by rw [upd_ne (ne_of_none q hn)]; exact q
      rcases hc with z | z
      · rw [z]; exact nch b u e
      · exact nch c _ z
theorem Inv.turneds {t' : Nat} {ch : List Addr} (I : Inv X pins σ H s) (k : ∀ b o, b ∉ ch → s.heap.get? b = some o → h'.get? b = some o) (hf : ∀ b ∈ ch, FpOk X pins H b) : Inv X pins σ H { s with heap := h', toks := t' } := by
  have nch : ∀ b u, H b = some u → b ∉ ch := fun b u e z => by rw [(hf b z).1] at e; cases e
  refine I.step (g' := s.gens) (d' := s.drawn) (ch := ch) (fun b hb => ⟨(hf b hb).2.2.2.1, (hf b hb).2.1, (hf b hb).2.2.2.2.1, (hf b hb).2.2.2.2.2⟩) (fun b o _ _ hc e _ => k b o hc e) (fun b o _ _ hc e _ => ⟨o.slots, k b o hc e⟩) (fun _ _ _ _ n => n)
    (fun b o hc e => ⟨o, k b o hc e⟩) (fun _ _ e => e) (fun _ _ _ e => e) (fun b ps e => ⟨#[], by rw [e]; simp⟩) (fun m hm => ?_) (fun b u e => ?_) I.bare
  · obtain ⟨o, es, ep, ho, r⟩ := hm
    exact ⟨o, es, ep, k _ o (fun z => (hf _ z).2.1 rfl) ho, r⟩
  · refine (I.hok b u e).stay (fun c v hc q => k c v ?_ q) (fun _ q => q) fun _ _ q => q
    rcases hc with z | z
    · rw [z]; exact nch b u e
    · exact nch c _ z
end
noncomputable def Ite (K : PySem.W.Frag) (a : Addr) : It :=
  ⟨fun i H => ∃ xs x, SqL K H a xs ∧ xs[i]? = some x,
   fun i H v H' => ∃ p, v = .ref p ∧ H p = none ∧ ∀ xs, SqL K H a xs → ∃ x, xs[i]? = some x ∧ H' = upd H p (.tup [.int i, x]),
   fun i H => ∃ xs, SqL K H a xs ∧ xs.length ≤ i⟩
theorem vals_two {x y : V} {u v : Value} (h1 : RelV x u) (h2 : RelV y v) : Vals [x, y] [u, v] := .cons h1 (.cons h2 .nil)
theorem turn_enum {P : Program} {w : World} {K : PySem.W.Frag} {elts : List Expr} {x1 : Nat} {pos : Pos} {a e it : Addr} (hne : e ≠ it) :
    Turn P w K (.Tuple elts x1 pos) (Ite K a) [e, it] e (fun i h => (∃ old, IsEnum h e it i old) ∧ h.IsListIter it a i) where
  mem := by simp
  obj := fun i h st c hc => by
    obtain ⟨⟨old, h1⟩, ⟨o5, e5, _, d5⟩⟩ := st
    simp only [List.mem_cons, List.not_mem_nil, or_false] at hc
    rcases hc with rfl | rfl
    · exact ⟨_, h1, fun v z => by cases z⟩
    · exact ⟨_, e5, fun v z => by rw [d5] at z; cases z⟩
  keep := fun i h h' st k => by
    obtain ⟨⟨old, h1⟩, h5⟩ := st
    exact ⟨⟨old, k e (by simp) _ h1⟩, h5.at fun o q => k it (by simp) o q⟩
  item := by
    intro X hP hw hK hc i pins s σ H E I hf st hg
    subst hP hw hK
    obtain ⟨xs, x, hq1, hx⟩ := hg
    obtain ⟨⟨old, h1⟩, h4⟩ := st
    obtain ⟨its1, rv1, p1, hz1⟩ := I.list hq1
    obtain ⟨u, hu, ru⟩ := rv1.get hx
    refine wpAny_pyNext_enum_item h1 h4 p1.isList (x := u) (by simpa using hu) hne fun h' a1 a2 a3 a4 a5 => ?_
    refine ⟨_, rfl, wpAny_letOwnedTupleGo_enum a1 fun h'' b1 b2 => ?_⟩
    have hne1 : s.heap.objs.size ≠ e := fun q => absurd (Heap.lt_size h1) (by rw [← q]; exact Nat.lt_irrefl _)
    have ht : h''.get? s.heap.objs.size = some { cls := .type "tuple", data := .seq #[.int i s.toks, u] } := b2.extBut _ _ hne1 a3
    have I2 := I.turnTup (t' := s.toks + 1) (h' := h'') (ch := [e, it]) (p := s.heap.objs.size) (xs := [.int i, x]) (its := [.int i s.toks, u]) (fun c o hc q => by
        simp only [List.mem_cons, List.not_mem_nil, or_false, not_or] at hc
        exact b2.extBut _ _ hc.1 (a5 c o hc.1 hc.2 q)) (fun c hc => hf c hc) (Nat.le_refl _) (by show 2 ≤ sizeLine; decide) (vals_two ⟨_, rfl⟩ ru) ⟨_, ht, rfl, _, rfl⟩
    refine ⟨.ref s.heap.objs.size, _, I2, rfl, ⟨_, rfl, I.hok.fresh (Nat.le_refl _), fun xs' e1 => ⟨x, by rw [I.list_inj e1 hq1]; exact hx, rfl⟩⟩, ⟨⟨_, b1⟩, a2.extBut b2.extBut hne.symm⟩, fun c hc => ?_⟩
    rw [upd_ne]
    · exact (hf c hc).1
    · rintro rfl
      have : ∃ o, s.heap.get? s.heap.objs.size = some o := by
        simp only [List.mem_cons, List.not_mem_nil, or_false] at hc
        rcases hc with q | q
        · exact ⟨_, by rw [q]; exact h1⟩
        · obtain ⟨o, q', _⟩ := h4; exact ⟨o, by rw [q]; exact q'⟩
      obtain ⟨o, q⟩ := this
      exact absurd (Heap.lt_size q) (Nat.lt_irrefl _)
  done := by
    intro X hP hw hK hc i pins s σ H E I hf st hg
    subst hP hw hK
    obtain ⟨xs, hq1, hl⟩ := hg
    obtain ⟨⟨old, h1⟩, h4⟩ := st
    obtain ⟨its1, rv1, p1, hz1⟩ := I.list hq1
    have l1 := rv1.length
    refine wpAny_pyNext_enum_end (I.ok.hd hc) h1 h4 p1.isList (by simp; omega) fun h' k => ⟨rfl, I.turneds (t' := s.toks) (ch := [e, it]) (fun c o hc q => by
        simp only [List.mem_cons, List.not_mem_nil, or_false, not_or] at hc
        exact k c o hc.2 q) (fun c hc => hf c hc)⟩
  self := fun _ _ _ _ _ st h => by
    obtain ⟨⟨old, h1⟩, _⟩ := st
    exact wpAny_pyIter_enum h1 h
section
variable {X : Cx} {a b e : Expr} {ta tb te : TE} {elts : List Expr} {x1 : Nat} {tpos p pos : Pos} {tg : Expr}
noncomputable def iEnum (K : PySem.W.Frag) (ta : TE) : TI := fun σ H R => tCons ta tNil σ H fun vs H1 => ∃ p, vs = [.ref p] ∧ (∃ xs, SqL K H1 p xs) ∧ R (Ite K p) H1
theorem pi_enum (hg : Gl X "enumerate") (hm : X.mg "enumerate" = none) (ha : PE X a ta) (hs : starEach [a] X.env = (false, eval a X.env) :: starEach [] X.env) (hs3 : autoParam (starEach ([] : List Expr) X.env = []) aT2._auto_1) :
    PI X (.Tuple elts x1 tpos) (.Call (.Name "enumerate" p) [a] [] pos) (iEnum X.K ta) := by
  intro pins s σ H R I h
  refine Call_ (ld_blt I hg hm boot_enumerate (PyProof.Rows.callWith_type1 (thn (pa_cons ha pa_nil hs pos pins s σ H _ I h) fun us s1 ⟨vs, H1, I1, r1, q1⟩ => ?_) (by rw [hs]) (by rw [hs3]; rfl)))
  obtain ⟨l1, rfl, ⟨xs, hq1⟩, q⟩ := q1
  obtain ⟨u, rfl, rx⟩ := vals1 r1
  cases rx
  obtain ⟨its1, rv1, p1, hz1⟩ := I1.list hq1
  refine call_enumerate_list p1.isList fun h' z1 z4 z6 z7 => ?_
  refine wpAny_pyIter_enum z1 ?_
  have I2 : Inv X pins σ H1 { s1 with heap := h' } := I1.kept (t' := s1.toks) z7
  refine ⟨_, [s1.heap.objs.size + 1, s1.heap.objs.size], _, _, H1, rfl, I2, turn_enum (a := l1) (Nat.ne_of_gt (Nat.lt_succ_self _)), ⟨⟨_, z1⟩, z4⟩, fun c hc => ?_, q⟩
  have hc' : s1.heap.objs.size ≤ c := by
      simp only [List.mem_cons, List.not_mem_nil, or_false] at hc
      rcases hc with rfl | rfl <;> first | exact Nat.le_refl _ | exact Nat.le_add_right _ _
  exact I1.fpOk hc' (I1.hok.fresh hc')
end
section
variable {K : PySem.W.Frag} {C : String → Addr} {E : XK} {Γ Δ Γ' Δ' : List Nat} {m m1 m2 : Nat} {S S1 S2 : List (Nat × Bool)} {H : Hp}
theorem goes_enum {a : Addr} {ds : List D} {vs : List V} {B : List Addr} {Hc : Hp} (r : RpA K C Hc ds vs B) (h : ∀ H2, Same Hc H2 → SqL K H2 a vs) : Goes K C (Ite K a) (Dl.enumL ds) Hc := fun H2 g => by
  have q := h H2 g
  have hl := r.len
  have he : (Dl.enumL ds).length = ds.length := by simp [Dl.enumL]
  refine ⟨fun i hi => ⟨vs, vs[i]'(by omega), q, List.getElem?_eq_getElem (by omega)⟩, fun i hi => ⟨vs, q, by omega⟩, fun i x H3 hi y => ?_⟩
  obtain ⟨p, rfl, hp, y⟩ := y
  obtain ⟨x, hx, rfl⟩ := y vs q
  obtain ⟨d, Bd, q1, q2, q3⟩ := r.get' hx
  have sm := sameNew hp (.tup [.int i, x])
  refine ⟨sm, .tup [.int i, d], Bd, by simp [Dl.enumL, List.getElem?_mapIdx, q1], ⟨p, [.int i, x], rfl, upd_same, ?_⟩, fun a ha z => ?_⟩
  · exact ⟨.int i, [x], [], Bd, rfl, ⟨rfl, rfl⟩, RpA.one ((q2.same g).same sm), rfl⟩
  · obtain ⟨xs, e, _⟩ := q2.isl a ha
    rw [e] at z
    cases z
theorem iok_enum {t : TE} {f : FE} (h : EOk K C E Γ Δ m S t f) : IOk K C E Γ Δ S (iEnum K t) (Dl.jEnum f) := fun H0 Hb H σ ρ A Rr I p => h H0 Hb H σ ρ A _ I (p.bind.imp (fun d q v H' g r => by
  obtain ⟨B, r, r', _⟩ := r
  cases d with
  | lst ds =>
    obtain ⟨a, xs, B', rfl, e2, e3, e4⟩ := r
    subst e4
    simp only at q
    split at q
    · rename_i hl
      refine ⟨a, rfl, ⟨xs, SqL.of e2⟩, q _ H' (a :: B') g (fun b hb => ?_) (by simpa [Dl.enumL] using hl) fun Hc h1 => goes_enum (e3.agree h1 fun b hb => .tail _ hb) fun H2 g2 => SqL.of (g2 _ _ ((h1.1 a (.head _)).trans e2))⟩
      rcases List.mem_cons.mp hb with z | z
      · rw [z]
        exact ⟨⟨_, e2, .lst⟩, r' a (.head _)⟩
      · exact ⟨e3.isl b z, r' b (.tail _ z)⟩
    · exact q.elim
  | _ => exact q.elim) fun c x q H' g' => q H' g')
end
section
variable {X : Cx} {C : String → Addr} {E : XK} {Γ Δ Γ' Δ' : List Nat} {m m1 m2 : Nat} {S S1 S2 : List (Nat × Bool)} {a b e : Expr} {ta tb te : TE} {fa fb fe : FE} {elts : List Expr} {x1 : Nat} {tpos p pos : Pos} {tg : Expr}
theorem ci_enum (hg : Gl X "enumerate") (hm : X.mg "enumerate" = none) (ha : JE X C E Γ Δ m1 S1 a ta fa) (hs : starEach [a] X.env = (false, eval a X.env) :: starEach [] X.env) :
    JI X C E Γ Δ S1 (.Tuple elts x1 tpos) (.Call (.Name "enumerate" p) [a] [] pos) (iEnum X.K ta) (Dl.jEnum fa) := ⟨⟨pi_enum hg hm ha.q.out hs⟩, iok_enum ha.o⟩
end
end L2

namespace L2
open PySem PySem.Spec PyProof.Rows
open Dl (D R FE FT FA FO FS FI FB Fl)
section
variable {X : Cx}
end
section
variable {K : PySem.W.Frag} {C : String → Addr} {E : XK} {Γ Δ Γ' Δ' Γ1 Δ1 Γl Δl Γk Δk : List Nat} {m m1 m2 m3 mr : Nat} {S S1 S2 S3 : List (Nat × Bool)} {H : Hp} {Q : VK}
end
section
variable {X : Cx} {kx e : Expr} {tk te : TE} {p p2 pos : Pos} {x : Str} {i : Nat}
end
section
variable {K : PySem.W.Frag} {C : String → Addr} {E : XK} {Γ Δ Γ' Δ' Γ1 Δ1 Γl Δl Γk Δk : List Nat} {m m1 m2 m3 mr : Nat} {S S1 S2 S3 : List (Nat × Bool)} {H : Hp} {Q : VK}
end
section
variable {X : Cx} {C : String → Addr} {E : XK} {Γ Δ Γ' Δ' Γ1 Δ1 Γl Δl Γk Δk : List Nat} {m m1 m2 m3 mr : Nat} {S S1 S2 S3 : List (Nat × Bool)} {a b c e st o tg iter : Expr} {es rest : List Expr} {ta tb tc te ts tk : TE} {fa fb fc fe fs fk : FE} {t : TA} {f : FA} {pos p p2 apos cpos pos' bpos : Pos} {n : Nat}
theorem cs_clear {i : Nat} {x : Str} (hi : autoParam (i ∈ Γ) aT1._auto_1) (hN : autoParam (X.N[i]? = some x) aT2._auto_1) (hv : autoParam (Vis X.env.scope x) aT3._auto_1) (hd : autoParam ((x == ("__debug__" : Str)) = false) aT1._auto_1) (hcd : autoParam ((x == ("__classdict__" : Str)) = false) aT1._auto_1)
    (hbase : autoParam (attributeBase (.Name x p) "clear" X.env (eval (.Name x p) X.env) = eval (.Name x p) X.env) aT2._auto_1) (hline : autoParam ((apos.endLine == cpos.line) = true) aT2._auto_1) (hsw : autoParam (swapsWith (.Call (.Attribute (.Name x p) "clear" apos) [] [] cpos) none pos.line X.env = pure false) aT2._auto_1) :
    JS X C E mr Γl Δl Γ Δ Γ Δ (.Expr (.Call (.Attribute (.Name x p) "clear" apos) [] [] cpos) pos) (tDrop (tBM0 X.K "list" rClear (tVar i))) (Dl.sClear i) :=
  ⟨qs_expr (qe_bm0 PySem.F.plainAttrs_list PySem.F.slot_list_clear PySem.F.type_list_clear mt_clear (qv i hN hv hd hcd) hbase hline) hsw, sok_clear hi⟩
end
end L2

namespace L2
open PySem PySem.Spec PyProof.Rows
open Dl (D R FE FT FA FO FS FI FB Fl)
section
variable {X : Cx} {e : Expr} {te : TE} {p pos cp kp : Pos} {k : Nat}
end
section
variable {K : PySem.W.Frag} {C : String → Addr} {E : XK} {Γ Δ Γ' Δ' Γ1 Δ1 Γl Δl Γk Δk : List Nat} {m m1 m2 m3 mr : Nat} {S S1 S2 S3 : List (Nat × Bool)} {H : Hp} {Q : VK}
end
section
variable {X : Cx} {C : String → Addr} {E : XK} {Γ Δ Γ' Δ' Γ1 Δ1 Γl Δl Γk Δk : List Nat} {m m1 m2 m3 mr : Nat} {S S1 S2 S3 : List (Nat × Bool)} {a b c e st o tg iter : Expr} {es rest : List Expr} {ta tb tc te ts : TE} {fa fb fc fe fs : FE} {pos p p2 apos cpos pos' cp kp : Pos} {k : Nat}
end
end L2

namespace L2
open PySem PySem.Spec PyProof.Rows
open Dl (D R FE FT FA FO FS FI FB Fl)
section
variable {X : Cx} {pins : List (Addr × Obj)} {σ : St} {H : Hp} {s : Shared}
end
section
variable {X : Cx} {C : String → Addr} {E : XK} {Γ Δ Γ' Δ' Γk Δk : List Nat} {m mr : Nat} {S : List (Nat × Bool)} {c tg iter : Expr} {body : List Stmt} {u : TS} {g : FS} {pos : Pos}
end
end L2

namespace L2
open PySem PySem.Spec PyProof.Rows
open Dl (D R FE FT FA FO FS FI FB Fl)
section
variable {K : PySem.W.Frag} {C : String → Addr} {E : XK} {Γ Δ Γ' Δ' Γ1 Δ1 Γl Δl : List Nat} {m m1 m2 mr : Nat} {S S1 S2 : List (Nat × Bool)} {H : Hp}
end
section
variable {X : Cx} {C : String → Addr} {E : XK} {Γ Δ Γ' Δ' Γl Δl : List Nat} {m mr : Nat} {a b : Expr} {t : TA} {f : FA} {p p1 p2 pos pt2 : Pos} {x y : Str} {i j k k2 : Nat}
end
end L2

namespace L2
open PySem PySem.Spec PyProof.Rows
open Dl (D R FE FT FA FO FS FI FB Fl)
section
variable {K : PySem.W.Frag} {C : String → Addr} {E : XK} {Γ Δ Γ' Δ' Γ1 Δ1 Γl Δl Γk Δk : List Nat} {m m1 m2 m3 mr : Nat} {S S1 S2 S3 : List (Nat × Bool)} {H : Hp} {Q : VK}
noncomputable def AtP (K : PySem.W.Frag) (H : Hp) : V → List Int → Addr → Prop
  | v, [], b => v = .ref b
  | v, n :: r, b => ∃ p xs u, v = .ref p ∧ (H p = some (.lst xs) ∨ H p = some (.tup xs)) ∧ atI xs n = some u ∧ AtP K H u r b
end
section
variable {X : Cx} {C : String → Addr} {E : XK} {Γ Δ Γ' Δ' Γ1 Δ1 Γl Δl Γk Δk : List Nat} {m m1 m2 m3 mr : Nat} {S S1 S2 S3 : List (Nat × Bool)} {a b c e st o tg iter kx lx : Expr} {es rest : List Expr} {ta tb tc te ts tk tl : TE} {fa fb fc fe fs fk fl : FE} {pos p p1 p2 apos cpos pos' : Pos} {n : Nat}
end
end L2

namespace L2
open PySem PySem.Spec PyProof.Rows
open Dl (D R FE FT FA FO FS FI FB Fl)
section
variable {K : PySem.W.Frag} {C : String → Addr} {E : XK} {Γ Δ Γ' Δ' Γ1 Δ1 Γl Δl Γk Δk : List Nat} {m m1 m2 m3 mr : Nat} {H : Hp} {Q : VK}
end
section
variable {X : Cx} {C : String → Addr} {E : XK} {Γ Δ Γ' Δ' Γl Δl : List Nat} {mr : Nat} {pos p p2 apos cpos : Pos}
end
end L2

namespace L2
open PySem PySem.Spec PyProof.Rows
open Dl (D R FE FT FA FO FS FI FB Fl)
section
variable {prog : Program} {w : World} {A : Around} {E : Value → Shared → Prop} {s : Shared} {a₀ : Array Keyed}

end
section
variable {X : Cx}
end
section
variable {K : PySem.W.Frag} {C : String → Addr}
end
end L2

namespace L2
open PySem PySem.Spec PyProof.Rows
open Dl (D R FE FT FA FO FS FI FB Fl)
section
variable {K : PySem.W.Frag} {C : String → Addr} {E : XK} {Γ Δ Γ' Δ' Γl Δl : List Nat} {m mr : Nat} {S : List (Nat × Bool)}
end
section
variable {X : Cx} {C : String → Addr} {E : XK} {Γ Δ Γ' Δ' Γl Δl : List Nat} {m mr : Nat} {S : List (Nat × Bool)} {e : Expr} {te : TE} {fe : FE} {p p1 p2 pos : Pos} {x y : Str} {i j k : Nat}
end
end L2

namespace L2
open PySem PySem.Spec PyProof.Rows
open Dl (D R FE FT FA FO FS FI FB Fl)

section
variable {X : Cx} {tg : Expr}
end
section
variable {K : PySem.W.Frag} {C : String → Addr} {E : XK} {Γ Δ : List Nat} {m : Nat} {S : List (Nat × Bool)} {H : Hp}
end
section
variable {X : Cx} {C : String → Addr} {E : XK} {Γ Δ : List Nat} {m n : Nat} {S : List (Nat × Bool)} {tg a b c : Expr} {t : TA} {f : FA} {p pos : Pos}
end
section
variable {X : Cx}
end
section
variable {K : PySem.W.Frag} {C : String → Addr}
end
end L2

namespace L2
open PySem PySem.Spec PyProof.Rows
open Dl (D R FE FT FA FO FS FI FB Fl FM FMT)
section
variable {K : PySem.W.Frag} {C : String → Addr} {E : XK} {Γ Δ Γ' Δ' Γ1 Δ1 Γl Δl : List Nat} {m m1 m2 mr n : Nat} {S S1 S2 : List (Nat × Bool)} {H : Hp}
noncomputable def MOk (K : PySem.W.Frag) (C : String → Addr) (E : XK) (Γ Δ : List Nat) (t : TE) (f : FM) : Prop := ∀ (H0 Hb H : Hp) (σ : St) (ρ : DEnv) (A : Nat → List Addr) (Q : VK), EnvOk K C H0 Hb H Γ Δ σ ρ A →
  Post (f ρ) (fun p => ∀ v H' A' B, EnvOk K C H0 Hb H' Γ Δ σ p.2 A' → Rp K C H' p.1 v B → B.Nodup → (∀ a ∈ B, Hb a = none ∧ ∀ j, a ∉ A' j) → Q v H') (fun c x => ∀ H', Same H0 H' → EC C E c x H') → t σ H Q
noncomputable def MTOk (K : PySem.W.Frag) (C : String → Addr) (E : XK) (Γ Δ : List Nat) (t : TT) (f : FMT) : Prop := ∀ (H0 Hb H : Hp) (σ : St) (ρ : DEnv) (A : Nat → List Addr) (Q : Bool → Hp → Prop), EnvOk K C H0 Hb H Γ Δ σ ρ A →
  Post (f ρ) (fun p => ∀ H' A', EnvOk K C H0 Hb H' Γ Δ σ p.2 A' → Q p.1 H') (fun c x => ∀ H', Same H0 H' → EC C E c x H') → t σ H Q
noncomputable def SOkP (K : PySem.W.Frag) (C : String → Addr) (E : XK) (Γ Δ Γ' Δ' : List Nat) (t : TS) (f : FS) : Prop := ∀ (H0 Hb H : Hp) (σ : St) (ρ : DEnv) (A : Nat → List Addr) (D : Ends), EnvOk K C H0 Hb H Γ Δ σ ρ A →
  Post (f ρ) (fun fl => match fl with
    | .nx ρ' => ∀ σ' H' A', σ'[0]? = σ[0]? → EnvOk K C H0 Hb H' Γ' Δ' σ' ρ' A' → D.nx σ' H'
    | _ => False) (fun c x => ∀ H', Same H0 H' → EC C E c x H') → t D σ H
end
end L2

namespace L2
open PySem PySem.Spec PyProof.Rows
open Dl (D R FE FT FA FO FS FI FB Fl FM FMT)
section
variable {K : PySem.W.Frag} {C : String → Addr} {E : XK} {Γ Δ Γ' Δ' Γ1 Δ1 Γl Δl : List Nat} {m m1 m2 mr n : Nat} {S S1 S2 : List (Nat × Bool)} {H : Hp}
noncomputable def MBOk (K : PySem.W.Frag) (C : String → Addr) (E : XK) (Γ Δ : List Nat) (t : TS) (G : FM) : Prop := ∀ (H0 Hb H : Hp) (σ : St) (ρ : DEnv) (A : Nat → List Addr) (D : Ends) (Q : VK), EnvOk K C H0 Hb H Γ Δ σ ρ A → D.rt = Q → (D.nx = fun _ H' => Q .non H') →
  Post (G ρ) (fun p => ∀ v H' σ' A' B, σ'[0]? = σ[0]? → EnvOk K C H0 Hb H' [0] [0] σ' p.2 A' → Rp K C H' p.1 v B → B.Nodup → (∀ a ∈ B, Hb a = none ∧ ∀ j, a ∉ A' j) → Q v H') (fun c x => ∀ H', Same H0 H' → EC C E c x H') → t D σ H
end
structure JM (X : Cx) (C : String → Addr) (E : XK) (Γ Δ : List Nat) (e : Expr) (t : TE) (f : FM) : Prop where
  q : QE X e t
  o : MOk X.K C E Γ Δ t f
structure JMT (X : Cx) (C : String → Addr) (E : XK) (Γ Δ : List Nat) (e : Expr) (t : TT) (f : FMT) : Prop where
  q : QT X e t
  o : MTOk X.K C E Γ Δ t f
structure JMW (X : Cx) (C : String → Addr) (E : XK) (Γ Δ : List Nat) (e : Expr) (t : TT) (f : FMT) : Prop where
  q : QW X e t
  o : MTOk X.K C E Γ Δ t f
structure JP (X : Cx) (C : String → Addr) (E : XK) (Γ Δ Γ' Δ' : List Nat) (s : Stmt) (t : TS) (f : FS) : Prop where
  q : QS X s t
  o : SOkP X.K C E Γ Δ Γ' Δ' t f
structure JMB (X : Cx) (C : String → Addr) (E : XK) (Γ Δ : List Nat) (s : List Stmt) (t : TS) (f : FM) : Prop where
  q : QSs X s t
  o : MBOk X.K C E Γ Δ t f
structure MDef (P : Program) (w : World) (K : PySem.W.Frag) (mg : Str → Option Value) (base : Heap) (CX : CXT) (k : Nat) (C : Addr) (x : Str) (ps : List Str) (sp : Sp) : Prop where
  ex : ∃ f fd, Meth K C x f ∧ Binds K fd ps [] ∧ FnOk P w K mg base CX k f fd ps sp
structure MkDef (P : Program) (w : World) (K : PySem.W.Frag) (mg : Str → Option Value) (base : Heap) (CX : CXT) (k : Nat) (C : Addr) (ps : List Str) (sp : Sp) : Prop where
  ex : ∃ f fd, Mk K C f ∧ Binds K fd ps [] ∧ FnOk P w K mg base CX k f fd ps sp
section
variable {X : Cx} {C : String → Addr} {E : XK} {Γ Δ Γ' Δ' Γ1 Δ1 Γl Δl : List Nat} {m m1 m2 mr n : Nat} {S S1 S2 : List (Nat × Bool)} {a b e o : Expr} {es rest : List Expr} {te : TE} {fe : FE} {t : TA} {fa : FA} {pos p p2 apos cpos : Pos} {c : String} {f md x : Str} {CX : CXT} {k : Nat} {ps : List Str} {s : Stmt} {ss : List Stmt} {tm : TE} {fm : FM} {u : TS} {g : FS}
end
end L2

namespace L2
open PySem PySem.Spec PyProof.Rows
open Dl (D R FE FT FA FO FS FI FB Fl FM FMT)
section
variable {K : PySem.W.Frag} {C : String → Addr} {E : XK} {Γ Δ Γ' Δ' Γ1 Δ1 Γl Δl : List Nat} {m m1 m2 mr n : Nat} {S S1 S2 : List (Nat × Bool)} {H : Hp}
end
section
variable {X : Cx} {C : String → Addr} {E : XK} {Γ Δ Γ' Δ' Γl Δl : List Nat} {m1 m2 n : Nat} {S2 : List (Nat × Bool)} {a b e : Expr} {es : List Expr} {ta tb : TE} {fa fb : FE} {t : TA} {ff : FA} {pos p p2 cpos : Pos} {x y : Str} {CX : CXT} {k : Nat} {ps : List Str}
end
theorem allN0 {P : List Value → Prop} (h : P []) : ∀ us : List Value, us.length = 0 → P us
  | [], _ => h
theorem allN1 {P : List Value → Prop} (h : ∀ a0, P [a0]) (us : List Value) (hl : us.length = 1) : P us := by
  cases us with
  | nil => exact absurd hl (by decide)
  | cons a us => exact allN0 (P := fun z => P (a :: z)) (h a) us (Nat.succ.inj hl)
theorem allN2 {P : List Value → Prop} (h : ∀ a0 a1, P [a0, a1]) (us : List Value) (hl : us.length = 2) : P us := by
  cases us with
  | nil => exact absurd hl (by decide)
  | cons a us => exact allN1 (P := fun z => P (a :: z)) (h a) us (Nat.succ.inj hl)
theorem allN3 {P : List Value → Prop} (h : ∀ a0 a1 a2, P [a0, a1, a2]) (us : List Value) (hl : us.length = 3) : P us := by
  cases us with
  | nil => exact absurd hl (by decide)
  | cons a us => exact allN2 (P := fun z => P (a :: z)) (h a) us (Nat.succ.inj hl)
theorem allN4 {P : List Value → Prop} (h : ∀ a0 a1 a2 a3, P [a0, a1, a2, a3]) (us : List Value) (hl : us.length = 4) : P us := by
  cases us with
  | nil => exact absurd hl (by decide)
  | cons a us => exact allN3 (P := fun z => P (a :: z)) (h a) us (Nat.succ.inj hl)
theorem walkX_of {q : Program} {loose : List Str} {XP : (Str → Option Value) → Heap → Prop} {K : Params → PySem.W.Frag} {as : List Addr} {n t : Nat} {r : PySem.W.RowW} {d : DefRec} {kwd : List (Str × Expr)} {run : Value → List Value → Sem Value}
    (e : ∀ P, as = (K P).map (·.1)) (W : PySem.W.WalkO q loose XP (PySem.W.InK K) r d kwd run) : PySem.W.WalkX q loose XP (PySem.W.X.obsZ as) (PySem.W.X.valZ K n t) r d kwd run :=
  fun w s₀ s₁ mg mb G y a o pm cd doc dV kV ho hd hcd hD hmg hg args vals as' L hpre hlay hrd hwl hlo =>
    W w s₀ s₁ mg mb G (PySem.W.InK.keeps w _ _ (PySem.W.X.z_facts e y).2.1 (PySem.W.Laid.keeps L)) a o pm cd doc dV kV ho hd hcd hD hmg hg args vals as' hpre hlay hrd hwl hlo
end L2

namespace L2
open PySem PySem.Spec PyProof.Rows
open Dl (D R FE FT FA FO FS FI FB Fl)
section
variable {K : PySem.W.Frag} {C : String → Addr} {E : XK} {Γ Δ Γ' Δ' Γl Δl : List Nat} {mr : Nat}
end
section
variable {X : Cx} {C : String → Addr} {E : XK} {Γ Δ Γl Δl : List Nat} {m2 mr n k : Nat} {S2 : List (Nat × Bool)} {es : List Expr} {t : TA} {ff : FA} {pos p p2 p3 cpos : Pos} {x y : Str} {CX : CXT} {ps : List Str}
end
end L2

namespace L2
open PySem PySem.Spec PyProof.Rows
noncomputable def excInI (K : PySem.W.Frag) (C : Addr) (bmB : List Value) (newId : String) (fI : Addr) : Bool := match K.lookup C with
  | some ⟨.type "type", _, .cls cd, sl⟩ => (match cd.mro, sl.toList with
    | .ref C' :: bm, [_, _, _, _, some (.builtin n), _] => C' == C && n == newId && !cd.hasDel && cd.hasDict && PySem.W.tailIn K bmB bm && PySem.W.nsOkIn K cd.ns && PySem.W.nsIn K cd.ns "__init__" == some (some (.ref fI))
    | _, _ => false)
  | _ => false
section
variable {prog : Program} {w : World} {A : Around} {E : Value → Shared → Prop} {h : Heap} {g : Array GenState} {d : Drawn} {t : Nat} {os : OsState}
variable {nm q : Str} {C N : Addr} {bs bm bmB : List Value} {hdct : Bool} {sn : List Str} {sub : List Value} {ab : Bool} {col : Option Bool} {dd : Option Addr} {k0 k1 k2 k3 k5 : Option Value} {B newId initId : String}
end
section
variable {prog : Program} {w : World} {A : Around} {E : Value → Shared → Prop} {s : Shared} {env : Env}
variable {nm q : Str} {C N : Addr} {bs bm bmB : List Value} {hdct : Bool} {sn : List Str} {sub : List Value} {ab : Bool} {col : Option Bool} {dd : Option Addr} {k0 k1 k2 k3 k5 : Option Value} {B newId initId : String}
end
end L2

namespace L2
open PySem PySem.Spec PyProof.Rows
open PySem.W (Looks)
open Builtin Builtin.ObjectAttr
section
variable {prog : Program} {w : World} {A : Around} {E : Value → Shared → Prop} {h : Heap} {g : Array GenState} {d : Drawn} {t : Nat} {os : OsState}
variable {nm q : Str} {C N x : Addr} {bs bm bmB : List Value} {sn : List Str} {sub : List Value} {ab : Bool} {col : Option Bool} {dd : Option Addr} {k0 k1 k2 k3 k5 : Option Value} {B newId sa owner : String}
  {name : Str} {v : Value} {fs : Array Value} {sl : Array (Option Value)}
end
end L2

namespace L2
open PySem PySem.Spec PyProof.Rows
open PySem.W (Looks)
section
variable {prog : Program} {w : World} {A : Around} {E : Value → Shared → Prop} {h : Heap} {g : Array GenState} {d : Drawn} {t : Nat} {os : OsState}
variable {nm q : Str} {C N x : Addr} {bs bm bmB : List Value} {hdct : Bool} {sn : List Str} {sub : List Value} {ab : Bool} {col : Option Bool} {dd : Option Addr} {k0 k1 k2 k3 k5 : Option Value} {B newId initId : String}
end
section
variable {prog : Program} {w : World} {A : Around} {E : Value → Shared → Prop} {h : Heap} {g : Array GenState} {d : Drawn} {t : Nat} {os : OsState} {a C dx : Addr} {o : Obj} {vs : Array Value} {mA : Str → Option Value} {v : Value} {name : Str}
end
end L2

namespace L2
open PySem PySem.Spec PyProof.Rows
open Dl (D R FE FT FA FO FS FI FB Fl)
structure ErrF (K : PySem.W.Frag) (C : Addr) (nm : Str) (fI : Addr) : Prop where
  exc : excInI K C bmV "ValueError.__new__" fI = true
  sa : PySem.W.findIn K (.ref C) "__setattr__" = some (some (.builtin "object.__setattr__"))
  nf : PySem.W.findIn K (.ref C) nm = some none
  hd : PySem.W.hasDictIn K C = true
noncomputable def exA (e C : Addr) (dx : Option Addr) : HO := .ext fun h => ∃ t sl, h.get? e = some { cls := .ref C, dict := dx, data := .fields #[.ref t, .none, .none, .none, .bool false, .none], slots := sl }
section
variable {X : Cx} {pins : List (Addr × Obj)} {σ : St} {H : Hp} {s : Shared}
end
structure BaseI (K : PySem.W.Frag) (B : Addr) : Prop where
  sp : PySem.W.specialIn K (.ref B) "__getattribute__" = some (some (.builtin "type.__getattribute__"))
  rd : PySem.W.readsIn K B (.type "type") = true
  fc : PySem.W.findCls K (.ref B) (.type "type") "__init__" = some (.val (.builtin "ValueError.__init__"))
section
variable {X : Cx} {e o value : Expr} {es : List Expr} {t : TA} {ta tv : TE} {pos pos' apos np : Pos} {b f : Str} {B : Addr}
end
noncomputable def spInit (K : PySem.W.Frag) (nm : Str) : Sp := fun vs H Q _ => ∃ e C i fI, vs = [.ref e, .int i] ∧ H e = some (exA e C none) ∧ ErrF K C nm fI ∧ i.natAbs.log2 < 1920 ∧ ∀ d, H d = none → Q .non (upd (upd H d (.xd [(nm, .int i)])) e (exA e C (some d)))
section
variable {P : Program} {w : World} {K : PySem.W.Frag} {mg : Str → Option Value} {base : Heap}
structure IDef (P : Program) (w : World) (K : PySem.W.Frag) (mg : Str → Option Value) (base : Heap) (C : Addr) (nm : Str) : Prop where
  ex : ∃ fI fd ps, ErrF K C nm fI ∧ PySem.W.typeIn K (.ref fI) = some (.type "function") ∧ ps.length = 2 ∧ Binds K fd ps [] ∧ FnOk P w K mg base CX0 1 fI fd ps (spInit K nm)
end
section
variable {K : PySem.W.Frag} {C : String → Addr} {E : XK} {Γ Δ Γ' Δ' Γl Δl : List Nat} {m mr : Nat} {S : List (Nat × Bool)}
end
section
variable {X : Cx} {C : String → Addr} {E : XK} {Γ Δ Γ' Δ' Γl Δl : List Nat} {m mr : Nat} {S : List (Nat × Bool)} {e : Expr} {te : TE} {fe : FE} {np cpos pos : Pos}
end
end L2

namespace L2
open PySem PySem.Spec PyProof.Rows
open Dl (D R FE FT FA FO FS FI FB Fl)
noncomputable def CMulB (i j : Int) : Prop := i.natAbs < 2 ^ 4000 ∧ j.natAbs < 2 ^ 4000
theorem CMulB.ok {i j : Int} (h : CMulB i j) : IntMulOk i j := PySem.IntMulOk.of_le (PySem.intBits_le_iff.mpr h.1) (PySem.intBits_le_iff.mpr h.2) (by decide)
section
variable {X : Cx}
theorem op_mulB : OpR X (binaryOp .Mult) (rI CMulB fun i j => .int (i * j)) := opI fun _ _ _ _ _ _ _ hc q => mul_int q hc.ok
end
theorem mulB_of {x y d : D} (e : Dl.gMulB x y = some d) : ∃ i j, x = .int i ∧ y = .int j ∧ CMulB i j ∧ d = .int (i * j) := by
  unfold Dl.gMulB at e
  split at e
  · split at e
    · rename_i h
      cases e
      exact ⟨_, _, rfl, rfl, h, rfl⟩
    · cases e
  · cases e
section
variable {K : PySem.W.Frag} {C : String → Addr} {E : XK} {Γ Δ Γ' Δ' Γl Δl : List Nat} {m mr : Nat} {S : List (Nat × Bool)}
theorem gok_mulB : GOk K C (rI CMulB fun i j => .int (i * j)) Dl.gMulB := by
  intro H x y d vx vy Bx By Q rx ry e q
  obtain ⟨i, j, rfl, rfl, hc, rfl⟩ := mulB_of e
  obtain ⟨rfl, _⟩ := rx
  obtain ⟨rfl, _⟩ := ry
  exact ⟨i, j, rfl, rfl, hc, Out.flat q rpI⟩
end
section
variable {X : Cx} {C : String → Addr} {E : XK} {Γ Δ Γ' Δ' Γl Δl : List Nat} {m m1 m2 mr : Nat} {S S1 S2 : List (Nat × Bool)} {a b e : Expr} {ta tb te : TE} {fa fb fe : FE} {pos pos' : Pos}
end
section
variable {K : PySem.W.Frag} {C : String → Addr} {E : XK} {Γ Δ Γ' Δ' Γk Δk : List Nat} {mr : Nat} {S : List (Nat × Bool)}
end
section
variable {X : Cx} {C : String → Addr} {E : XK} {Γ Δ Γk Δk : List Nat} {mr : Nat} {S : List (Nat × Bool)} {c iter : Expr} {ret : List Stmt} {u : TS} {g : FS} {pos p ip : Pos} {x : Str} {k : Nat}
end
end L2

namespace L2
open PySem PySem.Spec PyProof.Rows
open Dl (D R FE FT FA FO FS FI FB Fl)
structure Clz where
  c : Value
  i : Option Nat
  th : TS
noncomputable def tClz (K : PySem.W.Frag) (N : Nat) (D : Ends) (e : Addr) (cls : Value) (dx : Option Addr) (H' : Hp) : List Clz → Prop
  | [] => False
  | z :: r => ∃ b, PySem.W.exmOne K cls z.c = some b ∧ if b = true then (match z.i with
      | some i => ∀ σ' : St, σ'.length = N → z.th { nx := fun _ H2 => D.nx (List.replicate N none) H2, rt := D.rt, bk := fun _ H2 => D.bk (List.replicate N none) H2, ct := fun _ H2 => D.ct (List.replicate N none) H2 } (σ'.set i (some (.ref e))) (upd H' e (exO e cls dx))
      | none => ∀ σ' : St, σ'.length = N → z.th D σ' H')
    else tClz K N D e cls dx H' r
inductive PClz (X : Cx) : List ExceptHandler → List Clz → Prop
  | nil : PClz X [] []
  | named {c n : Str} {np hpos : Pos} {C : Addr} {b₀ : Stmt} {suite : List Stmt} {i : Nat} {th : TS} {hs : List ExceptHandler} {zs : List Clz} (hm : X.mg c = some (.ref C)) (hg : Gl X c) (hdb : (c == ("__debug__" : Str)) = false) (hi : X.N[i]? = some n) (hl : X.env.scope.names.lookup n = some .local)
      (hh : ∀ e : Addr, PSs (X.hand e) (b₀ :: suite) th) (hr : PClz X hs zs) : PClz X (.ExceptHandler (some (.Name c np)) (some n) (b₀ :: suite) hpos :: hs) (⟨.ref C, some i, th⟩ :: zs)
  | plain {c : Str} {np hpos : Pos} {C : Addr} {b₀ : Stmt} {suite : List Stmt} {th : TS} {hs : List ExceptHandler} {zs : List Clz} (hm : X.mg c = some (.ref C)) (hg : Gl X c) (hdb : (c == ("__debug__" : Str)) = false)
      (hh : ∀ e : Addr, PSs (X.hand e) (b₀ :: suite) th) (hr : PClz X hs zs) : PClz X (.ExceptHandler (some (.Name c np)) none (b₀ :: suite) hpos :: hs) (⟨.ref C, none, th⟩ :: zs)
section
variable {K : PySem.W.Frag} {C : String → Addr} {E : XK} {Γ Δ Γ1 Δ1 Γl Δl : List Nat} {mr : Nat}
inductive OClz (K : PySem.W.Frag) (C : String → Addr) (N mr : Nat) (Γl Δl Γ1 Δ1 : List Nat) : List Clz → List (List (String × Bool) × Option Nat × FS) → Prop
  | nil : OClz K C N mr Γl Δl Γ1 Δ1 [] []
  | named {c : Addr} {i : Nat} {th : TS} {fh : FS} {tb : List (String × Bool)} {Γ2 Δ2 : List Nat} {Eh : XK} {zs : List Clz} {ds : List (List (String × Bool) × Option Nat × FS)} (ht : ∀ p ∈ tb, PySem.W.exmOne K (.ref (C p.1)) (.ref c) = some p.2) (hi : i < N) (hh : SOk K C Eh mr [] [] [] [] Γ2 Δ2 th fh)
      (hr : OClz K C N mr Γl Δl Γ1 Δ1 zs ds) : OClz K C N mr Γl Δl Γ1 Δ1 (⟨.ref c, some i, th⟩ :: zs) ((tb, some i, fh) :: ds)
  | plain {c : Addr} {th : TS} {fh : FS} {tb : List (String × Bool)} {Eh : XK} {zs : List Clz} {ds : List (List (String × Bool) × Option Nat × FS)} (ht : ∀ p ∈ tb, PySem.W.exmOne K (.ref (C p.1)) (.ref c) = some p.2) (hh : SOk K C Eh mr Γl Δl [] [] Γ1 Δ1 th fh)
      (hr : OClz K C N mr Γl Δl Γ1 Δ1 zs ds) : OClz K C N mr Γl Δl Γ1 Δ1 (⟨.ref c, none, th⟩ :: zs) ((tb, none, fh) :: ds)
end
inductive JClz (X : Cx) (C : String → Addr) (mr : Nat) (Γl Δl Γ1 Δ1 : List Nat) : List ExceptHandler → List Clz → List (List (String × Bool) × Option Nat × FS) → Prop
  | mk {hs : List ExceptHandler} {zs : List Clz} {ds : List (List (String × Bool) × Option Nat × FS)} (p : PClz X hs zs) (o : OClz X.K C X.N.length mr Γl Δl Γ1 Δ1 zs ds) : JClz X C mr Γl Δl Γ1 Δ1 hs zs ds
section
variable {X : Cx} {C : String → Addr} {E : XK} {Γ Δ Γ1 Δ1 Γl Δl : List Nat} {mr : Nat} {np hpos pos : Pos} {hs : List ExceptHandler} {zs : List Clz} {ds : List (List (String × Bool) × Option Nat × FS)} {b₀ : Stmt} {suite : List Stmt} {th : TS} {fh : FS}
end
section
variable {X : Cx} {C : String → Addr} {E : XK} {Γ Δ Γl Δl : List Nat} {mr : Nat} {e : Expr} {te : TE} {fe : FE} {pos p apos cpos : Pos}
end
end L2

namespace L2
open PySem PySem.Spec PyProof.Rows
open Dl (D R FE FT FA FO FS FI FB Fl)
noncomputable def rLeS : R2 := fun x y H Q => ∃ u v, x = .str u ∧ y = .str v ∧ Q (.bl (!decide (v.cps.toList < u.cps.toList))) H
noncomputable def rMulS : R2 := fun x y H Q => ∃ u n, x = .str u ∧ y = .int n ∧ 1 ≤ n ∧ n ≤ 1000 ∧ u.length ≤ 1000 ∧ Q (.str (Dl.repS u n.toNat)) H
theorem repS_txt {x : Str} {n : Int} (h : 1 ≤ n) : Txt.mul x n = Dl.repS x n.toNat := by
  have e : ∀ (k : Nat) (acc : Array Nat), List.foldl (fun a b => a ++ b) acc (List.replicate k x.cps) = acc ++ (List.replicate k x.cps.toList).flatten.toArray := by
    intro k
    induction k with
    | zero => intro acc; simp
    | succ k ih => intro acc; rw [List.replicate_succ, List.foldl_cons, ih, List.replicate_succ, List.flatten_cons]; apply Array.toList_inj.mp; simp
  unfold Txt.mul Dl.repS
  rw [if_neg (by omega)]
  split
  · rename_i h1
    rw [Bool.or_eq_true] at h1
    rcases h1 with h1 | h1
    · have : n = 1 := by simpa using h1
      subst this
      cases x
      simp
    · have h0 : x.cps.toList = [] := by
        have : x.length = 0 := by simpa using h1
        have : x.cps.size = 0 := this
        simpa using this
      have : (List.replicate n.toNat x.cps.toList).flatten = [] := by rw [h0]; simp
      rw [this]
      cases x with
      | mk c =>
        have : c = #[] := by simpa using h0
        rw [this]
  · rw [e]
    simp
section
variable {X : Cx}
theorem op_leS : OpR X (compareOp .LtE) rLeS := by
  intro pins s σ H x y v u Q I rx ry h
  obtain ⟨a, b, rfl, rfl, q⟩ := h
  obtain ⟨t, rfl⟩ := rx
  obtain ⟨t', rfl⟩ := ry
  exact PySem.P.le_str ⟨.bl _, H, I, rfl, q⟩
theorem op_mulS : OpR X (binaryOp .Mult) rMulS := by
  intro pins s σ H x y v u Q I rx ry h
  obtain ⟨a, n, rfl, rfl, h1, h2, h3, q⟩ := h
  obtain ⟨t, rfl⟩ := rx
  obtain ⟨t', rfl⟩ := ry
  refine PySem.SB.mul ⟨by simp; omega, fun _ _ z => ?_, fun _ _ => ?_⟩ fun t'' k => ?_
  · have : (2 ^ 63 - 1) / n ≥ 1000 := by
      refine (Int.le_ediv_iff_mul_le (by omega)).mpr ?_
      omega
    omega
  · unfold Builtin.Str.tooLong
    have h5 : n.toNat ≤ 1000 := by omega
    have h6 := Nat.mul_le_mul h3 h5
    generalize a.length * n.toNat = z at h6
    rw [sizeLine_eq]
    simp
    omega
  · rw [repS_txt h1]
    exact ⟨.str _, H, I.tok _, ⟨_, rfl⟩, q⟩
noncomputable def Its (z : Str) : It := ⟨fun i _ => i < z.cps.size, fun i H x H' => H' = H ∧ ∃ c, z.cps[i]? = some c ∧ x = .str ⟨#[c]⟩, fun i _ => z.cps.size ≤ i⟩
noncomputable def iStr (tl : TE) : TI := fun σ H R => tl σ H fun x H1 => ∃ z, x = .str z ∧ R (Its z) H1
theorem turn_str {P : Program} {w : World} {K : PySem.W.Frag} {tg : Expr} (it : Addr) (z : Str) (t : Tok) {ty : String} (hty : ty = "str_ascii_iterator" ∨ ty = "str_iterator") : Turn P w K tg (Its z) [it] it (fun i h => h.IsStrIter it ty z t i ∧ i ≤ z.cps.size) where
  mem := by simp
  obj := fun i h st b hb => by
    have e : b = it := by simpa using hb
    subst e
    obtain ⟨⟨o, e, c, d⟩, _⟩ := st
    exact ⟨o, e, fun v z => by rw [d] at z; cases z⟩
  keep := fun i h h' st k => by
    obtain ⟨⟨o, e, c, d⟩, hi⟩ := st
    exact ⟨⟨o, k it (by simp) o e, c, d⟩, hi⟩
  item := by
    intro X hP hw hK hc i pins s σ H E I hf st hg
    subst hP hw hK
    obtain ⟨f0, f1, f2, f3, f4, f5⟩ := hf it (by simp)
    obtain ⟨st, hi⟩ := st
    have W : Walks X.prog X.w X.A it [it] [it] z.cps.size (SignAt z) fun i h => h.IsStrIter it ty z t i := by
      rcases hty with rfl | rfl
      · exact Walks.strAscii (I.ok.hd hc) it z t
      · exact Walks.strWide (I.ok.hd hc) it z t
    refine W.item i s _ _ hg st fun v h' tk hv st' kk => ?_
    obtain ⟨c, u, hcu, rfl⟩ := hv
    have I1 : Inv X pins σ H { s with heap := h', toks := tk } := I.turned (fun b o hb e => kk b o (by simpa using hb) e) f0 f1 f3 f4 f5
    have hg' : i < z.cps.size := hg
    obtain ⟨o, e, c', d⟩ := id st'
    refine ⟨_, rfl, go_of (s := { s with heap := h', toks := tk }) (n := ty) e c' d (by rcases hty with rfl | rfl <;> decide) ⟨.str ⟨#[c]⟩, H, I1, ⟨u, rfl⟩, ⟨rfl, c, hcu, rfl⟩, ⟨st', by omega⟩, fun b hb => (hf b hb).1⟩⟩
  done := by
    intro X hP hw hK hc i pins s σ H E I hf st hg
    subst hP hw hK
    obtain ⟨f0, f1, f2, f3, f4, f5⟩ := hf it (by simp)
    obtain ⟨st, hi⟩ := st
    have hg' : z.cps.size ≤ i := hg
    have hi' : i = z.cps.size := by omega
    subst hi'
    have W : Walks X.prog X.w X.A it [it] [it] z.cps.size (SignAt z) fun i h => h.IsStrIter it ty z t i := by
      rcases hty with rfl | rfl
      · exact Walks.strAscii (I.ok.hd hc) it z t
      · exact Walks.strWide (I.ok.hd hc) it z t
    exact W.done s _ _ st fun h' tk eb => ⟨rfl, I.turned (fun b o hb e => eb b o (by simpa using hb) e) f0 f1 f3 f4 f5⟩
  self := fun _ _ _ _ _ st h => by
    rcases hty with rfl | rfl
    · exact wpAny_pyIter_striter_ascii st.1 h
    · exact wpAny_pyIter_striter_wide st.1 h
theorem pi_str {tg l : Expr} {tl : TE} (hl : PE X l tl) : PI X tg l (iStr tl) := by
  intro pins s σ H R I h
  refine thn (hl pins s σ H _ I h) fun v s1 hz9 => ?_
  obtain ⟨x, H1, I1, r1, q1⟩ := hz9
  obtain ⟨z, e, q⟩ := q1
  subst e
  obtain ⟨t, rfl⟩ := r1
  refine wpAny_pyIter_strU ?_
  refine ⟨s1.heap.objs.size, [s1.heap.objs.size], _, _, H1, rfl, I1.kept (t' := s1.toks) fun b o e => Heap.get?_push_of_some _ e, turn_str _ z t (ty := strIterType z) (by unfold strIterType; split; exact .inl rfl; exact .inr rfl), ⟨⟨_, Heap.get?_push_size _ rfl, rfl, rfl⟩, Nat.zero_le _⟩, fun b hb => ?_, q⟩
  have e : b = s1.heap.objs.size := by simpa using hb
  subst e
  exact I1.fpOk (Nat.le_refl _) (I1.hok.fresh (Nat.le_refl _))
noncomputable def rDin : R2 := fun x y H Q => ∃ a o, y = .ref a ∧ DGet H a x o ∧ Q (.bl o.isSome) H
theorem op_din (hu : X.A.units + 64 < cLine) : OpR X (compareOp .In) rDin := by
  intro pins s σ H x y v u Q I rx ry h
  obtain ⟨a, o, rfl, g, q⟩ := h
  cases (show u = Value.ref a from ry)
  exact d_in (by omega) I g rx fun s3 I3 => ⟨.bl o.isSome, H, I3, rfl, q⟩
noncomputable def rSetD : V → V → V → Hp → (Hp → Prop) → Prop := fun o i v H Q => ∃ a H4, o = .ref a ∧ DPut H a i v H4 ∧ Q H4
theorem set_dict (hu : X.A.units + 64 < cLine) : PSet X rSetD := by
  intro pins s σ H o i v ov iv u Q I ro ri rv h
  obtain ⟨a, H4, rfl, g, q⟩ := h
  cases (show ov = Value.ref a from ro)
  exact d_setItem (by omega) I g ri rv fun s4 I4 => ⟨H4, I4, q⟩
end
section
variable {K : PySem.W.Frag} {C : String → Addr} {E : XK} {Γ Δ Γl Δl : List Nat} {m m1 m2 mr : Nat} {S S1 S2 : List (Nat × Bool)} {H : Hp}
theorem bl_leS {x y d : D} (e : Dl.gLeS x y = some d) : ∃ b, d = .bl b := by
  unfold Dl.gLeS at e
  split at e <;> cases e
  exact ⟨_, rfl⟩
theorem gok_leS : GOk K C rLeS Dl.gLeS := by
  intro H x y d vx vy Bx By Q rx ry e q
  unfold Dl.gLeS at e
  split at e
  · cases e
    obtain ⟨rfl, _⟩ := rx
    obtain ⟨rfl, _⟩ := ry
    exact ⟨_, _, rfl, rfl, Out.flat q rpB⟩
  · cases e
theorem strOk_all {x : Str} : PyData.strOk x = true ↔ ∀ c ∈ x.cps.toList, c < 1114112 := by
  unfold PyData.strOk
  rw [Array.all_eq_true']
  simp
theorem gok_mulS : GOk K C rMulS Dl.gMulS := by
  intro H x y d vx vy Bx By Q rx ry e q
  unfold Dl.gMulS at e
  split at e
  · split at e
    · rename_i h
      cases e
      obtain ⟨rfl, h1, _⟩ := rx
      obtain ⟨rfl, _⟩ := ry
      refine ⟨_, _, rfl, rfl, h.1, h.2.1, h.2.2, Out.flat q ⟨rfl, ?_, rfl⟩⟩
      rw [strOk_all] at h1 ⊢
      intro c hc
      unfold Dl.repS at hc
      simp only [List.mem_flatten] at hc
      obtain ⟨l, h2, h3⟩ := hc
      rw [List.eq_of_mem_replicate h2] at h3
      exact h1 c h3
    · cases e
  · cases e
theorem RpA.strs : ∀ {cs : List Nat}, (∀ c ∈ cs, c < 1114112) → RpA K C H (cs.map fun c => D.str ⟨#[c]⟩) (cs.map fun c => V.str ⟨#[c]⟩) []
  | [], _ => RpA.nil
  | c :: cs, h => ⟨_, _, [], [], rfl, ⟨rfl, strOk_all.mpr fun d hd => by
      have : d = c := by simpa using hd
      subst this
      exact h d (.head _), rfl⟩, RpA.strs fun d hd => h d (.tail _ hd), rfl⟩
theorem iok_str {t : TE} {f : FE} (h : EOk K C E Γ Δ m S t f) : IOk K C E Γ Δ [] (iStr t) (Dl.jStr f) := fun H0 Hb H σ ρ A Rr I p => h H0 Hb H σ ρ A _ I (p.bind.imp (fun d q v H' g r => by
  obtain ⟨B, r, r', _⟩ := r
  cases d with
  | str z =>
    obtain ⟨rfl, hz, _⟩ := r
    simp only at q
    split at q
    · rename_i hl
      refine ⟨z, rfl, q _ H' [] g (fun b hb => nomatch hb) (by rw [List.length_map]; exact hl) fun Hc h2 => goes_of (RpA.strs (strOk_all.mp hz)) fun H2 _ => ?_⟩
      have hl : (z.cps.toList.map fun c => V.str ⟨#[c]⟩).length = z.cps.size := by simp
      rw [hl]
      refine ⟨fun i hi => hi, fun i hi => hi, fun i x H3 y => ⟨y.1, fun hi => ?_⟩⟩
      obtain ⟨_, c, hc, rfl⟩ := y
      rw [List.getElem?_map, Array.getElem?_toList, hc]
      rfl
    · exact q.elim
  | _ => exact q.elim) fun c x q H' g' => q H' g')
theorem keyD_kV {x : D} {k : Int ⊕ Str} {v : V} {B : List Addr} (e : Dl.keyD x = some k) (r : Rp K C H x v B) : v = kV k := by
  cases x with
  | int i => cases e; exact r.1
  | str z => cases e; exact r.1
  | _ => cases e
theorem any_zip {k : Int ⊕ Str} : ∀ {ks : List (Int ⊕ Str)} {xs : List V}, ks.length = xs.length → ((ks.zip xs).any fun kv => decide (kv.1 = k)) = Dl.dHas ks k
  | [], _, _ => rfl
  | j :: ks, [], h => by cases h
  | j :: ks, x :: xs, h => by
    have := any_zip (k := k) (ks := ks) (xs := xs) (by simpa using h)
    unfold Dl.dHas at *
    rw [List.zip_cons_cons, List.any_cons, List.any_cons, this]
theorem val_zip {k : Int ⊕ Str} {ks : List (Int ⊕ Str)} {xs : List V} (h : ks.length = xs.length) : (valV (ks.zip xs) k).isSome = Dl.dHas ks k := by
  rw [← valV_any, any_zip h]
theorem gok_din : GOk K C rDin Dl.gDin := by
  intro H x y d vx vy Bx By Q rx ry e q
  unfold Dl.gDin at e
  split at e
  · rename_i k ks ds hk
    cases e
    obtain ⟨a, xs, B, rfl, h1, h2, h3, _⟩ := ry
    have hv := keyD_kV hk rx
    subst hv
    refine ⟨a, _, rfl, DGet.k h1, ?_⟩
    rw [val_zip (by rw [h2, h3.len])]
    exact Out.flat q rpB
  · cases e
theorem eok_dnew : EOk K C E Γ Δ 2 [] tDNewK (Dl.fC (.dct [] [])) := fun H0 Hb H σ ρ A Q I p q hp => by
  refine p _ _ (sameNew hp _) ⟨[q], ⟨q, [], [], rfl, upd_same, rfl, RpA.nil, rfl⟩, fun a ha => ?_, fun z => by omega, fun _ => List.nodup_cons.mpr ⟨(fun z => nomatch z), List.nodup_nil⟩⟩
  have : a = q := by simpa using ha
  subst this
  exact .inl hp
theorem putK_zip {k : Int ⊕ Str} {v : V} : ∀ {ks : List (Int ⊕ Str)} {xs : List V}, ks.length = xs.length → (ks.zip xs).map (fun kv => if kv.1 = k then (kv.1, v) else kv) = ks.zip (List.zipWith (fun j x => if j = k then v else x) ks xs)
  | [], _, _ => rfl
  | j :: ks, [], h => by cases h
  | j :: ks, x :: xs, h => by
    have := putK_zip (k := k) (v := v) (ks := ks) (xs := xs) (by simpa using h)
    rw [List.zip_cons_cons, List.map_cons, this, List.zipWith_cons_cons, List.zip_cons_cons]
    congr 1
    by_cases e : j = k
    · simp [e]
    · simp [e]
theorem RpA.repl {k : Int ⊕ Str} {d : D} {v : V} (r : Rp K C H d v []) : ∀ {ks : List (Int ⊕ Str)} {ds : List D} {xs : List V}, RpA K C H ds xs [] → Dl.flatA ds = true → RpA K C H (List.zipWith (fun j x => if j = k then d else x) ks ds) (List.zipWith (fun j x => if j = k then v else x) ks xs) []
  | [], ds, xs, _, _ => by cases ds <;> cases xs <;> exact RpA.nil
  | j :: ks, [], xs, q, _ => by
    rw [q.1]
    exact RpA.nil
  | j :: ks, x :: ds, xs, q, h => by
    obtain ⟨y, l, B, B', e1, e2, e3, e4⟩ := q
    simp only [Dl.flatA, Bool.and_eq_true] at h
    subst e1
    have z := e2.flat h.1
    subst z
    refine ⟨_, _, [], [], rfl, ?_, RpA.repl r (e3.flat' h.2) h.2, rfl⟩
    show Rp K C H (if j = k then d else x) (if j = k then v else y) []
    by_cases e : j = k
    · rw [if_pos e, if_pos e]
      exact r
    · rw [if_neg e, if_neg e]
      exact e2
theorem RpA.snoc0 {d : D} {v : V} (r : Rp K C H d v []) : ∀ {ds : List D} {xs : List V}, RpA K C H ds xs [] → RpA K C H (ds ++ [d]) (xs ++ [v]) []
  | [], xs, q => by
    rw [q.1]
    exact ⟨v, [], [], [], rfl, r, RpA.nil, rfl⟩
  | x :: ds, xs, q => by
    obtain ⟨y, l, B, B', e1, e2, e3, e4⟩ := q
    obtain ⟨rfl, rfl⟩ := List.append_eq_nil_iff.mp e4.symm
    subst e1
    exact ⟨y, _, [], [], rfl, e2, RpA.snoc0 r e3, rfl⟩
theorem slot_dct {H0 Hb H : Hp} {σ : St} {ρ : Dl.Env} {A : Nat → List Addr} {i : Nat} {ks : List (Int ⊕ Str)} {ds : List D} (I : EnvOk K C H0 Hb H Γ Δ σ ρ A) (e : ρ[i]? = some (some (.dct ks ds))) : ∃ a xs l, σ[i]? = some (some (.ref a)) ∧ H a = some (.dK (ks.zip xs)) ∧ ks.length = ds.length ∧ RpA K C H ds xs l ∧ A i = a :: l ∧ i < ρ.length := by
  obtain ⟨v, h1, h2⟩ := I.rep i _ e
  obtain ⟨a, xs, B, rfl, h3, h4, h5, h6⟩ := h2
  exact ⟨a, xs, B, h1, h3, h4, h5, h6, (List.getElem?_eq_some_iff.mp e).1⟩
theorem sok_dput {i : Nat} {te tk : TE} {fe fk : FE} (hi : autoParam (i ∈ Γ) aT1._auto_1) (he : EOk K C E Γ Δ m1 S1 te fe) (hk : EOk K C E Γ Δ m2 S2 tk fk) : SOk K C E mr Γl Δl Γ Δ Γ Δ (tAsg te (gSub (tVar i) tk rSetD)) (Dl.sDPut i fk fe) := fun H0 Hb H σ ρ A D I p => by
  refine he H0 Hb H σ ρ A _ I (Post.imp (Post.bind p) (fun d q v H1 g1 r => ?_) fun c x q H' g' => q H' (Same.from0 I g'))
  have I1 := I.mono g1
  split at q
  · rename_i ks ds e
    obtain ⟨a, xs, l, s1, h1, h2, r1, hA, hl⟩ := slot_dct I1 e
    refine ⟨.ref a, s1, hk H0 Hb H1 σ ρ A _ I1 (Post.imp (Post.bind q) (fun z q w H2 g2 rz => ?_) fun c x q H' g' => q H' (Same.from0 I1 g'))⟩
    obtain ⟨Bz, rz, _⟩ := rz
    obtain ⟨B, rd, _⟩ := r
    split at q
    · rename_i k hk
      split at q
      · rename_i hf
        have hv := keyD_kV hk rz
        subst hv
        have zB := rd.flat hf.1
        subst zB
        have hx : ks.length = xs.length := by rw [h2, r1.len]
        have r2 := (r1.same g2).flat' hf.2.1
        have rd2 := rd.same g2
        have I2 := I1.mono g2
        refine ⟨a, _, rfl, DPut.k (g2 _ _ h1) (Nat.lt_of_le_of_lt (by rw [List.length_zip]; exact Nat.min_le_left _ _) (limLine' hf.2.2)), ?_⟩
        unfold Dl.dPut at q
        unfold putK
        rw [any_zip hx]
        split at q
        · rename_i hh
          rw [if_pos hh, putK_zip hx]
          obtain ⟨A', I'⟩ := I2.writeO (Γ' := Γ) (Δ' := Δ) (o' := .dK (ks.zip (List.zipWith (fun j x => if j = k then v else x) ks xs))) (d' := .dct ks (List.zipWith (fun j x => if j = k then d else x) ks ds)) hi hA hl s1 (fun H' q1 q2 => ⟨a, _, _, rfl, q1, by rw [List.length_zipWith, h2, Nat.min_self], q2, rfl⟩) (RpA.repl rd2 r2 hf.2.1) (fun _ z => nomatch z) (fun z => nomatch z) (fun j hj _ => ⟨hj, fun _ _ _ z => nomatch z⟩) (fun j hj _ => ⟨hj, fun _ _ z => nomatch z⟩) (fun _ => ⟨List.nodup_nil, (fun _ _ _ z => nomatch z), (fun _ z => nomatch z)⟩)
          exact q _ _ A' I'
        · rename_i hh
          rw [if_neg hh, show ks.zip xs ++ [(k, v)] = (ks ++ [k]).zip (xs ++ [v]) by rw [List.zip_append hx]; rfl]
          obtain ⟨A', I'⟩ := I2.writeO (Γ' := Γ) (Δ' := Δ) (o' := .dK ((ks ++ [k]).zip (xs ++ [v]))) (d' := .dct (ks ++ [k]) (ds ++ [d])) hi hA hl s1 (fun H' q1 q2 => ⟨a, _, _, rfl, q1, by simp [h2], q2, rfl⟩) (RpA.snoc0 rd2 r2) (fun _ z => nomatch z) (fun z => nomatch z) (fun j hj _ => ⟨hj, fun _ _ _ z => nomatch z⟩) (fun j hj _ => ⟨hj, fun _ _ z => nomatch z⟩) (fun _ => ⟨List.nodup_nil, (fun _ _ _ z => nomatch z), (fun _ z => nomatch z)⟩)
          exact q _ _ A' I'
      · exact q.elim
    · exact q.elim
  · exact q.elim
end
section
variable {X : Cx} {C : String → Addr} {E : XK} {Γ Δ Γ' Δ' Γl Δl : List Nat} {m m1 m2 mr : Nat} {S S1 S2 : List (Nat × Bool)} {a b e tg : Expr} {ta tb te : TE} {fa fb fe : FE} {p p2 pos : Pos}
theorem ci_str (h : JE X C E Γ Δ m S e te fe) : JI X C E Γ Δ [] tg e (iStr te) (Dl.jStr fe) := ⟨⟨pi_str h.q.out⟩, iok_str h.o⟩
theorem ce_dnew : JE X C E Γ Δ 2 [] (.Dict [] [] pos) tDNewK (Dl.fC (.dct [] [])) := ⟨⟨pe_dnewK⟩, eok_dnew⟩
theorem cs_dput {i : Nat} {x : Str} {kx : Expr} {tk : TE} {fk : FE} (hi : autoParam (i ∈ Γ) aT1._auto_1) (hN : autoParam (X.N[i]? = some x) aT2._auto_1) (hv : autoParam (Vis X.env.scope x) aT3._auto_1) (hd : autoParam ((x == ("__debug__" : Str)) = false) aT1._auto_1) (hcd : autoParam ((x == ("__classdict__" : Str)) = false) aT1._auto_1)
    (he : JE X C E Γ Δ m1 S1 e te fe) (hk : JE X C E Γ Δ m2 S2 kx tk fk) (hs : autoParam (swapsWithSole [.Subscript (.Name x p) kx p2] e pos.line X.env = pure false) aT2._auto_1) (hw : autoParam (swappedStores [.Subscript (.Name x p) kx p2] e X.env = pure none) aT2._auto_1) (h1 : autoParam ((assignEach [.Subscript (.Name x p) kx p2] X.env).map (·.2) = [assign (.Subscript (.Name x p) kx p2) X.env]) aT2._auto_1)
    (hq : ∀ v, assign (.Subscript (.Name x p) kx p2) X.env v = (do
      let ov ← holding [v] (eval (.Name x p) X.env)
      let iv ← holding [v, ov] (eval kx X.env)
      standAt p2
      holding [v, ov, iv] (setItem ov iv v)
      release [v, ov, iv] []) := by intro _; rfl) (hu : X.A.units + 64 < cLine) :
    JS X C E mr Γl Δl Γ Δ Γ Δ (.Assign [.Subscript (.Name x p) kx p2] e pos) (tAsg te (gSub (tVar i) tk rSetD)) (Dl.sDPut i fk fe) := ⟨qs_asg he.q (qg_sub (qv i hN hv hd hcd) hk.q (set_dict hu) hq) hs hw h1, sok_dput hi he.o hk.o⟩
end
end L2

namespace L2
open PySem PySem.Spec PyProof.Rows
open Dl (D R FE FT FA FO FS FI FB Fl)
theorem intS_eq (i : Int) : Str.ofString (toString i) = Dl.intS i := by
  have hn : ∀ n : Nat, (toString n).toList.map Char.toNat = Dl.digL n := fun n => by
    show (Nat.repr n).toList.map Char.toNat = (Nat.toDigits 10 n).map Char.toNat
    rw [show Nat.repr n = String.ofList (Nat.toDigits 10 n) from rfl]
    simp
  rw [PySem.Str.ofString_eq_toList]
  unfold Dl.intS Dl.intL
  cases i with
  | ofNat n =>
    rw [if_neg (by simp)]
    exact congrArg (fun l => (⟨List.toArray l⟩ : Str)) (hn n)
  | negSucc n =>
    rw [if_pos (by simp [Int.negSucc_lt_zero])]
    have e : (toString (Int.negSucc n)).toList = '-' :: (toString (n + 1)).toList := by
      show ("-" ++ Nat.repr (n + 1)).toList = _
      rw [String.toList_append]
      rfl
    rw [e, List.map_cons, hn]
    rfl
theorem log2_lt400 {n : Nat} (h : n < 2 ^ 400) : n.log2 < 1920 := by
  by_cases h0 : n = 0
  · subst h0; decide
  · exact Nat.lt_trans ((Nat.log2_lt h0).mpr h) (by decide)
theorem digL_ok (n : Nat) : ∀ c ∈ Dl.digL n, 48 ≤ c ∧ c ≤ 57 := by
  intro c hc
  unfold Dl.digL at hc
  obtain ⟨d, hd, rfl⟩ := List.mem_map.mp hc
  have := Nat.isDigit_of_mem_toDigits (by decide) (by decide) hd
  unfold Char.isDigit at this
  rw [Bool.and_eq_true] at this
  obtain ⟨h1, h2⟩ := this
  have h1' := of_decide_eq_true h1
  have h2' := of_decide_eq_true h2
  exact ⟨UInt32.le_iff_toNat_le.mp h1', UInt32.le_iff_toNat_le.mp h2'⟩
theorem intL_ok (i : Int) : ∀ c ∈ Dl.intL i, 45 ≤ c ∧ c ≤ 57 := by
  intro c hc
  unfold Dl.intL at hc
  split at hc
  · rcases List.mem_cons.mp hc with rfl | h
    · decide
    · have := digL_ok _ c h
      omega
  · have := digL_ok _ c hc
    omega
theorem intS_ok (i : Int) : PyData.strOk (Dl.intS i) = true := strOk_all.mpr fun c hc => by
  have := intL_ok i c (by simpa [Dl.intS] using hc)
  omega
section
variable {X : Cx}
noncomputable def rStrI : List V → Hp → VK → Prop := fun vs H Q => ∃ i, vs = [.int i] ∧ i.natAbs < 2 ^ 400 ∧ Q (.str (Dl.intS i)) H
theorem call_strI : CallR X (.type "str") rStrI := by
  intro pins s σ H xs us Q I r h
  obtain ⟨i, rfl, hi, q⟩ := h
  obtain ⟨u, rfl, rx⟩ := vals1 r
  obtain ⟨t, rfl⟩ := rx
  refine PySem.P.str_of_int (log2_lt400 hi) ?_
  rw [intS_eq]
  exact ⟨.str _, H, I.tok _, ⟨_, rfl⟩, q⟩
noncomputable def rIntS : List V → Hp → VK → Prop := fun vs H Q => ∃ x n, vs = [.str x] ∧ x.length ≤ 600 ∧ intText? x = some n ∧ Q (.int n) H
theorem call_intS : CallR X (.type "int") rIntS := by
  intro pins s σ H xs us Q I r h
  obtain ⟨x, n, rfl, hx, hn, q⟩ := h
  obtain ⟨u, rfl, rx⟩ := vals1 r
  obtain ⟨t, rfl⟩ := rx
  exact PySem.W.KIN.call_text hn (by omega) ⟨.int n, H, I.tok _, ⟨_, rfl⟩, q⟩
noncomputable def tFx (te : TE) : TE := fun σ H Q => te σ H fun x H1 => (∃ i, x = .int i ∧ i.natAbs < 2 ^ 400 ∧ Q (.str (Dl.intS i)) H1) ∨ ∃ z, x = .str z ∧ z.length ≤ 1000 ∧ Q (.str z) H1
theorem qe_fx {e : Expr} {te : TE} {pos : Pos} (he : QE X e te) : QE X (.FormattedValue e (-1) none pos) (tFx te) := ⟨fun pins s σ H Q I q =>
  FormattedValue_plain (thn (he.out pins s σ H _ I q) fun v s1 ⟨x, H1, I1, r1, z⟩ => by
    rcases z with ⟨i, rfl, hi, q1⟩ | ⟨z, rfl, hz, q1⟩
    · obtain ⟨tk, rfl⟩ := r1
      refine formatField_int_small (log2_lt400 hi) ?_
      rw [intS_eq]
      exact ⟨.str _, H1, I1.tok _, ⟨_, rfl⟩, q1⟩
    · obtain ⟨tk, rfl⟩ := r1
      exact wpAny_formatField_str ⟨.str z, H1, I1, ⟨_, rfl⟩, q1⟩ ⟨.str z, H1, I1.tok _, ⟨_, rfl⟩, q1⟩ (Nat.le_trans hz (by rw [sizeLine_eq]; decide)))⟩
noncomputable abbrev TX := Str → St → Hp → VK → Prop
noncomputable def PX (X : Cx) (es : List Expr) (t : TX) : Prop :=
  ∀ (out : Str) (pins : List (Addr × Obj)) (s : Shared) (σ : St) (H : Hp) (Q : VK), Inv X pins σ H s → out.length + 2000 * es.length ≤ sizeLine → t out σ H Q →
    wpAny (model X.prog X.w) X.A (joinParts out (evalEach es X.env)) (EP X pins σ Q) X.xe s
noncomputable def xNil : TX := fun out _ H Q => Q (.str out) H
noncomputable def xCons (te : TE) (t : TX) : TX := fun out σ H Q => te σ H fun x H1 => ∃ y, x = .str y ∧ y.length ≤ 2000 ∧ t (out ++ y) σ H1 Q
noncomputable def tJx (t : TX) : TE := t Str.empty
theorem px_nil : PX X [] xNil := by
  intro out pins s σ H Q I hz q
  exact joinParts_nil ⟨.str out, H, I.tok _, ⟨_, rfl⟩, q⟩ (by simpa using hz)
theorem px_cons {e : Expr} {es : List Expr} {te : TE} {t : TX} (he : PE X e te) (hr : PX X es t) (hv : evalEach (e :: es) X.env = eval e X.env :: evalEach es X.env) : PX X (e :: es) (xCons te t) := by
  intro out pins s σ H Q I hz q
  rw [hv]
  refine joinParts_cons (thn (he pins s σ H _ I q) fun v s1 hz9 => ?_)
  obtain ⟨x, H1, I1, r1, y, ex, hl, q1⟩ := hz9
  subst ex
  obtain ⟨tk, rfl⟩ := r1
  have e1 : (out ++ y).length = out.length + y.length := strLen_append ..
  rw [List.length_cons] at hz
  exact ⟨by omega, hr (out ++ y) pins s1 σ H1 Q I1 (by omega) q1⟩
theorem qe_jx {a b : Expr} {es : List Expr} {t : TX} {pos : Pos} (h : PX X (a :: b :: es) t) (hn : autoParam (es.length ≤ 100) aT1._auto_1) (hv : autoParam (evalEach (a :: b :: es) X.env = eval a X.env :: eval b X.env :: evalEach es X.env) aT2._auto_1) : QE X (.JoinedStr (a :: b :: es) pos) (tJx t) := ⟨fun pins s σ H Q I q =>
  JoinedStr_many (by
    have hz : (Str.empty).length + 2000 * (a :: b :: es).length ≤ sizeLine := by
      have e0 : (Str.empty).length = 0 := rfl
      rw [e0, List.length_cons, List.length_cons, sizeLine_eq]
      omega
    have q' := h Str.empty pins s σ H Q I hz q
    rw [hv] at q'
    exact q')⟩
theorem relS {x : Str} {t : Tok} : RelV (.str x) (.str x t) := ⟨t, rfl⟩
noncomputable def rStart : V → List V → Hp → VK → Prop := fun x vs H Q => ∃ z c, x = .str z ∧ vs = [.str ⟨#[c]⟩] ∧ Q (.bl (decide (z.cps.toList[0]? = some c))) H
theorem mt_start : MtR X "str.startswith" rStart := by
  intro pins s σ H x vs v us Q I rx rv h
  obtain ⟨z, c, rfl, rfl, q⟩ := h
  obtain ⟨tk, rfl⟩ := rx
  obtain ⟨u, rfl, ru⟩ := rv.one
  obtain ⟨tu, rfl⟩ := ru
  refine PySem.SC.startswith ?_
  have e : Txt.startswith z ⟨#[c]⟩ = decide (z.cps.toList[0]? = some c) := by
    rw [Bool.eq_iff_iff, decide_eq_true_iff, ← StrLaws.subAt_one z c 0]
    unfold Txt.startswith
    rw [Bool.and_eq_true, decide_eq_true_iff]
  rw [e]
  exact ⟨.bl _, H, I, rfl, q⟩
theorem vals_from : ∀ (ts : List Str) (k : Nat), Vals (ts.map V.str) (strsFrom k ts)
  | [], _ => .nil
  | t :: ts, k => .cons relS (vals_from ts (k + 1))
noncomputable def rSplit : V → List V → Hp → VK → Prop := fun x vs H Q => ∃ z y, x = .str z ∧ vs = [.str y] ∧ (y.length == 0) = false ∧ z.length + 2 ≤ sizeLine ∧ ∀ p, H p = none → Q (.ref p) (upd H p (.lst ((Txt.split z y).map V.str)))
theorem mt_split : MtR X "str.split" rSplit := by
  intro pins s σ H x vs v us Q I rx rv h
  obtain ⟨z, y, rfl, rfl, hy, hz, q⟩ := h
  obtain ⟨tk, rfl⟩ := rx
  obtain ⟨u, rfl, ru⟩ := rv.one
  obtain ⟨tu, rfl⟩ := ru
  have hf : H s.heap.objs.size = none := I.hok.fresh (Nat.le_refl _)
  have q' := q _ hf
  have hl := (fact_split z y).2
  unfold Txt.split at q' hl
  by_cases h1 : (decide (z.length < y.length) || decide (Builtin.Str.strKind z < Builtin.Str.strKind y)) = true
  · rw [if_pos h1] at q'
    refine call_meets F.slot_str_split (typeIs_str _ z tk) F.entry_str_split (F.args_str_split_2 _ _) (meets_str_split_cannot_occur z y tk tu h1) ?_
    exact ⟨.ref s.heap.objs.size, _, I.lnew (.cons relS .nil) (by show 1 ≤ _; rw [sizeLine_eq]; decide), rfl, q'⟩
  · rw [if_neg h1] at q' hl
    have h1' := Bool.eq_false_iff.mpr h1
    by_cases h2 : (Builtin.Str.occurrences z y 0 z.length (z.length + 1)).isEmpty = true
    · rw [if_pos h2] at q'
      refine call_meets F.slot_str_split (typeIs_str _ z tk) F.entry_str_split (F.args_str_split_2 _ _) (meets_str_split_not_found z y tk tu h1' hy h2) ?_
      exact ⟨.ref s.heap.objs.size, _, I.lnew (.cons relS .nil) (by show 1 ≤ _; rw [sizeLine_eq]; decide), rfl, q'⟩
    · rw [if_neg h2] at q' hl
      refine call_meets F.slot_str_split (typeIs_str _ z tk) F.entry_str_split (F.args_str_split_2 _ _) (meets_str_split_sep z y tk tu h1' hy (Bool.eq_false_iff.mpr h2) (by omega) (by omega)) ?_
      exact ⟨.ref s.heap.objs.size, _, I.lnew (vals_from _ _) (by rw [List.length_map]; omega), rfl, q'⟩
end
theorem splitL_free {c : Nat} : ∀ {w : List Nat}, c ∉ w → Dl.splitL c w = [w]
  | [], _ => rfl
  | x :: r, h => by
    have h1 : ¬ x = c := fun z => h (by rw [z]; exact .head _)
    rw [Dl.splitL, if_neg h1, splitL_free (fun z => h (.tail _ z))]
theorem splitL_app {c : Nat} : ∀ {w : List Nat} (r : List Nat), c ∉ w → Dl.splitL c (w ++ c :: r) = w :: Dl.splitL c r
  | [], r, _ => by rw [List.nil_append, Dl.splitL, if_pos rfl]
  | x :: w, r, h => by
    have h1 : ¬ x = c := fun z => h (by rw [z]; exact .head _)
    rw [List.cons_append, Dl.splitL, if_neg h1, splitL_app r (fun z => h (.tail _ z))]
theorem splitL_join {c : Nat} : ∀ (ws : List Str), ws ≠ [] → (∀ w ∈ ws, c ∉ w.cps.toList) → Dl.splitL c (Str.join ⟨#[c]⟩ ws).cps.toList = ws.map (·.cps.toList)
  | [], h, _ => absurd rfl h
  | [w], _, h => splitL_free (h w (.head _))
  | w :: v :: r, _, h => by
    have e : (Str.join ⟨#[c]⟩ (w :: v :: r)).cps.toList = w.cps.toList ++ c :: (Str.join ⟨#[c]⟩ (v :: r)).cps.toList := by
      show (w ++ (⟨#[c]⟩ : Str) ++ Str.join ⟨#[c]⟩ (v :: r)).cps.toList = _
      have e1 : ∀ a b : Str, (a ++ b).cps.toList = a.cps.toList ++ b.cps.toList := fun _ _ => Array.toList_append
      rw [e1, e1]
      simp
    rw [e, splitL_app _ (h w (.head _)), splitL_join (v :: r) (by simp) fun u hu => h u (.tail _ hu)]
    rfl
theorem split_eq (x : Str) (c : Nat) : (Txt.split x ⟨#[c]⟩).map (·.cps.toList) = Dl.splitL c x.cps.toList := by
  have h1 := split_closes x c
  rw [Bool.and_eq_true] at h1
  have hj : Str.join ⟨#[c]⟩ (Txt.split x ⟨#[c]⟩) = x := by simpa using h1.1
  have hne : Txt.split x ⟨#[c]⟩ ≠ [] := fun z => by
    have := (fact_split x ⟨#[c]⟩).1
    rw [z] at this
    simp at this
  have := splitL_join (c := c) (Txt.split x ⟨#[c]⟩) hne fun w hw => StrLaws.split_free x c w hw
  rw [hj] at this
  exact this.symm
theorem str_ext {a b : Str} (h : a.cps.toList = b.cps.toList) : a = b := by
  cases a
  cases b
  congr 1
  exact Array.toList_inj.mp h
section
variable {K : PySem.W.Frag} {C : String → Addr} {E : XK} {Γ Δ : List Nat} {m m1 m2 : Nat} {S S1 S2 : List (Nat × Bool)} {H : Hp}
theorem gak_str : GAk K C rStrI Dl.gStr := by
  intro H xs d vs Bx Q r e q
  unfold Dl.gStr at e
  split at e
  · split at e
    · rename_i hi
      cases e
      obtain ⟨v, rfl, r1⟩ := r.one'
      obtain ⟨rfl, _⟩ := r1
      exact ⟨_, rfl, hi, Out.flat q ⟨rfl, intS_ok _, rfl⟩⟩
    · cases e
  · cases e
theorem digs_all {cs : List Nat} (h : Dl.digs cs = true) : NumText.AllDigits cs ∧ cs ≠ [] := by
  unfold Dl.digs at h
  rw [Bool.and_eq_true, List.all_eq_true] at h
  refine ⟨fun c hc => of_decide_eq_true (h.2 c hc), fun z => ?_⟩
  rw [z] at h
  exact absurd h.1 (by decide)
theorem parse_ok {x : Str} {n : Int} (hl : x.length ≤ 600) (h : Dl.parseI x.cps.toList = some n) : intText? x = some n := by
  unfold Dl.parseI at h
  split at h
  · cases h
  · rename_i c cs e
    split at h
    · rename_i hc
      subst hc
      split at h
      · rename_i hd
        cases h
        obtain ⟨a, b⟩ := digs_all hd
        exact intText_neg e a b (by omega)
      · cases h
    · split at h
      · rename_i hd
        cases h
        obtain ⟨a, b⟩ := digs_all hd
        rw [← e] at a b ⊢
        exact intText_digits a b (by omega)
      · cases h
theorem gak_intS : GAk K C rIntS Dl.gIntS := by
  intro H xs d vs Bx Q r e q
  unfold Dl.gIntS at e
  split at e
  · split at e
    · rename_i hl
      obtain ⟨n, hn, rfl⟩ := Option.map_eq_some_iff.mp e
      obtain ⟨v, rfl, r1⟩ := r.one'
      obtain ⟨rfl, _⟩ := r1
      exact ⟨_, n, rfl, hl, parse_ok hl hn, Out.flat q rpI⟩
    · cases e
  · cases e
noncomputable def GSm (K : PySem.W.Frag) (C : String → Addr) (r : V → List V → Hp → VK → Prop) (g : D → D → Option D) : Prop :=
  ∀ (H : Hp) (z : Str) (y d : D) (vy : V) (By : List Addr) (Q : VK), PyData.strOk z = true → Rp K C H y vy By → g (.str z) y = some d → (∀ v H' B, Same H H' → Rp K C H' d v B → B.Nodup → (∀ a ∈ B, H a = none) → Q v H') → r (.str z) [vy] H Q
theorem eok_sm {r : V → List V → Hp → VK → Prop} {g : D → D → Option D} {ta tb : TE} {fa fb : FE} (hg : GSm K C r g) (ha : EOk K C E Γ Δ m1 S1 ta fa) (hb : EOk K C E Γ Δ m2 S2 tb fb) : EOk K C E Γ Δ 2 [] (tBM K "str" r ta (tCons tb tNil)) (Dl.fSm g fa fb) :=
  fun H0 Hb H σ ρ A Q I p => ha H0 Hb H σ ρ A _ I (p.bind.imp (fun x q vx H1 g1 r1 => by
    obtain ⟨Bx, r1, _⟩ := r1
    cases x with
    | str s =>
      obtain ⟨rfl, hs, _⟩ := r1
      refine ⟨rfl, hb H0 Hb H1 σ ρ A _ (I.mono g1) (q.bind.imp (fun y q vy H2 g2 r2 => ?_) fun c x q H' g' => q H' (g1.trans g'))⟩
      obtain ⟨d, e, q⟩ := oR_ok q
      obtain ⟨By, r2, _⟩ := r2
      exact hg H2 s y d vy By Q hs r2 e fun v H' B g3 r3 nd hn => q v H' (g1.trans (g2.trans g3)) ⟨B, r3, fun a ha => .inl ((g1.trans g2).free (hn a ha)), fun z => by omega, fun _ => nd⟩
    | _ => exact q.elim) fun c x q H' g' => q H' g')
theorem one_of {y : Str} {c : Nat} (h : y.cps.toList = [c]) : y = ⟨#[c]⟩ := str_ext (by rw [h])
theorem gsm_start : GSm K C rStart Dl.gStart := by
  intro H z y d vy By Q hz ry e q
  unfold Dl.gStart at e
  split at e
  · rename_i x y hx
    cases hx
    split at e
    · rename_i c hc
      cases e
      obtain ⟨rfl, _⟩ := ry
      rw [one_of hc]
      exact ⟨_, c, rfl, rfl, Out.flat q rpB⟩
    · cases e
  · cases e
theorem sub_ok {l l' : List Nat} (h : ∀ c ∈ l, c < 1114112) (hs : ∀ c ∈ l', c ∈ l) : PyData.strOk ⟨l'.toArray⟩ = true := strOk_all.mpr fun c hc => h c (hs c (by simpa using hc))
theorem rpS {w : List Nat} (h : PyData.strOk ⟨w.toArray⟩ = true) : Rp K C H (Dl.strL w) (.str ⟨w.toArray⟩) [] := ⟨rfl, h, rfl⟩
theorem splitL_sub {c : Nat} : ∀ {l : List Nat}, ∀ w ∈ Dl.splitL c l, ∀ d ∈ w, d ∈ l
  | [], w, hw, d, hd => by
    rw [Dl.splitL] at hw
    rw [List.mem_singleton.mp hw] at hd
    cases hd
  | x :: l, w, hw, d, hd => by
    rw [Dl.splitL] at hw
    split at hw
    · rcases List.mem_cons.mp hw with rfl | h
      · cases hd
      · exact .tail _ (splitL_sub w h d hd)
    · split at hw
      · rw [List.mem_singleton.mp hw] at hd
        rw [List.mem_singleton.mp hd]
        exact .head _
      · rename_i w0 ws e
        rcases List.mem_cons.mp hw with rfl | h
        · rcases List.mem_cons.mp hd with rfl | h'
          · exact .head _
          · exact .tail _ (splitL_sub w0 (by rw [e]; exact .head _) d h')
        · exact .tail _ (splitL_sub w (by rw [e]; exact .tail _ h) d hd)
theorem RpA.strLs : ∀ {ws : List (List Nat)}, (∀ w ∈ ws, PyData.strOk ⟨w.toArray⟩ = true) → RpA K C H (ws.map Dl.strL) (ws.map fun w => V.str ⟨w.toArray⟩) []
  | [], _ => RpA.nil
  | w :: ws, h => ⟨_, _, [], [], rfl, rpS (h w (.head _)), RpA.strLs fun v hv => h v (.tail _ hv), rfl⟩
theorem gsm_split : GSm K C rSplit Dl.gSplit := by
  intro H z y d vy By Q hz ry e q
  unfold Dl.gSplit at e
  split at e
  · rename_i x y hx
    cases hx
    split at e
    · rename_i c hc
      split at e
      · rename_i hl
        cases e
        obtain ⟨rfl, _⟩ := ry
        rw [one_of hc]
        refine ⟨_, _, rfl, rfl, rfl, by rw [sizeLine_eq]; omega, fun p hp => ?_⟩
        have es : (Txt.split z ⟨#[c]⟩).map V.str = (Dl.splitL c z.cps.toList).map fun w => V.str ⟨w.toArray⟩ := by
          rw [← split_eq, List.map_map]
          refine List.map_congr_left fun w _ => ?_
          show V.str w = V.str ⟨w.cps.toList.toArray⟩
          rw [Array.toArray_toList]
        rw [es]
        exact Out.lst q (RpA.strLs fun w hw => sub_ok (strOk_all.mp hz) fun d hd => splitL_sub w hw d hd) hp
      · cases e
    · cases e
  · cases e
noncomputable def joinL (c : Nat) : List (List Nat) → List Nat
  | [] => []
  | [w] => w
  | w :: v :: r => w ++ 32 :: c :: 32 :: joinL c (v :: r)
theorem splitL_ne (c : Nat) : ∀ l : List Nat, Dl.splitL c l ≠ []
  | [], h => by cases h
  | x :: l, h => by
    rw [Dl.splitL] at h
    split at h
    · cases h
    · split at h <;> cases h
theorem splitL_back {c : Nat} : ∀ (l : List Nat) (p : List Nat) (r : List (List Nat)), Dl.splitL c l = p :: r → c ∉ p ∧ match r with
    | [] => l = p
    | q :: r' => ∃ l', l = p ++ c :: l' ∧ Dl.splitL c l' = q :: r'
  | [], p, r, h => by
    rw [Dl.splitL] at h
    cases h
    exact ⟨(fun z => nomatch z), rfl⟩
  | x :: l, p, r, h => by
    rw [Dl.splitL] at h
    split at h
    · rename_i hx
      subst hx
      obtain ⟨h1, h2⟩ := List.cons.inj h
      subst h1
      refine ⟨(fun z => nomatch z), ?_⟩
      cases r with
      | nil => exact absurd h2 (splitL_ne x l)
      | cons q r' => exact ⟨l, rfl, h2⟩
    · rename_i hx
      split at h
      · rename_i e
        exact absurd e (splitL_ne c l)
      · rename_i w ws e
        obtain ⟨q1, q2⟩ := List.cons.inj h
        subst q1
        subst q2
        obtain ⟨h1, h2⟩ := splitL_back l w ws e
        refine ⟨fun z => (List.mem_cons.mp z).elim (fun z => hx z.symm) h1, ?_⟩
        cases ws with
        | nil => exact congrArg (x :: ·) h2
        | cons q r' =>
          obtain ⟨l', e1, e2⟩ := h2
          exact ⟨l', by rw [e1]; rfl, e2⟩
theorem unR_of {p w : List Nat} (h : Dl.unR p = some w) : p = w ++ [32] := by
  unfold Dl.unR at h
  split at h
  · rename_i hl
    cases h
    obtain ⟨ne, e⟩ := List.getLast?_eq_some_iff.mp hl
    rw [e]
    simp
  · cases h
theorem unL_of {p w : List Nat} (h : Dl.unL p = some w) : p = 32 :: w := by
  cases p with
  | nil => cases h
  | cons x r =>
    rw [Dl.unL] at h
    split at h
    · rename_i hx
      cases h
      rw [hx]
    · cases h
theorem unP_of {c : Nat} : ∀ (r : List (List Nat)) (l p p' : List Nat) (ws : List (List Nat)), Dl.splitL c l = p :: r → (p' = p ∨ p = 32 :: p') → Dl.unP p' r = some ws →
    ws ≠ [] ∧ (∀ w ∈ ws, c ∉ w) ∧ (p' = p → l = joinL c ws) ∧ (p = 32 :: p' → l = 32 :: joinL c ws)
  | [], l, p, p', ws, h, hp, e => by
    cases e
    obtain ⟨h1, h2⟩ := splitL_back l p [] h
    refine ⟨by simp, fun w hw => ?_, fun q => by rw [q]; exact h2, fun q => h2.trans q⟩
    rw [List.mem_singleton.mp hw]
    rcases hp with rfl | rfl
    · exact h1
    · exact fun z => h1 (.tail _ z)
  | q :: r, l, p, p', ws, h, hp, e => by
    obtain ⟨h1, l', h2, h3⟩ := splitL_back l p (q :: r) h
    obtain ⟨w, e1, e⟩ := Option.bind_eq_some_iff.mp (show ((Dl.unR p').bind fun w => (Dl.unL q).bind fun q' => (Dl.unP q' r).bind fun ws => some (w :: ws)) = some ws from e)
    obtain ⟨q', e2, e⟩ := Option.bind_eq_some_iff.mp e
    obtain ⟨vs, e3, e⟩ := Option.bind_eq_some_iff.mp e
    cases e
    have hq := unL_of e2
    have hw := unR_of e1
    obtain ⟨i1, i2, _, i4⟩ := unP_of r l' q q' vs h3 (.inr hq) e3
    have hc : c ∉ w := fun z => h1 (by
      rcases hp with rfl | rfl
      · rw [hw]; exact List.mem_append_left _ z
      · rw [hw]; exact .tail _ (List.mem_append_left _ z))
    have hl' := i4 hq
    have hj : joinL c (w :: vs) = w ++ 32 :: c :: 32 :: joinL c vs := by
      cases vs with
      | nil => exact absurd rfl i1
      | cons v vs => rfl
    refine ⟨by simp, fun u hu => (List.mem_cons.mp hu).elim (fun z => by rw [z]; exact hc) (i2 u), fun z => ?_, fun z => ?_⟩
    · rw [h2, hl', hj, ← z, hw]
      simp
    · rw [h2, hl', hj, z, hw]
      simp
theorem at3 {x : Str} {c k : Nat} (h : StrLaws.At x ⟨#[32, c, 32]⟩ x.length k) : x.cps.toList[k + 1]? = some c ∧ k + 3 ≤ x.length := by
  obtain ⟨h1, h2⟩ := h
  have h1 : k + 3 ≤ x.length := h1
  have e : x.cps.extract k (k + 3) = #[32, c, 32] := by
    have : (x.cps.extract k (k + 3) == #[32, c, 32]) = true := h2
    simpa using this
  refine ⟨?_, h1⟩
  have e2 := congrArg (fun a : Array Nat => a[1]?) e
  have h1' : k + 3 ≤ x.cps.size := h1
  simp only [Array.getElem?_extract] at e2
  rw [if_pos (by omega)] at e2
  rw [Array.getElem?_toList, e2]
  rfl
theorem at3_mk {x : Str} {c : Nat} {pre r : List Nat} (h : x.cps.toList = pre ++ 32 :: c :: 32 :: r) : StrLaws.At x ⟨#[32, c, 32]⟩ x.length pre.length := by
  have hl : x.length = pre.length + (r.length + 3) := by
    have := congrArg List.length h
    simpa [Str.length] using this
  refine ⟨by show pre.length + 3 ≤ x.length; omega, ?_⟩
  show (x.cps.extract pre.length (pre.length + 3) == #[32, c, 32]) = true
  have : x.cps.extract pre.length (pre.length + 3) = #[32, c, 32] := by
    apply Array.toList_inj.mp
    rw [Array.toList_extract]
    simp [List.extract, h]
  rw [this]
  simp
theorem sub_of {x : Str} {pre w r : List Nat} (h : x.cps.toList = pre ++ (w ++ r)) : Builtin.Str.strSub x pre.length (pre.length + w.length) = ⟨w.toArray⟩ := str_ext (by
  show (x.cps.extract pre.length (pre.length + w.length)).toList = _
  rw [Array.toList_extract]
  simp [List.extract, h])
theorem parts3 {x : Str} {c : Nat} (hc : c ≠ 32) : ∀ (ws : List (List Nat)) (pre : List Nat) (cuts : List Nat) (f : Nat), ws ≠ [] → (∀ w ∈ ws, c ∉ w) → x.cps.toList = pre ++ joinL c ws →
    StrLaws.ChainG x ⟨#[32, c, 32]⟩ x.length pre.length cuts f → (∀ k, f ≤ k → ¬ StrLaws.At x ⟨#[32, c, 32]⟩ x.length k) → StrLaws.partsFrom x 3 pre.length cuts = ws.map fun w => ⟨w.toArray⟩
  | [], _, _, _, h, _, _, _, _ => absurd rfl h
  | [w], pre, cuts, f, _, hw, hx, hch, hf => by
    have hx : x.cps.toList = pre ++ w := hx
    have no : ∀ k, pre.length ≤ k → ¬ StrLaws.At x ⟨#[32, c, 32]⟩ x.length k := fun k hk z => by
      have h1 := (at3 z).1
      rw [hx, List.getElem?_append_right (by omega)] at h1
      exact hw w (.head _) (List.mem_of_getElem? h1)
    cases cuts with
    | nil =>
      rw [StrLaws.partsFrom.eq_1]
      have hl : x.length = pre.length + w.length := by
        have := congrArg List.length hx
        simpa [Str.length] using this
      rw [hl, sub_of (r := []) (by rw [List.append_nil]; exact hx)]
      rfl
    | cons i cs =>
      rw [StrLaws.ChainG.eq_2] at hch
      exact absurd hch.2.1 (no i hch.1)
  | w :: v :: r, pre, cuts, f, _, hw, hx, hch, hf => by
    have hx : x.cps.toList = pre ++ (w ++ 32 :: c :: 32 :: joinL c (v :: r)) := hx
    have hx' : x.cps.toList = (pre ++ w) ++ 32 :: c :: 32 :: joinL c (v :: r) := by rw [hx]; simp
    have at0 := at3_mk hx'
    have no : ∀ k, pre.length ≤ k → k < (pre ++ w).length → ¬ StrLaws.At x ⟨#[32, c, 32]⟩ x.length k := fun k hk hk2 z => by
      have h1 := (at3 z).1
      rw [List.length_append] at hk2
      rw [hx, List.getElem?_append_right (by omega)] at h1
      by_cases h2 : k + 1 - pre.length < w.length
      · rw [List.getElem?_append_left h2] at h1
        exact hw w (.head _) (List.mem_of_getElem? h1)
      · rw [List.getElem?_append_right (by omega), show k + 1 - pre.length - w.length = 0 by omega] at h1
        exact hc (by simpa using h1.symm)
    cases cuts with
    | nil =>
      rw [StrLaws.ChainG.eq_1] at hch
      subst hch
      exact absurd at0 (hf _ (by rw [List.length_append]; omega))
    | cons i cs =>
      rw [StrLaws.ChainG.eq_2] at hch
      obtain ⟨c1, c2, c3, c4⟩ := hch
      have hi : i = (pre ++ w).length := by
        rcases Nat.lt_trichotomy i (pre ++ w).length with z | z | z
        · exact absurd c2 (no i c1 z)
        · exact z
        · exact absurd at0 (c3 _ (by rw [List.length_append]; omega) z)
      subst hi
      have hx2 : x.cps.toList = (pre ++ w ++ [32, c, 32]) ++ joinL c (v :: r) := by rw [hx]; simp
      have hl3 : (pre ++ w).length + 3 = (pre ++ w ++ [32, c, 32]).length := by simp; omega
      rw [StrLaws.partsFrom.eq_2, hl3, parts3 hc (v :: r) (pre ++ w ++ [32, c, 32]) cs f (by simp) (fun u hu => hw u (.tail _ hu)) hx2 (by rw [← hl3]; exact c4) hf, List.length_append, sub_of hx]
      rfl
theorem joinL_mem {c : Nat} : ∀ {ws : List (List Nat)} {w : List Nat} {d : Nat}, w ∈ ws → d ∈ w → d ∈ joinL c ws
  | [], w, d, h, _ => nomatch h
  | [v], w, d, h, hd => by rw [List.mem_singleton.mp h] at hd; exact hd
  | v :: u :: r, w, d, h, hd => by
    show d ∈ v ++ 32 :: c :: 32 :: joinL c (u :: r)
    rcases List.mem_cons.mp h with rfl | h
    · exact List.mem_append_left _ hd
    · exact List.mem_append_right _ (.tail _ (.tail _ (.tail _ (joinL_mem h hd))))
theorem kind1 {c : Nat} (h : c < 128) (x : Str) : ¬ Builtin.Str.strKind x < Builtin.Str.strKind ⟨#[32, c, 32]⟩ := by
  have e : Builtin.Str.strKind ⟨#[32, c, 32]⟩ = 1 := by
    unfold Builtin.Str.strKind
    rw [if_pos (by simp; omega)]
  rw [e]
  unfold Builtin.Str.strKind
  split
  · decide
  · split <;> decide
theorem split_parts {x y : Str} (hk : ¬ Builtin.Str.strKind x < Builtin.Str.strKind y) (hy : 1 ≤ y.length) : ∃ cuts f, Txt.split x y = StrLaws.partsFrom x y.length 0 cuts ∧ StrLaws.ChainG x y x.length 0 cuts f ∧ ∀ k, f ≤ k → ¬ StrLaws.At x y x.length k := by
  obtain ⟨f, h1, h2⟩ := StrLaws.occ_tight x y hy
  refine ⟨_, f, ?_, h1, h2⟩
  have e0 : StrLaws.partsFrom x y.length 0 [] = [x] := by rw [StrLaws.partsFrom.eq_1, StrLaws.sub_whole]
  unfold Txt.split
  by_cases hl : x.length < y.length
  · rw [if_pos (by simp [hl])]
    cases e : Builtin.Str.occurrences x y 0 x.length (x.length + 1) with
    | nil => exact e0.symm
    | cons i cs =>
      rw [e, StrLaws.ChainG.eq_2] at h1
      have := h1.2.1.1
      omega
  · rw [if_neg (by simp [hl]; exact Nat.le_of_not_lt hk)]
    split
    · rename_i he
      have : Builtin.Str.occurrences x y 0 x.length (x.length + 1) = [] := by simpa using he
      rw [this]
      exact e0.symm
    · rw [StrLaws.partsBetween_eq]
theorem gsm_split3 : GSm K C rSplit Dl.gSplit3 := by
  intro H z y d vy By Q hz ry e q
  unfold Dl.gSplit3 at e
  split at e
  · rename_i x y hx
    cases hx
    split at e
    · rename_i a c b hc
      split at e
      · rename_i hl
        obtain ⟨rfl, rfl, h32, h128, hlen⟩ := hl
        obtain ⟨ws, hws, rfl⟩ := Option.map_eq_some_iff.mp e
        obtain ⟨rfl, _⟩ := ry
        have hy : y = ⟨#[32, c, 32]⟩ := str_ext (by rw [hc])
        subst hy
        unfold Dl.splitT at hws
        split at hws
        · cases hws
        · rename_i p r hs
          obtain ⟨i1, i2, i3, _⟩ := unP_of r _ p p ws hs (.inl rfl) hws
          obtain ⟨cuts, f, k1, k2, k3⟩ := split_parts (kind1 h128 z) (show 1 ≤ (⟨#[32, c, 32]⟩ : Str).length from by show 1 ≤ 3; decide)
          have k4 := parts3 h32 ws [] cuts f i1 i2 (i3 rfl) k2 k3
          refine ⟨_, _, rfl, rfl, rfl, by rw [sizeLine_eq]; omega, fun p hp => ?_⟩
          have es : (Txt.split z ⟨#[32, c, 32]⟩).map V.str = ws.map fun w => V.str ⟨w.toArray⟩ := by
            rw [k1]
            show (StrLaws.partsFrom z 3 0 cuts).map V.str = _
            rw [show StrLaws.partsFrom z 3 0 cuts = _ from k4, List.map_map]
            rfl
          rw [es]
          refine Out.lst q (RpA.strLs fun w hw => sub_ok (strOk_all.mp hz) fun d hd => ?_) hp
          rw [i3 rfl]
          exact joinL_mem hw hd
      · cases e
    · cases e
  · cases e
end
section
variable {K : PySem.W.Frag} {C : String → Addr} {E : XK} {Γ Δ : List Nat} {m m1 m2 : Nat} {S S1 S2 : List (Nat × Bool)} {H : Hp}
noncomputable def XOk (K : PySem.W.Frag) (C : String → Addr) (E : XK) (Γ Δ : List Nat) (t : TX) (f : FA) : Prop := ∀ (H0 Hb H : Hp) (σ : St) (ρ : Dl.Env) (A : Nat → List Addr) (Q : VK) (out : Str), PyData.strOk out = true → EnvOk K C H0 Hb H Γ Δ σ ρ A →
  Post ((f ρ).bind fun xs => Dl.oR (Dl.catO out xs)) (fun d => ∀ v H', Same H H' → Res K C 2 [] H A d v H' → Q v H') (fun c x => ∀ H', Same H H' → EC C E c x H') → t out σ H Q
theorem xok_nil : XOk K C E Γ Δ xNil Dl.aNil := fun _ _ H _ _ _ _ out ho _ p => p _ H (Same.refl _) (Res.flat ⟨rfl, ho, rfl⟩)
theorem xok_str {s : Str} {t : TX} {f : FA} (h : s.length ≤ 2000) (hs : PyData.strOk s = true) (ht : XOk K C E Γ Δ t f) : XOk K C E Γ Δ (xCons (tC (.str s)) t) (Dl.aCons (Dl.fC (.str s)) f) := fun H0 Hb H σ ρ A Q out ho I p => by
  refine ⟨s, rfl, h, ht H0 Hb H σ ρ A Q (out ++ s) (strOk_cat ho hs) I ?_⟩
  have e : ((Dl.aCons (Dl.fC (.str s)) f ρ).bind fun xs => Dl.oR (Dl.catO out xs)) = (f ρ).bind fun xs => Dl.oR (Dl.catO (out ++ s) xs) := by
    unfold Dl.aCons Dl.fC
    cases f ρ with
    | ok xs => show Dl.oR (if s.length ≤ 2000 then _ else _) = _; rw [if_pos h]; rfl
    | err c x => rfl
    | bad => rfl
  rw [← e]
  exact p
theorem gFx_of {x d : D} (e : Dl.gFx x = some d) : (∃ i, x = .int i ∧ i.natAbs < 2 ^ 400 ∧ d = .str (Dl.intS i)) ∨ ∃ z, x = .str z ∧ z.length ≤ 1000 ∧ d = .str z := by
  unfold Dl.gFx at e
  split at e
  · split at e
    · rename_i h
      cases e
      exact .inl ⟨_, rfl, h, rfl⟩
    · cases e
  · split at e
    · rename_i h
      cases e
      exact .inr ⟨_, rfl, h, rfl⟩
    · cases e
  · cases e
theorem intS_len {i : Int} (h : i.natAbs < 2 ^ 400) : (Dl.intS i).length ≤ 2000 := by
  rw [← intS_eq]
  exact Nat.le_trans (int_text_len_1921 (log2_lt400 h)) (by decide)
theorem xok_fx {te : TE} {fe : FE} {t : TX} {f : FA} (he : EOk K C E Γ Δ m S te fe) (ht : XOk K C E Γ Δ t f) : XOk K C E Γ Δ (xCons (tFx te) t) (Dl.aCons (Dl.f1 Dl.gFx fe) f) := fun H0 Hb H σ ρ A Q out ho I p => by
  have e : ((Dl.aCons (Dl.f1 Dl.gFx fe) f ρ).bind fun xs => Dl.oR (Dl.catO out xs)) = (fe ρ).bind fun x => (Dl.oR (Dl.gFx x)).bind fun y => (f ρ).bind fun xs => Dl.oR (Dl.catO out (y :: xs)) := by
    unfold Dl.aCons Dl.f1
    cases fe ρ with
    | ok x =>
      show ((Dl.oR (Dl.gFx x)).bind _).bind _ = (Dl.oR (Dl.gFx x)).bind _
      cases Dl.oR (Dl.gFx x) with
      | ok y =>
        show ((f ρ).bind _).bind _ = (f ρ).bind _
        cases f ρ <;> rfl
      | err c x => rfl
      | bad => rfl
    | err c x => rfl
    | bad => rfl
  rw [e] at p
  refine he H0 Hb H σ ρ A _ I (p.bind.imp (fun x q v H1 g1 r => ?_) fun c x q H' g' => q H' g')
  obtain ⟨B, r, _⟩ := r
  obtain ⟨d, e2, q⟩ := oR_ok q.bind
  have key : ∀ z : Str, z.length ≤ 2000 → PyData.strOk z = true → d = .str z → t (out ++ z) σ H1 Q := fun z hz hok hd => by
    subst hd
    refine ht H0 Hb H1 σ ρ A Q (out ++ z) (strOk_cat ho hok) (I.mono g1) ?_
    have e3 : ((f ρ).bind fun xs => Dl.oR (Dl.catO out (.str z :: xs))) = (f ρ).bind fun xs => Dl.oR (Dl.catO (out ++ z) xs) := by
      cases f ρ with
      | ok xs => show Dl.oR (if z.length ≤ 2000 then _ else _) = _; rw [if_pos hz]; rfl
      | err c x => rfl
      | bad => rfl
    rw [e3] at q
    refine q.imp (fun d q v H' g' r => q v H' (g1.trans g') ?_) fun c x q H' g' => q H' (g1.trans g')
    obtain ⟨B, a, b, c, dd⟩ := r
    exact ⟨B, a, fun x hx => (b x hx).elim (fun w => .inl (g1.free w)) (fun w => w.none.elim), fun z => by omega, dd⟩
  rcases gFx_of e2 with ⟨i, rfl, hi, hd⟩ | ⟨z, rfl, hz, hd⟩
  · obtain ⟨rfl, _⟩ := r
    exact .inl ⟨i, rfl, hi, ⟨_, rfl, intS_len hi, key _ (intS_len hi) (intS_ok i) hd⟩⟩
  · obtain ⟨rfl, hok, _⟩ := r
    exact .inr ⟨z, rfl, hz, ⟨_, rfl, by omega, key _ (by omega) hok hd⟩⟩
end
structure JX (X : Cx) (C : String → Addr) (E : XK) (Γ Δ : List Nat) (es : List Expr) (t : TX) (f : FA) : Prop where
  q : PX X es t
  o : XOk X.K C E Γ Δ t f
section
variable {X : Cx} {C : String → Addr} {E : XK} {Γ Δ : List Nat} {m m1 m2 : Nat} {S S1 S2 : List (Nat × Bool)} {a b e o : Expr} {es : List Expr} {ta tb te : TE} {tx : TX} {fa fb fe : FE} {f : FA} {pos p apos cpos : Pos}
theorem ce_globS {x z : Str} {u : Value} (hg : Gl X x) (hm : X.mg x = some u) (r : RelV (.str z) u) (hd : autoParam ((x == ("__debug__" : Str)) = false) aT1._auto_1) (hs : PyData.strOk z = true := by decide +kernel) : JE X C E Γ Δ 2 [] (.Name x pos) (tC (.str z)) (Dl.fC (.str z)) := ⟨qe_glob hg hm r hd, eok_c fun _ => ⟨rfl, hs, rfl⟩⟩
theorem cx_nil : JX X C E Γ Δ [] xNil Dl.aNil := ⟨px_nil, xok_nil⟩
theorem cx_str {x : Str} {jj : Nat} (h : JX X C E Γ Δ es tx f) (hx : autoParam (x.length ≤ 2000) aT1._auto_1) (hs : PyData.strOk x = true := by decide +kernel) (hv : autoParam (evalEach (.Constant (.str x) jj pos :: es) X.env = eval (.Constant (.str x) jj pos) X.env :: evalEach es X.env) aT2._auto_1) : JX X C E Γ Δ (.Constant (.str x) jj pos :: es) (xCons (tC (.str x)) tx) (Dl.aCons (Dl.fC (.str x)) f) := ⟨px_cons qe_str.out h.q hv, xok_str hx hs h.o⟩
theorem cx_fv (he : JE X C E Γ Δ m S e te fe) (h : JX X C E Γ Δ es tx f) (hv : autoParam (evalEach (.FormattedValue e (-1) none pos :: es) X.env = eval (.FormattedValue e (-1) none pos) X.env :: evalEach es X.env) aT2._auto_1) : JX X C E Γ Δ (.FormattedValue e (-1) none pos :: es) (xCons (tFx te) tx) (Dl.aCons (Dl.f1 Dl.gFx fe) f) := ⟨px_cons (qe_fx he.q).out h.q hv, xok_fx he.o h.o⟩
theorem ce_js (h : JX X C E Γ Δ (a :: b :: es) tx f) (hn : autoParam (es.length ≤ 100) aT1._auto_1) (hv : autoParam (evalEach (a :: b :: es) X.env = eval a X.env :: eval b X.env :: evalEach es X.env) aT2._auto_1) : JE X C E Γ Δ 2 [] (.JoinedStr (a :: b :: es) pos) (tJx tx) (Dl.fJs f) := ⟨qe_jx h.q hn hv, fun H0 Hb H σ ρ A Q I p => h.o H0 Hb H σ ρ A Q Str.empty (by decide +kernel) I p⟩
theorem ce_start (K : PySem.W.Frag) (ho : JE X C E Γ Δ m1 S1 o ta fa) (he : JE X C E Γ Δ m2 S2 e tb fb) (hse : starEach [e] X.env = (false, eval e X.env) :: starEach [] X.env) (hbase : autoParam (attributeBase o "startswith" X.env (eval o X.env) = eval o X.env) aT2._auto_1)
    (hfew : autoParam (((backTo cpos (starEach [e] X.env)).all (fun x => !x.1) && (backToKw cpos (keywordEach [] X.env)).all (fun x => x.1.isSome) && decide (([e] : List Expr).length + ([] : List Keyword).length + (if ([] : List Keyword).isEmpty then 0 else 1) < 30)) = true) aT2._auto_1)
    (hline : autoParam ((apos.endLine == cpos.line) = true) aT2._auto_1) (hplain : autoParam ((backTo cpos (starEach ([] : List Expr) X.env)).any (·.1) = false) aT2._auto_1) (hK : autoParam (X.K = K) aT2._auto_1) : JE X C E Γ Δ 2 [] (.Call (.Attribute o "startswith" apos) [e] [] cpos) (tBM K "str" rStart ta (tCons tb tNil)) (Dl.fSm Dl.gStart fa fb) := by
  subst hK
  exact ⟨qe_bm PySem.F.plainAttrs_str PySem.F.slot_str_startswith PySem.F.type_str_startswith mt_start ho.q (qa_cons he.q qa_nil hse) hbase hfew hline hse hplain, eok_sm gsm_start ho.o he.o⟩
theorem ce_split (K : PySem.W.Frag) (ho : JE X C E Γ Δ m1 S1 o ta fa) (he : JE X C E Γ Δ m2 S2 e tb fb) (hse : starEach [e] X.env = (false, eval e X.env) :: starEach [] X.env) (hbase : autoParam (attributeBase o "split" X.env (eval o X.env) = eval o X.env) aT2._auto_1)
    (hfew : autoParam (((backTo cpos (starEach [e] X.env)).all (fun x => !x.1) && (backToKw cpos (keywordEach [] X.env)).all (fun x => x.1.isSome) && decide (([e] : List Expr).length + ([] : List Keyword).length + (if ([] : List Keyword).isEmpty then 0 else 1) < 30)) = true) aT2._auto_1)
    (hline : autoParam ((apos.endLine == cpos.line) = true) aT2._auto_1) (hplain : autoParam ((backTo cpos (starEach ([] : List Expr) X.env)).any (·.1) = false) aT2._auto_1) (hK : autoParam (X.K = K) aT2._auto_1) : JE X C E Γ Δ 2 [] (.Call (.Attribute o "split" apos) [e] [] cpos) (tBM K "str" rSplit ta (tCons tb tNil)) (Dl.fSm Dl.gSplit fa fb) := by
  subst hK
  exact ⟨qe_bm PySem.F.plainAttrs_str PySem.F.slot_str_split PySem.F.type_str_split mt_split ho.q (qa_cons he.q qa_nil hse) hbase hfew hline hse hplain, eok_sm gsm_split ho.o he.o⟩
theorem ce_split3 (K : PySem.W.Frag) (ho : JE X C E Γ Δ m1 S1 o ta fa) (he : JE X C E Γ Δ m2 S2 e tb fb) (hse : starEach [e] X.env = (false, eval e X.env) :: starEach [] X.env) (hbase : autoParam (attributeBase o "split" X.env (eval o X.env) = eval o X.env) aT2._auto_1)
    (hfew : autoParam (((backTo cpos (starEach [e] X.env)).all (fun x => !x.1) && (backToKw cpos (keywordEach [] X.env)).all (fun x => x.1.isSome) && decide (([e] : List Expr).length + ([] : List Keyword).length + (if ([] : List Keyword).isEmpty then 0 else 1) < 30)) = true) aT2._auto_1)
    (hline : autoParam ((apos.endLine == cpos.line) = true) aT2._auto_1) (hplain : autoParam ((backTo cpos (starEach ([] : List Expr) X.env)).any (·.1) = false) aT2._auto_1) (hK : autoParam (X.K = K) aT2._auto_1) : JE X C E Γ Δ 2 [] (.Call (.Attribute o "split" apos) [e] [] cpos) (tBM K "str" rSplit ta (tCons tb tNil)) (Dl.fSm Dl.gSplit3 fa fb) := by
  subst hK
  exact ⟨qe_bm PySem.F.plainAttrs_str PySem.F.slot_str_split PySem.F.type_str_split mt_split ho.q (qa_cons he.q qa_nil hse) hbase hfew hline hse hplain, eok_sm gsm_split3 ho.o he.o⟩
end
end L2

namespace Dl
open PySem
noncomputable def q_is_name : FS :=
  (sRet (fAnd (fChain gLe gLe (fC (.int 1)) (fA gLen (aCons (fV 0) aNil)) (fC (.int 8))) (fA gAll (aCons (fComp 1 1 (jStr (fV 0)) (bName 1) cYes (fChain gLeS gLeS (fC (.str ("a" : Str))) (fV 1) (fC (.str ("z" : Str))))) aNil))))
noncomputable def F_is_name (ds : List D) : R D := (run 1 q_is_name ds).calm
noncomputable def q_show_numbers : FS :=
  (sSeq (sIf (cE (f2 gEq (fA gLen (aCons (fV 0) aNil)) (fC (.int 0)))) (sRet (fC (.str ("-" : Str)))) sNx)
    (sRet (fJoin (fC (.str (" " : Str))) (fComp 1 1 (jList (fV 0)) (bName 1) cYes (fA gStr (aCons (fV 1) aNil))))))
noncomputable def F_show_numbers (ds : List D) : R D := (run 1 q_show_numbers ds).calm
noncomputable def q_is_number : FS :=
  (sSeq (sSet 1 (fIf (cE (fSm gStart (fV 0) (fC (.str ("-" : Str))))) (fSl gSlS (fV 0) (oSome (fC (.int 1))) oNone) (f1 gFlat (fV 0))))
    (sSeq (sIf (cNot (cE (fChain gLe gLe (fC (.int 1)) (fA gLen (aCons (fV 1) aNil)) (fC (.int 20))))) (sRet (fC (.bl false))) sNx)
    (sSeq (sIf (cE (fA gAny (aCons (fComp 2 1 (jStr (fV 1)) (bName 2) cYes (f1 gNot (fChain gLeS gLeS (fC (.str ("0" : Str))) (fV 2) (fC (.str ("9" : Str)))))) aNil))) (sRet (fC (.bl false))) sNx)
    (sRet (fOr (f2 gEq (fV 0) (fC (.str ("0" : Str)))) (f2 gNe (f2 gIx (fV 1) (fC (.int 0))) (fC (.str ("0" : Str)))))))))
noncomputable def F_is_number (ds : List D) : R D := (run 2 q_is_number ds).calm
noncomputable def l__law_cell_4 : FS :=
  (sSet 2 (f2 gMod (f2 gAdd (f2 gAdd (f2 gMul (fV 2) (fC (.int 48271))) (f2 gMod (fV 3) (fC (.int 1000003)))) (fC (.int 1))) (fC (.int 2147483647))))
noncomputable def q__law_cell : FS :=
  (sSeq (sIf (cE (f2 gLt (fV 1) (fA gLen (aCons (fV 0) aNil)))) (sRet (f1 gFlat (f2 gIx (fV 0) (fV 1)))) sNx)
    (sSeq (sSet 2 (fC (.int 5)))
    (sSeq (sFor (jList (fSl gSl (fV 0) oNone (oSome (fC (.int 63))))) (bName 3) l__law_cell_4)
    (sRet (f2 gMod (f2 gAdd (fV 2) (f2 gMul (fC (.int 7919)) (fV 1))) (fC (.int 1000003)))))))
noncomputable def F__law_cell (ds : List D) : R D := (run 4 q__law_cell ds).calm
noncomputable def q__law_mix : FS :=
  (sSeq (sSet 2 (f2 gMod (f2 gPow (f2 gAdd (f2 gAdd (f2 gMod (fV 0) (fC (.int 2147483629))) (f2 gMul (fC (.int 1013)) (fV 1))) (fC (.int 7919))) (fC (.int 3))) (fC (.int 2147483647))))
    (sSeq (sSet 3 (f2 gMod (f2 gAdd (f2 gAdd (f2 gMul (fV 2) (fC (.int 40699))) (f2 gMul (f2 gMul (fC (.int 3793)) (fV 1)) (fV 1))) (fC (.int 11))) (fC (.int 2147483399))))
    (sRet (f2 gDiv (fV 3) (fC (.int 101))))))
noncomputable def F__law_mix (ds : List D) : R D := (run 4 q__law_mix ds).calm
noncomputable def q__law_is_whole : FS :=
  (sRet (fAnd (f1 (gIsI "int") (fV 0)) (f1 gNot (f1 (gIsI "bool") (fV 0)))))
noncomputable def F__law_is_whole (ds : List D) : R D := (run 1 q__law_is_whole ds).calm
noncomputable def q_show_table : FS :=
  (sSeq (sIf (cE (f2 gEq (fA gLen (aCons (fV 0) aNil)) (fC (.int 0)))) (sRet (fC (.str ("-" : Str)))) sNx)
    (sRet (fJoin (fC (.str (" / " : Str))) (fComp 1 4 (jList (fV 0)) (bTup (bCons (bName 1) (bCons (bName 2) (bCons (bName 3) (bCons (bName 4) bNil))))) cYes (fJs (aCons (f1 gFx (fV 1)) (aCons (fC (.str (" " : Str))) (aCons (f1 gFx (fV 2)) (aCons (fC (.str (" " : Str))) (aCons (f1 gFx (fV 3)) (aCons (fC (.str (" " : Str))) (aCons (f1 gFx (fV 4)) aNil))))))))))))
noncomputable def F_show_table (ds : List D) : R D := (run 1 q_show_table ds).calm
noncomputable def q__law_line : FS :=
  (sSeq (sIf (cE (f2 gEq (fA gLen (aCons (fV 0) aNil)) (fC (.int 0)))) (sRet (fC (.str ("-" : Str)))) sNx)
    (sRet (fJoin (fC (.str (" " : Str))) (fComp 1 1 (jList (fV 0)) (bName 1) cYes (fA gStr (aCons (fV 1) aNil))))))
noncomputable def F__law_line (ds : List D) : R D := (run 1 q__law_line ds).calm
noncomputable def q_is_kind : FS :=
  (sSeq (sIf (cNot (cE (fCall F_is_name (aCons (fV 0) aNil)))) (sRet (fC (.bl false))) sNx)
    (sSeq (sIf (cNot (cE (fChain gLe gLe (fC (.int 1)) (fV 1) (fC (.int 200))))) (sRet (fC (.bl false))) sNx)
    (sRet (fAnd (fChain gLe gLe (fC (.int 1)) (fV 2) (fC (.int 1000000000000000000))) (fChain gLe gLe (fC (.int 0)) (fV 3) (fC (.int 999999999999999999)))))))
noncomputable def F_is_kind (ds : List D) : R D := (run 4 q_is_kind ds).calm
noncomputable def q_read_number : FS :=
  (sSeq (sIf (cNot (cE (fCall F_is_number (aCons (fV 0) aNil)))) sNever sNx)
    (sRet (fA gIntS (aCons (fV 0) aNil))))
noncomputable def F_read_number (ds : List D) : R D := (run 1 q_read_number ds).calm
noncomputable def q_read_name : FS :=
  (sSeq (sIf (cNot (cE (fCall F_is_name (aCons (fV 0) aNil)))) sNever sNx)
    (sRet (f1 gFlat (fV 0))))
noncomputable def F_read_name (ds : List D) : R D := (run 1 q_read_name ds).calm
noncomputable def l__law_row_4 : FS :=
  (sIf (cE (f2 gLt (fV 3) (f2 gPow (fC (.int 10)) (fC (.int 18))))) (sApp 5 (f2 gMod (fCall F__law_mix (aCons (fV 3) (aCons (fV 6) aNil))) (f2 gIx (fV 2) (fV 6)))) (sIf (cE (f2 gGt (fV 4) (fC (.int 0)))) (sSeq (sApp 5 (f2 gMod (fV 4) (f2 gIx (fV 2) (fV 6))))
    (sSet 4 (f2 gDiv (fV 4) (f2 gIx (fV 2) (fV 6))))) (sSeq (sSet 7 (fCall F__law_cell (aCons (fV 0) (aCons (f2 gMod (f2 gAdd (f2 gAdd (fV 1) (fC (.int 1))) (fV 6)) (fC (.int 63))) aNil))))
    (sApp 5 (f2 gMod (fCall F__law_mix (aCons (fV 7) (aCons (fV 6) aNil))) (f2 gIx (fV 2) (fV 6)))))))
noncomputable def q__law_row : FS :=
  (sSeq (sSet 3 (fCall F__law_cell (aCons (fV 0) (aCons (fV 1) aNil))))
    (sSeq (sSet 4 (f1 gFlat (fV 3)))
    (sSeq (sSet 5 (fA gLst aNil))
    (sSeq (sFor (jRng1 (aCons (fA gLen (aCons (fV 2) aNil)) aNil)) (bName 6) l__law_row_4)
    (sRet (fV 5))))))
noncomputable def F__law_row (ds : List D) : R D := (run 8 q__law_row ds).calm
noncomputable def l_fault_2 : FS :=
  (sSeq (sSet 4 (f1 gFlat (f2 gIx (fV 3) (fC (.int 0)))))
    (sSeq (sIf (cOr (cE (f2 gGe (fV 2) (fC (.int 8)))) (cE (f2 gDin (fV 4) (fV 1)))) (sRet (f1 gFlat (fV 2))) sNx)
    (sSeq (sIf (cNot (cE (fCall F_is_kind (aCons (fV 4) (aCons (f2 gIx (fV 3) (fC (.int 1))) (aCons (f2 gIx (fV 3) (fC (.int 2))) (aCons (f2 gIx (fV 3) (fC (.int 3))) aNil))))))) (sRet (f1 gFlat (fV 2))) sNx)
    (sDPut 1 (fV 4) (fC (.bl true))))))
noncomputable def q_fault : FS :=
  (sSeq (sSet 1 (fC (.dct [] [])))
    (sSeq (sFor (jEnum (fV 0)) (bTup (bCons (bName 2) (bCons (bName 3) bNil))) l_fault_2)
    (sRet (fC .non))))
noncomputable def F_fault (ds : List D) : R D := (run 5 q_fault ds).calm
noncomputable def q_read_numbers : FS :=
  (sSeq (sIf (cE (f2 gEq (fV 0) (fC (.str ("-" : Str))))) (sRet (fA gLst aNil)) sNx)
    (sRet (fComp 1 1 (jList (fSm gSplit (fV 0) (fC (.str (" " : Str))))) (bName 1) cYes (fCall F_read_number (aCons (fV 1) aNil)))))
noncomputable def F_read_numbers (ds : List D) : R D := (run 1 q_read_numbers ds).calm
noncomputable def q_read_kind : FS :=
  (sSeq (sSet 1 (fSm gSplit (fV 0) (fC (.str (" " : Str)))))
    (sSeq (sIf (cE (f2 gNe (fA gLen (aCons (fV 1) aNil)) (fC (.int 4)))) sNever sNx)
    (sRet (fA gTup (aCons (fCall F_read_name (aCons (f2 gIx (fV 1) (fC (.int 0))) aNil)) (aCons (fCall F_read_number (aCons (f2 gIx (fV 1) (fC (.int 1))) aNil)) (aCons (fCall F_read_number (aCons (f2 gIx (fV 1) (fC (.int 2))) aNil)) (aCons (fCall F_read_number (aCons (f2 gIx (fV 1) (fC (.int 3))) aNil)) aNil))))))))
noncomputable def F_read_kind (ds : List D) : R D := (run 2 q_read_kind ds).calm
noncomputable def l__law_table_7 : FS :=
  (sSeq (sSet 9 (f2 gAdd (f2 gMul (fC (.int 3)) (fV 8)) (fC (.int 6))))
    (sSeq (sSet 10 (f1 gFlat (f2 gIx (fA gLst (aCons (fC (.int 1)) (aCons (fC (.int 2)) (aCons (fC (.int 3)) (aCons (fC (.int 4)) (aCons (fC (.int 5)) (aCons (fC (.int 6)) (aCons (fC (.int 2)) (aCons (fC (.int 3)) (aCons (fC (.int 11)) (aCons (fC (.int 40)) (aCons (f2 gIx (fA gLst (aCons (fC (.int 150)) (aCons (fC (.int 200)) aNil))) (f2 gMod (fV 8) (fC (.int 2)))) aNil)))))))))))) (f2 gIx (fV 4) (fV 9)))))
    (sSeq (sSet 11 (f2 gAdd (fC (.int 1)) (f2 gIx (fV 4) (f2 gAdd (fV 9) (fC (.int 1))))))
    (sSeq (sIf (cE (f2 gEq (f2 gIx (fV 4) (fC (.int 3))) (fC (.int 1)))) (sSet 11 (f2 gAdd (f2 gMul (fC (.int 3)) (fV 10)) (f2 gMod (f2 gIx (fV 4) (f2 gAdd (fV 9) (fC (.int 1)))) (fC (.int 4))))) sNx)
    (sSeq (sIf (cE (f2 gEq (f2 gIx (fV 4) (fC (.int 3))) (fC (.int 2)))) (sSet 11 (f2 gAdd (fC (.int 1)) (f2 gMod (f2 gIx (fV 4) (f2 gAdd (fV 9) (fC (.int 1)))) (fC (.int 3))))) sNx)
    (sSeq (sIf (cE (f2 gEq (f2 gIx (fV 4) (fC (.int 3))) (fC (.int 3)))) (sSet 11 (f1 gFlat (fV 10))) sNx)
    (sSeq (sSet 12 (fA gMin (aCons (f2 gMul (f2 gIx (fA gLst (aCons (fC (.int 0)) (aCons (fC (.int 0)) (aCons (fC (.int 1)) (aCons (fC (.int 2)) (aCons (fC (.int 3)) (aCons (fC (.int 12)) aNil))))))) (f2 gIx (fV 4) (f2 gAdd (fV 9) (fC (.int 2))))) (fV 5)) (aCons (f2 gSub (f2 gPow (fC (.int 10)) (fC (.int 18))) (fC (.int 1))) aNil))))
    (sSeq (sSet 13 (f1 gFlat (f2 gIx (fV 3) (f2 gMod (f2 gAdd (f2 gIx (fV 4) (fC (.int 4))) (f2 gMul (f2 gAdd (f2 gMul (fC (.int 2)) (f2 gIx (fV 4) (fC (.int 5)))) (fC (.int 1))) (fV 8))) (fC (.int 16))))))
    (sApp 7 (fA gTup (aCons (f1 gFlat (fV 13)) (aCons (f1 gFlat (fV 10)) (aCons (fA gMin (aCons (f2 gMul (fV 11) (fV 6)) (aCons (f2 gPow (fC (.int 10)) (fC (.int 18))) aNil))) (aCons (f1 gFlat (fV 12)) aNil))))))))))))))
noncomputable def q__law_table : FS :=
  (sSeq (sSet 3 (fA gLst (aCons (fC (.str ("a" : Str))) (aCons (fC (.str ("ab" : Str))) (aCons (fC (.str ("abc" : Str))) (aCons (fC (.str ("b" : Str))) (aCons (fC (.str ("ba" : Str))) (aCons (fC (.str ("z" : Str))) (aCons (fC (.str ("zzzzzzzz" : Str))) (aCons (fC (.str ("roll" : Str))) (aCons (fC (.str ("cut" : Str))) (aCons (fC (.str ("by" : Str))) aNil))))))))))))
    (sSeq (sSet 3 (f2 gAdd (fV 3) (fA gLst (aCons (fC (.str ("aab" : Str))) (aCons (fC (.str ("zz" : Str))) (aCons (fC (.str ("kind" : Str))) (aCons (fC (.str ("qsvw" : Str))) (aCons (fC (.str ("fghjmp" : Str))) (aCons (fC (.str ("x" : Str))) aNil)))))))))
    (sSeq (sSet 4 (fCall F__law_row (aCons (fV 0) (aCons (fV 1) (aCons (f2 gAdd (fA gLst (aCons (f2 gAdd (fV 2) (fC (.int 1))) (aCons (fC (.int 4)) (aCons (fC (.int 4)) (aCons (fC (.int 4)) (aCons (fC (.int 16)) (aCons (fC (.int 4)) aNil))))))) (f2 gMul (fA gLst (aCons (fC (.int 11)) (aCons (fC (.int 40)) (aCons (fC (.int 6)) aNil)))) (fV 2))) aNil)))))
    (sSeq (sSet 5 (f1 gFlat (f2 gIx (fA gLst (aCons (fC (.int 1)) (aCons (fC (.int 1)) (aCons (fC (.int 7)) (aCons (f2 gPow (fC (.int 10)) (fC (.int 17))) aNil))))) (f2 gIx (fV 4) (fC (.int 1))))))
    (sSeq (sSet 6 (f1 gFlat (f2 gIx (fA gLst (aCons (fC (.int 1)) (aCons (fC (.int 1)) (aCons (f2 gPow (fC (.int 10)) (fC (.int 6))) (aCons (f2 gMul (fC (.int 25)) (f2 gPow (fC (.int 10)) (fC (.int 15)))) aNil))))) (f2 gIx (fV 4) (fC (.int 2))))))
    (sSeq (sSet 7 (fA gLst aNil))
    (sSeq (sFor (jRng1 (aCons (f2 gIx (fV 4) (fC (.int 0))) aNil)) (bName 8) l__law_table_7)
    (sRet (fV 7)))))))))
noncomputable def F__law_table (ds : List D) : R D := (run 14 q__law_table ds).calm
noncomputable def l__law_renamed_4 : FS :=
  (sSeq (sSet 7 (fSl gSl (fV 4) (oSome (f2 gAdd (f2 gMul (fC (.int 4)) (fV 6)) (fC (.int 1)))) (oSome (f2 gAdd (f2 gMul (fC (.int 4)) (fV 6)) (fC (.int 5))))))
    (sSeq (sSet 8 (f2 gAdd (f2 gAdd (f2 gIx (fV 3) (f2 gIx (fV 7) (fC (.int 1)))) (f2 gMulS (f2 gIx (fV 3) (f2 gIx (fV 7) (fC (.int 2)))) (fC (.int 2)))) (f2 gMulS (f2 gIx (fV 3) (f2 gIx (fV 7) (fC (.int 3)))) (fC (.int 4)))))
    (sSeq (sSet 8 (f2 gAdd (fSl gSlS (fV 8) oNone (oSome (f2 gIx (fV 7) (fC (.int 0))))) (f2 gIx (fV 3) (f2 gMod (f2 gAdd (f2 gIx (fV 4) (fC (.int 0))) (f2 gMul (fC (.int 3)) (fV 6))) (fC (.int 26))))))
    (sApp 5 (fA gTup (aCons (f1 gFlat (fV 8)) (aCons (f1 gFlat (f2 gIx (f2 gIx (fV 2) (fV 6)) (fC (.int 1)))) (aCons (f1 gFlat (f2 gIx (f2 gIx (fV 2) (fV 6)) (fC (.int 2)))) (aCons (f1 gFlat (f2 gIx (f2 gIx (fV 2) (fV 6)) (fC (.int 3)))) aNil)))))))))
noncomputable def q__law_renamed : FS :=
  (sSeq (sSet 3 (fC (.str ("abcdefghijklmnopqrstuvwxyz" : Str))))
    (sSeq (sSet 4 (fCall F__law_row (aCons (fV 0) (aCons (fV 1) (aCons (f2 gAdd (fA gLst (aCons (fC (.int 26)) aNil)) (f2 gMul (fA gLst (aCons (fC (.int 8)) (aCons (fC (.int 26)) (aCons (fC (.int 26)) (aCons (fC (.int 26)) aNil))))) (fC (.int 8)))) aNil)))))
    (sSeq (sSet 5 (fA gLst aNil))
    (sSeq (sFor (jRng1 (aCons (fA gLen (aCons (fV 2) aNil)) aNil)) (bName 6) l__law_renamed_4)
    (sRet (fV 5))))))
noncomputable def F__law_renamed (ds : List D) : R D := (run 9 q__law_renamed ds).calm
noncomputable def q_read_table : FS :=
  (sSeq (sIf (cE (f2 gEq (fV 0) (fC (.str ("-" : Str))))) (sRet (fA gLst aNil)) sNx)
    (sSeq (sSet 1 (fComp 2 1 (jList (fSm gSplit3 (fV 0) (fC (.str (" / " : Str))))) (bName 2) cYes (fCall F_read_kind (aCons (fV 2) aNil))))
    (sSeq (sIf (cE (f2 gIsNot (fCall F_fault (aCons (fV 1) aNil)) (fC .non))) sNever sNx)
    (sRet (fV 1)))))
noncomputable def F_read_table (ds : List D) : R D := (run 2 q_read_table ds).calm
end Dl

namespace Dl
open PySem
@[simp] theorem ev_fC (d : D) (ρ : Env) : fC d ρ = .ok d := (rfl)
@[simp] theorem ev_f1 (g : D → Option D) (a : FE) (ρ : Env) : f1 g a ρ = (a ρ).bind fun x => oR (g x) := (rfl)
@[simp] theorem ev_f2 (g : D → D → Option D) (a b : FE) (ρ : Env) : f2 g a b ρ = (a ρ).bind fun x => (b ρ).bind fun y => oR (g x y) := (rfl)
@[simp] theorem ev_aNil (ρ : Env) : aNil ρ = .ok [] := (rfl)
@[simp] theorem ev_aCons (a : FE) (r : FA) (ρ : Env) : aCons a r ρ = (a ρ).bind fun x => (r ρ).bind fun xs => .ok (x :: xs) := (rfl)
@[simp] theorem ev_fA (g : List D → Option D) (a : FA) (ρ : Env) : fA g a ρ = (a ρ).bind fun xs => oR (g xs) := (rfl)
@[simp] theorem ev_fCall (F : List D → R D) (a : FA) (ρ : Env) : fCall F a ρ = (a ρ).bind F := (rfl)
@[simp] theorem ev_fV0 (d : D) (ρ : Env) : fV 0 (some d :: ρ) = .ok d := (rfl)
@[simp] theorem ev_cE (a : FE) (ρ : Env) : cE a ρ = (a ρ).bind fun d => match d with | .bl b => .ok b | _ => .bad := (rfl)
@[simp] theorem ev_cNot (a : FT) (ρ : Env) : cNot a ρ = (a ρ).bind fun b => .ok (!b) := (rfl)
@[simp] theorem ev_cAnd (a b : FT) (ρ : Env) : cAnd a b ρ = (a ρ).bind fun x => if x then b ρ else .ok false := (rfl)
@[simp] theorem ev_cOr (a b : FT) (ρ : Env) : cOr a b ρ = (a ρ).bind fun x => if x then .ok true else b ρ := (rfl)
@[simp] theorem ev_cYes (ρ : Env) : cYes ρ = .ok true := (rfl)
@[simp] theorem ev_fAnd (a b : FE) (ρ : Env) : fAnd a b ρ = (a ρ).bind fun x => match x with | .bl true => b ρ | .bl false => .ok (.bl false) | _ => .bad := (rfl)
@[simp] theorem ev_fOr (a b : FE) (ρ : Env) : fOr a b ρ = (a ρ).bind fun x => match x with | .bl true => .ok (.bl true) | .bl false => b ρ | _ => .bad := (rfl)
@[simp] theorem ev_fIf (c : FT) (a b : FE) (ρ : Env) : fIf c a b ρ = (c ρ).bind fun x => if x then a ρ else b ρ := (rfl)
@[simp] theorem ev_fChain (g g' : D → D → Option D) (a b c : FE) (ρ : Env) : fChain g g' a b c ρ = (a ρ).bind fun x => (b ρ).bind fun y => (oR (g x y)).bind fun z => match z with | .bl true => (c ρ).bind fun w => oR (g' y w) | .bl false => .ok (.bl false) | _ => .bad := (rfl)
@[simp] theorem ev_fSl (g : D → Option Int → Option Int → Option D) (a : FE) (l h : FO) (ρ : Env) : fSl g a l h ρ = (a ρ).bind fun x => (l ρ).bind fun lo => (h ρ).bind fun hi => oR (g x lo hi) := (rfl)
@[simp] theorem ev_oNone (ρ : Env) : oNone ρ = .ok none := (rfl)
@[simp] theorem ev_oSome (a : FE) (ρ : Env) : oSome a ρ = (a ρ).bind fun d => match d with | .int i => .ok (some i) | _ => .bad := (rfl)
@[simp] theorem ev_jList (a : FE) (ρ : Env) : jList a ρ = (a ρ).bind fun d => match d with | .lst xs => if xs.length ≤ lim then .ok xs else .bad | .scr ns => if ns.length ≤ lim then .ok (ns.map D.int) else .bad | _ => .bad := (rfl)
@[simp] theorem ev_jTup (a : FE) (ρ : Env) : jTup a ρ = (a ρ).bind fun d => match d with | .tup xs => if xs.length ≤ lim then .ok xs else .bad | _ => .bad := (rfl)
@[simp] theorem ev_jRng1 (a : FA) (ρ : Env) : jRng1 a ρ = (a ρ).bind fun ds => match ds with | [.int j] => if -1000000000 ≤ j ∧ j ≤ 1000000 then .ok (rngL 0 j.toNat) else .bad | _ => .bad := (rfl)
noncomputable def rngOf2 (ds : List D) : R (List D) := match ds with
  | [.int i, .int j] => if -1000000000 ≤ i ∧ i ≤ 1000000000 ∧ -1000000000 ≤ j ∧ j ≤ 1000000000 ∧ (j - i).toNat ≤ lim then .ok (rngL i (j - i).toNat) else .bad
  | _ => .bad
@[simp] theorem ev_jRng2 (a : FA) (ρ : Env) : jRng2 a ρ = (a ρ).bind rngOf2 := (rfl)
@[simp] theorem ev_fComp (n k : Nat) (it : FI) (b : FB) (c : FT) (e : FE) (ρ : Env) : fComp n k it b c e ρ = if ρ.length = n then (it ρ).bind fun xs => (compN k b c e ρ xs).calm.bind fun ys => .ok (.lst ys) else .bad := (rfl)
@[simp] theorem ev_sNx (ρ : Env) : sNx ρ = .ok (.nx ρ) := (rfl)
@[simp] theorem ev_sNever (ρ : Env) : sNever ρ = .bad := (rfl)
@[simp] theorem ev_sSeq (a b : FS) (ρ : Env) : sSeq a b ρ = (a ρ).bind fun fl => match fl with | .nx ρ' => b ρ' | fl => .ok fl := (rfl)
@[simp] theorem ev_sSet (i : Nat) (e : FE) (ρ : Env) : sSet i e ρ = (e ρ).bind fun d => .ok (.nx (ρ.set i (some d))) := (rfl)
@[simp] theorem ev_sRet (e : FE) (ρ : Env) : sRet e ρ = (e ρ).bind fun d => .ok (.ret d) := (rfl)
@[simp] theorem ev_sIf (c : FT) (a b : FS) (ρ : Env) : sIf c a b ρ = (c ρ).bind fun x => if x then a ρ else b ρ := (rfl)
@[simp] theorem ev_sApp (i : Nat) (e : FE) (ρ : Env) : sApp i e ρ = (fV i ρ).bind fun v => match v with | .lst xs => (e ρ).bind fun d => if xs.length < lim then .ok (.nx (ρ.set i (some (.lst (xs ++ [d]))))) else .bad | _ => .bad := by
  unfold sApp fV
  split
  · rename_i xs e; simp [e]
  · rename_i h
    split
    · rename_i d e
      cases d <;> simp
      rename_i xs
      exact absurd e (h xs)
    · rfl
@[simp] theorem ev_sRaise (c : String) (f : FA) (ρ : Env) : sRaise c f ρ = (f ρ).bind fun _ => .err c none := (rfl)
@[simp] theorem ev_sFor (it : FI) (b : FB) (s : FS) (ρ : Env) : sFor it b s ρ = (it ρ).bind fun xs => forD b s xs ρ := (rfl)
@[simp] theorem ev_sWhile (n : Nat) (c : FT) (s : FS) (ρ : Env) : sWhile n c s ρ = whileD c s n ρ := (rfl)
@[simp] theorem ev_sAsg (e : FE) (b : FB) (ρ : Env) : sAsg e b ρ = (e ρ).bind fun d => (b d ρ).calm.bind fun ρ' => .ok (.nx ρ') := (rfl)
@[simp] theorem ev_bName (i : Nat) (d : D) (ρ : Env) : bName i d ρ = .ok (ρ.set i (some d)) := (rfl)
@[simp] theorem ev_bNil (ρ : Env) : bNil [] ρ = .ok ρ := (rfl)
@[simp] theorem ev_bCons (b : FB) (r : List D → Env → R Env) (d : D) (ds : List D) (ρ : Env) : bCons b r (d :: ds) ρ = (b d ρ).bind fun ρ' => r ds ρ' := (rfl)
@[simp] theorem ev_bTup (r : List D → Env → R Env) (ds : List D) (ρ : Env) : bTup r (.tup ds) ρ = r ds ρ := (rfl)
@[simp] theorem ev_run (N : Nat) (b : FS) (ds : List D) : run N b ds = (b (ds.map some ++ List.replicate (N - ds.length) none)).bind fun fl => match fl with | .nx _ => .ok .non | .ret d => .ok d | _ => .bad := (rfl)
@[simp] theorem forD_nil (b : FB) (s : FS) (ρ : Env) : forD b s [] ρ = .ok (.nx ρ) := (rfl)
theorem forD_cons (b : FB) (s : FS) (x : D) (xs : List D) (ρ : Env) : forD b s (x :: xs) ρ = (b x ρ).calm.bind fun ρ1 => (s ρ1).bind fun fl => match fl with | .nx ρ2 => forD b s xs ρ2 | .cnt ρ2 => forD b s xs ρ2 | .brk ρ2 => .ok (.nx ρ2) | .ret d => .ok (.ret d) := rfl
@[simp] theorem add_ii (i j : Int) : gAdd (.int i) (.int j) = some (.int (i + j)) := rfl
@[simp] theorem addI_ii (i j : Int) : gAddI (.int i) (.int j) = some (.int (i + j)) := rfl
@[simp] theorem sub_ii (i j : Int) : gSub (.int i) (.int j) = some (.int (i - j)) := rfl
@[simp] theorem lt_ii (i j : Int) : gLt (.int i) (.int j) = some (.bl (decide (i < j))) := rfl
@[simp] theorem le_ii (i j : Int) : gLe (.int i) (.int j) = some (.bl (decide (i ≤ j))) := rfl
@[simp] theorem gt_ii (i j : Int) : gGt (.int i) (.int j) = some (.bl (decide (j < i))) := rfl
@[simp] theorem ge_ii (i j : Int) : gGe (.int i) (.int j) = some (.bl (decide (j ≤ i))) := rfl
@[simp] theorem neg_i (i : Int) : gNeg (.int i) = some (.int (-i)) := rfl
@[simp] theorem not_b (b : Bool) : gNot (.bl b) = some (.bl (!b)) := rfl
@[simp] theorem eq_ii (i j : Int) : gEq (.int i) (.int j) = some (.bl (decide (i = j))) := show some (D.bl (i == j)) = _ from congrArg (fun b => some (D.bl b)) (by by_cases h : i = j <;> simp [h])
@[simp] theorem ne_ii (i j : Int) : gNe (.int i) (.int j) = some (.bl (!decide (i = j))) := show some (D.bl (!(i == j))) = _ from congrArg (fun b => some (D.bl (!b))) (by by_cases h : i = j <;> simp [h])
@[simp] theorem eq_bb (i j : Bool) : gEq (.bl i) (.bl j) = some (.bl (i == j)) := rfl
@[simp] theorem ne_bb (i j : Bool) : gNe (.bl i) (.bl j) = some (.bl (!(i == j))) := rfl
@[simp] theorem eq_ss (i j : Str) : gEq (.str i) (.str j) = some (.bl (decide (i = j))) := show some (D.bl (i == j)) = _ from congrArg (fun b => some (D.bl b)) (by by_cases h : i = j <;> simp [h])
@[simp] theorem ne_ss (i j : Str) : gNe (.str i) (.str j) = some (.bl (!decide (i = j))) := show some (D.bl (!(i == j))) = _ from congrArg (fun b => some (D.bl (!b))) (by by_cases h : i = j <;> simp [h])
@[simp] theorem is_n (x : D) : gIs x .non = some (.bl (isNon x)) := rfl
@[simp] theorem isNot_n (x : D) : gIsNot x .non = some (.bl (!isNon x)) := rfl
@[simp] theorem is_b (b c : Bool) : gIs (.bl b) (.bl c) = some (.bl (b == c)) := rfl
@[simp] theorem isNot_b (b c : Bool) : gIsNot (.bl b) (.bl c) = some (.bl (!(b == c))) := rfl
@[simp] theorem isNon_non : isNon .non = true := rfl
@[simp] theorem isNon_i (i : Int) : isNon (.int i) = false := rfl
@[simp] theorem isNon_b (i : Bool) : isNon (.bl i) = false := rfl
@[simp] theorem isNon_l (i : List D) : isNon (.lst i) = false := rfl
@[simp] theorem isNon_t (i : List D) : isNon (.tup i) = false := rfl
theorem mul_ii {i j : Int} (h : (-(2 ^ 64) < i ∧ i < 2 ^ 64) ∨ (-(2 ^ 64) < j ∧ j < 2 ^ 64)) : gMul (.int i) (.int j) = some (.int (i * j)) := by
  have : (short i || short j) = true := by simp [short]; exact h
  simp [gMul, this]
theorem mod_ii {i j : Int} (h : 0 < j) : gMod (.int i) (.int j) = some (.int (i % j)) := by simp [gMod, h]
theorem div_ii {i j : Int} (h : 0 < j) (h2 : j < 2 ^ 200) : gDiv (.int i) (.int j) = some (.int (i / j)) := by simp only [gDiv]; rw [if_pos ⟨h, h2⟩]
theorem pow_ii {i j : Int} (h : 0 ≤ j) (h2 : j ≤ 1000000) (h3 : i.natAbs < 2 ^ 64) : gPow (.int i) (.int j) = some (.int (i ^ j.toNat)) := by simp only [gPow]; rw [if_pos ⟨h, h2, h3⟩]
@[simp] theorem pow10_6 : gPow (.int 10) (.int 6) = some (.int 1000000) := by
  rw [pow_ii (by omega) (by omega) (by decide)]
  rfl
@[simp] theorem pow10_15 : gPow (.int 10) (.int 15) = some (.int 1000000000000000) := by
  rw [pow_ii (by omega) (by omega) (by decide)]
  rfl
@[simp] theorem pow10_17 : gPow (.int 10) (.int 17) = some (.int 100000000000000000) := by
  rw [pow_ii (by omega) (by omega) (by decide)]
  rfl
@[simp] theorem pow10_18 : gPow (.int 10) (.int 18) = some (.int 1000000000000000000) := by
  rw [pow_ii (by omega) (by omega) (by decide)]
  rfl
@[simp] theorem flat_i (i : Int) : flat (.int i) = true := rfl
@[simp] theorem flat_b (i : Bool) : flat (.bl i) = true := rfl
@[simp] theorem flat_s (i : Str) : flat (.str i) = true := rfl
@[simp] theorem flat_n : flat .non = true := rfl
@[simp] theorem flat_t (xs : List D) : flat (.tup xs) = flatA xs := rfl
@[simp] theorem flatA_n : flatA [] = true := rfl
@[simp] theorem flatA_c (x : D) (xs : List D) : flatA (x :: xs) = (flat x && flatA xs) := rfl
theorem flatA_map {α : Type} {f : α → D} (h : ∀ a, flat (f a) = true) : ∀ xs : List α, flatA (xs.map f) = true
  | [] => rfl
  | x :: xs => by simp [h x, flatA_map h xs]
@[simp] theorem flatA_ints (ns : List Int) : flatA (ns.map D.int) = true := flatA_map (fun _ => rfl) ns
@[simp] theorem gFlat_i (i : Int) : gFlat (.int i) = some (.int i) := rfl
@[simp] theorem gFlat_b (i : Bool) : gFlat (.bl i) = some (.bl i) := rfl
@[simp] theorem gFlat_s (i : Str) : gFlat (.str i) = some (.str i) := rfl
@[simp] theorem gFlat_n : gFlat .non = some .non := rfl
@[simp] theorem bools_map (ns : List Bool) : bools (ns.map D.bl) = some ns := by
  induction ns with
  | nil => rfl
  | cons n ns ih => simp [bools, ih]
@[simp] theorem len_l (xs : List D) : gLen [.lst xs] = some (.int xs.length) := (rfl)
@[simp] theorem len_t (xs : List D) : gLen [.tup xs] = some (.int xs.length) := (rfl)
@[simp] theorem len_scr (xs : List Int) : gLen [.scr xs] = some (.int xs.length) := (rfl)
@[simp] theorem min_ii (i j : Int) : gMin [.int i, .int j] = some (.int (min i j)) := by
  simp only [gMin]
  congr 2
  by_cases h : j < i
  · rw [if_pos h]; omega
  · rw [if_neg h]; omega
@[simp] theorem any_bools (ns : List Bool) : gAny [.lst (ns.map D.bl)] = some (.bl (ns.any id)) := by simp [gAny]
@[simp] theorem all_bools (ns : List Bool) : gAll [.lst (ns.map D.bl)] = some (.bl (ns.all id)) := by simp [gAll]
@[simp] theorem isI_i (c : String) (i : Int) : gIsI c (.int i) = some (.bl (c == "int")) := rfl
@[simp] theorem isI_b (c : String) (i : Bool) : gIsI c (.bl i) = some (.bl (c == "bool" || c == "int")) := rfl
@[simp] theorem isI_l (c : String) (i : List D) : gIsI c (.lst i) = some (.bl (c == "list")) := rfl
@[simp] theorem isI_t (c : String) (i : List D) : gIsI c (.tup i) = some (.bl (c == "tuple")) := rfl
@[simp] theorem isI_s (c : String) (i : Str) : gIsI c (.str i) = some (.bl (c == "str")) := rfl
@[simp] theorem isI_n (c : String) : gIsI c .non = some (.bl false) := rfl
theorem atD_nat {α : Type} {xs : List α} {i : Int} {k : Nat} {x : α} (e : i = (k : Int)) (h : xs[k]? = some x) : atD xs i = some x := by
  subst e
  have hk := (List.getElem?_eq_some_iff.mp h).1
  unfold atD ixD
  rw [if_pos (by omega), if_pos (by omega)]
  simpa using h
theorem ix_l {xs : List D} {i : Int} {k : Nat} {x : D} (e : i = (k : Int)) (h : xs[k]? = some x) : gIx (.lst xs) (.int i) = some x := atD_nat e h
theorem ix_t {xs : List D} {i : Int} {k : Nat} {x : D} (e : i = (k : Int)) (h : xs[k]? = some x) : gIx (.tup xs) (.int i) = some x := atD_nat e h
@[simp] theorem ixL_l (xs : List D) (y : D) : gIxL (.lst xs) y = gIx (.lst xs) y := (rfl)
@[simp] theorem listV_l (xs : List D) : gListV [.lst xs] = some (.lst xs) := (rfl)
theorem ix_ints {ns : List Int} {i : Int} {k : Nat} (e : i = (k : Int)) (h : k < ns.length) : gIx (.lst (ns.map D.int)) (.int i) = some (.int (ns.getD k 0)) := ix_l e (by simp [h, List.getD])
theorem cut_map {α β : Type} (f : α → β) (xs : List α) (lo hi : Option Int) : cut (xs.map f) lo hi = (cut xs lo hi).map f := by
  unfold cut
  rw [List.length_map, List.map_take, List.map_drop]
theorem cut_ab {α : Type} {xs : List α} {a b : Int} (h0 : 0 ≤ a) (h1 : a ≤ b) (h2 : b ≤ xs.length) : cut xs (some a) (some b) = (xs.drop a.toNat).take (b.toNat - a.toNat) := by
  unfold cut sixD
  simp only []
  rw [if_neg (by omega), if_neg (by omega), Nat.min_eq_left (by omega), Nat.min_eq_left (by omega)]
theorem cut_to {α : Type} {xs : List α} {b : Int} (h0 : 0 ≤ b) : cut xs none (some b) = xs.take b.toNat := by
  unfold cut sixD
  simp only []
  rw [if_neg (by omega), List.drop_zero, Nat.sub_zero]
  by_cases h : b.toNat ≤ xs.length
  · rw [Nat.min_eq_left h]
  · rw [Nat.min_eq_right (by omega), List.take_of_length_le (Nat.le_refl _), List.take_of_length_le (by omega)]
@[simp] theorem sl_ints (ns : List Int) (lo hi : Option Int) : gSl (.lst (ns.map D.int)) lo hi = some (.lst ((cut ns lo hi).map D.int)) := by
  simp [gSl, cut_map]
@[simp] theorem sl_scr (ns : List Int) (lo hi : Option Int) : gSl (.scr ns) lo hi = some (.lst ((cut ns lo hi).map D.int)) := (rfl)
@[simp] theorem gLst_0 : gLst [] = some (.lst []) := rfl
@[simp] theorem gLst_1 (a : D) : gLst [a] = some (.lst [a]) := rfl
@[simp] theorem gLst_2 (a b : D) : gLst [a, b] = some (.lst [a, b]) := rfl
@[simp] theorem gLst_3 (a b c : D) : gLst [a, b, c] = some (.lst [a, b, c]) := rfl
@[simp] theorem gLst_4 (a0 a1 a2 a3 : D) : gLst [a0, a1, a2, a3] = some (.lst [a0, a1, a2, a3]) := rfl
@[simp] theorem gLst_5 (a0 a1 a2 a3 a4 : D) : gLst [a0, a1, a2, a3, a4] = some (.lst [a0, a1, a2, a3, a4]) := rfl
@[simp] theorem gLst_6 (a0 a1 a2 a3 a4 a5 : D) : gLst [a0, a1, a2, a3, a4, a5] = some (.lst [a0, a1, a2, a3, a4, a5]) := rfl
@[simp] theorem gLst_10 (a0 a1 a2 a3 a4 a5 a6 a7 a8 a9 : D) : gLst [a0, a1, a2, a3, a4, a5, a6, a7, a8, a9] = some (.lst [a0, a1, a2, a3, a4, a5, a6, a7, a8, a9]) := rfl
@[simp] theorem gLst_11 (a0 a1 a2 a3 a4 a5 a6 a7 a8 a9 a10 : D) : gLst [a0, a1, a2, a3, a4, a5, a6, a7, a8, a9, a10] = some (.lst [a0, a1, a2, a3, a4, a5, a6, a7, a8, a9, a10]) := rfl
@[simp] theorem gTup_2 (a b : D) : gTup [a, b] = some (.tup [a, b]) := rfl
@[simp] theorem gTup_3 (a b c : D) : gTup [a, b, c] = some (.tup [a, b, c]) := rfl
@[simp] theorem gTup_4 (a b c d : D) : gTup [a, b, c, d] = some (.tup [a, b, c, d]) := rfl
@[simp] theorem calm_bind_ok {α β : Type} (a : α) (f : α → R β) : ((R.ok a).calm).bind f = f a := (rfl)
theorem forD_inv {b : FB} {s : FS} {xs : List D} {P : Nat → Env → Prop} {Rr : R Fl → Prop} {ρ : Env} (h0 : P 0 ρ)
    (hs : ∀ i x ρ, xs[i]? = some x → P i ρ → ∃ ρ1, b x ρ = .ok ρ1 ∧ ((∃ ρ2, (s ρ1 = .ok (.nx ρ2) ∨ s ρ1 = .ok (.cnt ρ2)) ∧ P (i + 1) ρ2) ∨ (∃ d, s ρ1 = .ok (.ret d) ∧ Rr (.ok (.ret d))) ∨ ∃ ρ2, s ρ1 = .ok (.brk ρ2) ∧ Rr (.ok (.nx ρ2))))
    (hd : ∀ ρ, P xs.length ρ → Rr (.ok (.nx ρ))) : Rr (forD b s xs ρ) := by
  have key : ∀ n i ρ, n + i = xs.length → P i ρ → Rr (forD b s (xs.drop i) ρ) := by
    intro n
    induction n with
    | zero =>
      intro i ρ hn p
      rw [List.drop_of_length_le (by omega)]
      have e : i = xs.length := by omega
      subst e
      exact hd ρ p
    | succ n ih =>
      intro i ρ hn p
      have hi : i < xs.length := by omega
      rw [List.drop_eq_getElem_cons hi, forD_cons]
      obtain ⟨ρ1, e1, h⟩ := hs i xs[i] ρ (List.getElem?_eq_getElem hi) p
      rw [e1, calm_bind_ok]
      rcases h with ⟨ρ2, e2 | e2, p2⟩ | ⟨d, e2, p2⟩ | ⟨ρ2, e2, p2⟩
      · rw [e2]; exact ih (i + 1) ρ2 (by omega) p2
      · rw [e2]; exact ih (i + 1) ρ2 (by omega) p2
      · rw [e2]; exact p2
      · rw [e2]; exact p2
  have := key xs.length 0 ρ (by omega) h0
  simpa using this
theorem rngL_get {lo : Int} {n i : Nat} (h : i < n) : (rngL lo n)[i]? = some (.int (lo + i)) := by simp [rngL, h]
theorem rngL_at {lo : Int} {n i : Nat} {x : D} (h : (rngL lo n)[i]? = some x) : i < n ∧ x = .int (lo + i) := by
  have hi := (List.getElem?_eq_some_iff.mp h).1
  have hn : i < n := by simpa [rngL] using hi
  rw [rngL_get hn] at h
  exact ⟨hn, (Option.some.inj h).symm⟩
@[simp] theorem rngL_length (lo : Int) (n : Nat) : (rngL lo n).length = n := by simp [rngL]
theorem comp_eq {k : Nat} {b : FB} {c : FT} {e : FE} {ρ : Env} {α : Type} {enc : α → D} {ρ1 : α → Env} {p : α → Bool} {v : α → D} {xs : List α} (h : ∀ x ∈ xs, b (enc x) (ρ ++ List.replicate k none) = .ok (ρ1 x) ∧ c (ρ1 x) = .ok (p x) ∧ (p x = true → e (ρ1 x) = .ok (v x))) : compN k b c e ρ (xs.map enc) = .ok ((xs.filter p).map v) := by
  induction xs with
  | nil => rfl
  | cons x xs ih =>
    obtain ⟨h0, h1, h2⟩ := h x (.head _)
    have ih := ih fun y hy => h y (.tail _ hy)
    rw [List.map_cons]
    unfold compN
    rw [h0, calm_bind_ok, h1]
    cases hp : p x with
    | false => simp [ih, hp]
    | true => simp [ih, hp, h2 hp]
theorem comp1 {n : Nat} {c : FT} {e : FE} {ρ : Env} {α : Type} {enc : α → D} {p : α → Bool} {v : α → D} {xs : List α} (hn : ρ.length = n) (h : ∀ x ∈ xs, c (ρ ++ [some (enc x)]) = .ok (p x) ∧ (p x = true → e (ρ ++ [some (enc x)]) = .ok (v x))) : compN 1 (bName n) c e ρ (xs.map enc) = .ok ((xs.filter p).map v) :=
  comp_eq (ρ1 := fun x => ρ ++ [some (enc x)]) fun x hx => ⟨by
    show R.ok ((ρ ++ [none]).set n (some (enc x))) = _
    rw [← hn, List.set_append_right _ _ (Nat.le_refl _), Nat.sub_self]
    rfl, h x hx⟩
theorem comp1' {n : Nat} {e : FE} {ρ : Env} {α : Type} {enc : α → D} {v : α → D} {xs : List α} (hn : ρ.length = n) (h : ∀ x ∈ xs, e (ρ ++ [some (enc x)]) = .ok (v x)) : compN 1 (bName n) cYes e ρ (xs.map enc) = .ok (xs.map v) := by
  have := comp1 (p := fun _ => true) (c := cYes) hn (xs := xs) (enc := enc) (e := e) (v := v) fun x hx => ⟨rfl, fun _ => h x hx⟩
  rw [this, List.filter_eq_self.mpr fun _ _ => rfl]
theorem r_set {i : Nat} {e : FE} {ρ : Env} {d : D} (h : e ρ = .ok d) : sSet i e ρ = .ok (.nx (ρ.set i (some d))) := by rw [ev_sSet, h]; rfl
theorem r_seq {a b : FS} {ρ ρ' : Env} {r : R Fl} (h : a ρ = .ok (.nx ρ')) (h2 : b ρ' = r) : sSeq a b ρ = r := by rw [ev_sSeq, h]; exact h2
theorem r_f1 {g : D → Option D} {a : FE} {ρ : Env} {x z : D} (ha : a ρ = .ok x) (h : g x = some z) : f1 g a ρ = .ok z := by rw [ev_f1, ha]; show oR (g x) = _; rw [h]; rfl
theorem r_f2 {g : D → D → Option D} {a b : FE} {ρ : Env} {x y z : D} (ha : a ρ = .ok x) (hb : b ρ = .ok y) (h : g x y = some z) : f2 g a b ρ = .ok z := by rw [ev_f2, ha, hb]; show oR (g x y) = _; rw [h]; rfl
theorem r_fA {g : List D → Option D} {a : FA} {ρ : Env} {xs : List D} {z : D} (ha : a ρ = .ok xs) (h : g xs = some z) : fA g a ρ = .ok z := by rw [ev_fA, ha]; show oR (g xs) = _; rw [h]; rfl
theorem r_cons {a : FE} {r : FA} {ρ : Env} {x : D} {xs : List D} (ha : a ρ = .ok x) (hr : r ρ = .ok xs) : aCons a r ρ = .ok (x :: xs) := by rw [ev_aCons, ha, hr]; rfl
theorem r_call {F : List D → R D} {a : FA} {ρ : Env} {xs : List D} {d : D} (ha : a ρ = .ok xs) (h : F xs = .ok d) : fCall F a ρ = .ok d := by rw [ev_fCall, ha]; exact h
theorem r_cE {a : FE} {ρ : Env} {b : Bool} (h : a ρ = .ok (.bl b)) : cE a ρ = .ok b := by rw [ev_cE, h]; rfl
theorem r_ifT {c : FT} {a b : FS} {ρ : Env} {r : R Fl} (hc : c ρ = .ok true) (h : a ρ = r) : sIf c a b ρ = r := by rw [ev_sIf, hc]; exact h
theorem r_ifF {c : FT} {a b : FS} {ρ : Env} {r : R Fl} (hc : c ρ = .ok false) (h : b ρ = r) : sIf c a b ρ = r := by rw [ev_sIf, hc]; exact h
theorem r_app {i : Nat} {e : FE} {ρ : Env} {xs : List D} {d : D} (hv : fV i ρ = .ok (.lst xs)) (h : e ρ = .ok d) (hl : xs.length < lim) : sApp i e ρ = .ok (.nx (ρ.set i (some (.lst (xs ++ [d]))))) := by rw [ev_sApp, hv, h]; exact if_pos hl
theorem r_ret {e : FE} {ρ : Env} {d : D} (h : e ρ = .ok d) : sRet e ρ = .ok (.ret d) := by rw [ev_sRet, h]; rfl
theorem r_rng {a : FA} {ρ : Env} {j : Int} (h : a ρ = .ok [.int j]) (h1 : -1000000000 ≤ j ∧ j ≤ 1000000) : jRng1 a ρ = .ok (rngL 0 j.toNat) := by rw [ev_jRng1, h]; exact if_pos h1
theorem r_for {it : FI} {b : FB} {s : FS} {ρ : Env} {xs : List D} {r : R Fl} (h : it ρ = .ok xs) (h2 : forD b s xs ρ = r) : sFor it b s ρ = r := by rw [ev_sFor, h]; exact h2
theorem r_run {N : Nat} {q : FS} {ds : List D} {d : D} (h : q (ds.map some ++ List.replicate (N - ds.length) none) = .ok (.ret d)) : (run N q ds).calm = .ok d := by unfold run; rw [h]; rfl
theorem mulS {a b : Int} (h0 : 0 ≤ a) (h1 : a ≤ 1000000) : gMul (.int a) (.int b) = some (.int (a * b)) := mul_ii (.inl ⟨by omega, by omega⟩)
theorem r_seqR {a b : FS} {ρ : Env} {d : D} (h : a ρ = .ok (.ret d)) : sSeq a b ρ = .ok (.ret d) := by rw [ev_sSeq, h]; rfl
theorem mulR {a b : Int} (h0 : 0 ≤ b) (h1 : b ≤ 1000000) : gMul (.int a) (.int b) = some (.int (a * b)) := mul_ii (.inr ⟨by omega, by omega⟩)
theorem r_jList {a : FE} {ρ : Env} {xs : List D} (h : a ρ = .ok (.lst xs)) (hl : xs.length ≤ lim) : jList a ρ = .ok xs := by rw [ev_jList, h]; exact if_pos hl
theorem r_fIfT {c : FT} {a b : FE} {ρ : Env} {r : R D} (hc : c ρ = .ok true) (h : a ρ = r) : fIf c a b ρ = r := by rw [ev_fIf, hc]; exact h
theorem r_fIfF {c : FT} {a b : FE} {ρ : Env} {r : R D} (hc : c ρ = .ok false) (h : b ρ = r) : fIf c a b ρ = r := by rw [ev_fIf, hc]; exact h
theorem r_fAndT {a b : FE} {ρ : Env} {r : R D} (h : a ρ = .ok (.bl true)) (h2 : b ρ = r) : fAnd a b ρ = r := by rw [ev_fAnd, h]; exact h2
theorem r_fAndF {a b : FE} {ρ : Env} (h : a ρ = .ok (.bl false)) : fAnd a b ρ = .ok (.bl false) := by rw [ev_fAnd, h]; rfl
theorem bl_t {p : Prop} [Decidable p] (h : p) : some (D.bl (decide p)) = some (D.bl true) := congrArg (fun b => some (D.bl b)) (decide_eq_true h)
theorem bl_f {p : Prop} [Decidable p] (h : ¬ p) : some (D.bl (decide p)) = some (D.bl false) := congrArg (fun b => some (D.bl b)) (decide_eq_false h)
theorem r_cNot {a : FT} {ρ : Env} {b : Bool} (h : a ρ = .ok b) : cNot a ρ = .ok (!b) := by rw [ev_cNot, h]; rfl
theorem r_cOrF {a b : FT} {ρ : Env} {r : R Bool} (h : a ρ = .ok false) (h2 : b ρ = r) : cOr a b ρ = r := by rw [ev_cOr, h]; exact h2
theorem r_chain {g g' : D → D → Option D} {a b c : FE} {ρ : Env} {x y w z : D} (ha : a ρ = .ok x) (hb : b ρ = .ok y) (h1 : g x y = some (.bl true)) (hc : c ρ = .ok w) (h2 : g' y w = some z) : fChain g g' a b c ρ = .ok z := by
  rw [ev_fChain, ha]
  show (b ρ).bind _ = _
  rw [hb]
  show (oR (g x y)).bind _ = _
  rw [h1]
  show (c ρ).bind _ = _
  rw [hc]
  show oR (g' y w) = _
  rw [h2]
  rfl
theorem r_sl {g : D → Option Int → Option Int → Option D} {a : FE} {l h : FO} {ρ : Env} {x z : D} {lo hi : Option Int} (ha : a ρ = .ok x) (hl : l ρ = .ok lo) (hh : h ρ = .ok hi) (hg : g x lo hi = some z) : fSl g a l h ρ = .ok z := by
  rw [ev_fSl, ha]
  show (l ρ).bind _ = _
  rw [hl]
  show (h ρ).bind _ = _
  rw [hh]
  show oR (g x lo hi) = _
  rw [hg]
  rfl
theorem r_jTup {a : FE} {ρ : Env} {xs : List D} (h : a ρ = .ok (.tup xs)) (hl : xs.length ≤ lim) : jTup a ρ = .ok xs := by rw [ev_jTup, h]; exact if_pos hl
theorem r_comp {n k : Nat} {it : FI} {b : FB} {c : FT} {e : FE} {ρ : Env} {xs ys : List D} (hn : ρ.length = n) (h : it ρ = .ok xs) (h1 : compN k b c e ρ xs = .ok ys) : fComp n k it b c e ρ = .ok (.lst ys) := by
  rw [ev_fComp, if_pos hn, h]
  show (compN k b c e ρ xs).calm.bind _ = _
  rw [h1]
  rfl
theorem r_cOrT {a b : FT} {ρ : Env} (h : a ρ = .ok true) : cOr a b ρ = .ok true := by rw [ev_cOr, h]; rfl
theorem r_oSome {a : FE} {ρ : Env} {i : Int} (h : a ρ = .ok (.int i)) : oSome a ρ = .ok (some i) := by rw [ev_oSome, h]; rfl
end Dl

namespace Dl
open PySem
set_option genInjectivity true in
structure Kd where
  name : Str
  w : Int
  wo : Int
  al : Int
noncomputable def kD (k : Kd) : D := .tup [.str k.name, .int k.w, .int k.wo, .int k.al]
noncomputable def iD (ns : List Int) : D := .lst (ns.map D.int)
noncomputable def tD (ks : List Kd) : D := .lst (ks.map kD)
noncomputable def pD (p : Int × Str) : D := .tup [.int p.1, .str p.2]
@[simp] theorem flat_kD (k : Kd) : flat (kD k) = true := rfl
@[simp] theorem flat_pD (k : Int × Str) : flat (pD k) = true := rfl
@[simp] theorem gFlat_kD (k : Kd) : gFlat (kD k) = some (kD k) := rfl
@[simp] theorem gFlat_pD (k : Int × Str) : gFlat (pD k) = some (pD k) := rfl
@[simp] theorem flatA_kD (ks : List Kd) : flatA (ks.map kD) = true := flatA_map (fun _ => rfl) ks
@[simp] theorem kD_0 (k : Kd) : gIx (kD k) (.int 0) = some (.str k.name) := ix_t (k := 0) rfl rfl
@[simp] theorem kD_1 (k : Kd) : gIx (kD k) (.int 1) = some (.int k.w) := ix_t (k := 1) rfl rfl
@[simp] theorem kD_2 (k : Kd) : gIx (kD k) (.int 2) = some (.int k.wo) := ix_t (k := 2) rfl rfl
@[simp] theorem kD_3 (k : Kd) : gIx (kD k) (.int 3) = some (.int k.al) := ix_t (k := 3) rfl rfl
noncomputable def pre (ns : List Int) (i : Nat) : Int := (ns.take i).sum
noncomputable def good (ns : List Int) (k : Kd) (p : Int) : Bool := decide (0 ≤ p ∧ p + k.w ≤ ns.length ∧ pre ns (p + k.w).toNat - pre ns p.toNat ≤ k.al)
theorem whole_ok (i : Int) : F__law_is_whole [.int i] = .ok (.bl true) := by simp [F__law_is_whole, q__law_is_whole]
theorem cell_ok (ns : List Int) (hn : ns.length ≤ 63) {i : Int} (h0 : 0 ≤ i) (h1 : i < 1000000) : ∃ n : Int, F__law_cell [.scr ns, .int i] = .ok (.int n) := by
  have c : (cE (f2 gLt (fV 1) (fA gLen (aCons (fV 0) aNil)))) [some (.scr ns), some (.int i), none, none] = .ok (decide (i < ns.length)) := r_cE (r_f2 rfl (r_fA (r_cons rfl rfl) rfl) rfl)
  by_cases h : i < ns.length
  · have hi : i.toNat < ns.length := (Int.toNat_lt h0).mpr h
    have e : gIx (.scr ns) (.int i) = some (.int (ns.getD i.toNat 0)) := congrArg (Option.map D.int) (atD_nat (k := i.toNat) (Int.toNat_of_nonneg h0).symm (by simp [List.getD, hi]))
    exact ⟨_, r_run (r_seqR (r_ifT (c.trans (congrArg Dl.R.ok (decide_eq_true h))) (r_ret (r_f1 (r_f2 rfl rfl e) rfl))))⟩
  · have key : ∃ seed : Int, ∃ o, forD (bName 3) l__law_cell_4 ((ns.take 63).map D.int) [some (.scr ns), some (.int i), some (.int 5), none] = .ok (.nx [some (.scr ns), some (.int i), some (.int seed), o]) := by
      refine forD_inv (P := fun _ ρ => ∃ seed : Int, ∃ o, ρ = [some (.scr ns), some (.int i), some (.int seed), o]) (Rr := fun r => ∃ seed : Int, ∃ o, r = .ok (.nx [some (.scr ns), some (.int i), some (.int seed), o])) ⟨5, none, rfl⟩ ?_ ?_
      · rintro j x ρ hx ⟨seed, o, rfl⟩
        rw [List.getElem?_map] at hx
        obtain ⟨y, hy, rfl⟩ := Option.map_eq_some_iff.mp hx
        exact ⟨_, rfl, .inl ⟨_, .inl (r_set (r_f2 (r_f2 (r_f2 (r_f2 rfl rfl (mulR (by decide) (by decide))) (r_f2 rfl rfl (mod_ii (by decide))) rfl) rfl rfl) rfl (mod_ii (by decide)))), _, _, rfl⟩⟩
      · rintro ρ ⟨seed, o, rfl⟩
        exact ⟨seed, o, rfl⟩
    obtain ⟨seed, o, e⟩ := key
    have hc : cut ns none (some 63) = ns.take 63 := cut_to (by decide)
    have hl : (jList (fSl gSl (fV 0) oNone (oSome (fC (.int 63))))) [some (.scr ns), some (.int i), some (.int 5), none] = .ok ((ns.take 63).map D.int) := by
      have hm : min 63 ns.length ≤ lim := by show _ ≤ 1000000; omega
      simp [-List.map_take, hc, hm]
    exact ⟨_, r_run (r_seq (r_ifF (c.trans (congrArg Dl.R.ok (decide_eq_false h))) rfl) (r_seq (r_set rfl) (r_seq (r_for hl e) (r_ret (r_f2 (r_f2 rfl (r_f2 rfl rfl (mulS (by decide) (by decide))) rfl) rfl (mod_ii (by decide)))))))⟩
theorem mix_ok (c : Int) {k : Int} (h0 : 0 ≤ k) (h1 : k < 1000000) : ∃ n : Int, F__law_mix [.int c, .int k] = .ok (.int n) := by
  have n0 : 0 ≤ c % 2147483629 + 1013 * k + 7919 := Int.add_nonneg (Int.add_nonneg (Int.emod_nonneg _ (by decide)) (Int.mul_nonneg (by decide) h0)) (by decide)
  have n1 : c % 2147483629 + 1013 * k + 7919 < 2147483629 + 1013 * 1000000 + 7919 := Int.add_lt_add_right (Int.add_lt_add_of_lt_of_le (Int.emod_lt_of_pos _ (by decide)) (Int.mul_le_mul_of_nonneg_left (Int.le_of_lt h1) (by decide))) _
  have b : (c % 2147483629 + 1013 * k + 7919).natAbs < 2 ^ 64 := Int.ofNat_lt.mp (by rw [Int.natAbs_of_nonneg n0]; exact Int.lt_trans n1 (by decide))
  have e1 := pow_ii (i := c % 2147483629 + 1013 * k + 7919) (j := 3) (by decide) (by decide) b
  exact ⟨_, r_run (r_seq (r_set (r_f2 (r_f2 (r_f2 (r_f2 (r_f2 rfl rfl (mod_ii (by decide))) (r_f2 rfl rfl (mulS (by decide) (by decide))) rfl) rfl rfl) rfl e1) rfl (mod_ii (by decide)))) (r_seq (r_set (r_f2 (r_f2 (r_f2 (r_f2 rfl rfl (mulR (by decide) (by decide))) (r_f2 (r_f2 rfl rfl (mulS (by decide) (by decide))) rfl (mulR h0 (Int.le_of_lt h1))) rfl) rfl rfl) rfl (mod_ii (by decide)))) (r_ret (r_f2 rfl rfl (div_ii (by decide) (by decide))))))⟩
structure Row (ms os : List Int) : Prop where
  len : os.length = ms.length
  at_ : ∀ k, k < ms.length → 0 ≤ os.getD k 0 ∧ os.getD k 0 < ms.getD k 0
theorem Row.nil (ms : List Int) : Row (ms.take 0) [] := ⟨by simp, fun k hk => by simp at hk⟩
theorem Row.all {ms os : List Int} (h : Row (ms.take ms.length) os) : Row ms os := by
  rw [List.take_length] at h
  exact h
theorem Row.push {ms os : List Int} {k : Nat} {v : Int} (h : Row (ms.take k) os) (hk : k < ms.length) (h0 : 0 ≤ v) (h1 : v < ms.getD k 0) : Row (ms.take (k + 1)) (os ++ [v]) := by
  have hl := h.len
  rw [List.length_take] at hl
  have hm : min k ms.length = k := by omega
  have hm' : min (k + 1) ms.length = k + 1 := by omega
  refine ⟨by rw [List.length_append, List.length_take, hm', List.length_singleton]; omega, fun j hj => ?_⟩
  rw [List.length_take, hm'] at hj
  by_cases e : j = k
  · subst e
    have e1 : (os ++ [v]).getD j 0 = v := by
      have : os.length = j := by omega
      simp [List.getD, ← this]
    have e2 : (ms.take (j + 1)).getD j 0 = ms.getD j 0 := by simp [List.getD, List.getElem?_take]
    rw [e1, e2]
    exact ⟨h0, h1⟩
  · have hj' : j < k := by omega
    have q := h.at_ j (by rw [List.length_take]; omega)
    have e1 : (os ++ [v]).getD j 0 = os.getD j 0 := by
      have : j < os.length := by omega
      simp [List.getD, List.getElem?_append_left this]
    have e2 : (ms.take (k + 1)).getD j 0 = (ms.take k).getD j 0 := by
      have h1 : j < k + 1 := by omega
      simp [List.getD, List.getElem?_take, hj', h1]
    rw [e1, e2]
    exact q
theorem getD_all {P : Int → Prop} {ws : List Int} {i : Nat} (h : ∀ w ∈ ws, P w) (hi : i < ws.length) : P (ws.getD i 0) := by
  have e : ws.getD i 0 = ws[i] := by simp [List.getD, hi]
  rw [e]
  exact h _ (List.getElem_mem hi)
theorem row_okL (ns : List Int) (hn : ns.length ≤ 63) {i : Int} (h0 : 0 ≤ i) (h1 : i < 1000) (ms : List Int) (hm : ms.length ≤ 2000) (hms : ∀ m ∈ ms, 0 < m ∧ m < 2 ^ 200) : ∃ os, F__law_row [.scr ns, .int i, iD ms] = .ok (iD os) ∧ Row ms os := by
  obtain ⟨c, hc⟩ := cell_ok ns hn h0 (show i < 1000000 by omega)
  have key := forD_inv (b := bName 6) (s := l__law_row_4) (xs := rngL 0 ms.length) (ρ := [some (.scr ns), some (.int i), some (iD ms), some (.int c), some (.int c), some (.lst []), none, none])
    (P := fun k ρ => ∃ (l : Int) (os : List Int) (o6 o7 : Option D), Row (ms.take k) os ∧ ρ = [some (.scr ns), some (.int i), some (iD ms), some (.int c), some (.int l), some (iD os), o6, o7])
    (Rr := fun r => ∃ (l : Int) (os : List Int) (o6 o7 : Option D), Row ms os ∧ r = .ok (.nx [some (.scr ns), some (.int i), some (iD ms), some (.int c), some (.int l), some (iD os), o6, o7]))
    ⟨c, [], none, none, Row.nil ms, rfl⟩ ?_ ?_
  · obtain ⟨l, os, o6, o7, hr, e⟩ := key
    refine ⟨os, ?_, hr⟩
    have b1 : -1000000000 ≤ (ms.length : Int) ∧ (ms.length : Int) ≤ 1000000 := by omega
    have gl : gLen [iD ms] = some (.int ms.length) := by simp [iD]
    exact r_run (r_seq (r_set (r_call (r_cons rfl (r_cons rfl rfl)) hc)) (r_seq (r_set (r_f1 rfl rfl)) (r_seq (r_set rfl) (r_seq (r_for (r_rng (r_cons (r_fA (r_cons rfl rfl) gl) rfl) b1) e) (r_ret rfl)))))
  · rintro k x ρ hx ⟨l, os, o6, o7, hr, rfl⟩
    obtain ⟨hk, rfl⟩ := rngL_at hx
    rw [Int.zero_add]
    have hol : os.length = k := by have := hr.len; rw [List.length_take] at this; omega
    have hlim : (os.map D.int).length < lim := by rw [List.length_map]; show _ < 1000000; omega
    have c1 : ∀ o5 : Option D, (cE (f2 gLt (fV 3) (f2 gPow (fC (.int 10)) (fC (.int 18))))) [some (.scr ns), some (.int i), some (iD ms), some (.int c), some (.int l), o5, some (.int k), o7] = .ok (decide (c < 1000000000000000000)) := fun _ => r_cE (r_f2 rfl (r_f2 rfl rfl pow10_18) rfl)
    have ap : ∀ v : Int, iD (os ++ [v]) = .lst (os.map D.int ++ [.int v]) := fun v => congrArg D.lst List.map_append
    have hmk := getD_all hms hk
    have ix := ix_ints (ns := ms) (i := (k : Int)) (k := k) rfl hk
    have md : ∀ z : Int, gMod (.int z) (.int (ms.getD k 0)) = some (.int (z % ms.getD k 0)) := fun z => mod_ii hmk.1
    have nn : ∀ z : Int, 0 ≤ z % ms.getD k 0 ∧ z % ms.getD k 0 < ms.getD k 0 := fun z => ⟨Int.emod_nonneg _ (Int.ne_of_gt hmk.1), Int.emod_lt_of_pos _ hmk.1⟩
    have k0 : 0 ≤ (k : Int) ∧ (k : Int) < 1000000 := by omega
    obtain ⟨x1, hx1⟩ := mix_ok c k0.1 k0.2
    obtain ⟨c2, hc2⟩ := cell_ok ns hn (i := (i + 1 + k) % 63) (Int.emod_nonneg _ (by decide)) (Int.lt_trans (Int.emod_lt_of_pos _ (by decide)) (by decide))
    obtain ⟨x2, hx2⟩ := mix_ok c2 k0.1 k0.2
    refine ⟨_, rfl, .inl ?_⟩
    by_cases a1 : c < 1000000000000000000
    · refine ⟨[some (.scr ns), some (.int i), some (iD ms), some (.int c), some (.int l), some (iD (os ++ [x1 % ms.getD k 0])), some (.int k), o7], .inl ?_, l, _, _, o7, hr.push hk (nn x1).1 (nn x1).2, rfl⟩
      rw [ap]
      exact r_ifT ((c1 _).trans (congrArg Dl.R.ok (decide_eq_true a1))) (r_app rfl (r_f2 (r_call (r_cons rfl (r_cons rfl rfl)) hx1) (r_f2 rfl rfl ix) (md x1)) hlim)
    · by_cases a2 : 0 < l
      · refine ⟨[some (.scr ns), some (.int i), some (iD ms), some (.int c), some (.int (l / ms.getD k 0)), some (iD (os ++ [l % ms.getD k 0])), some (.int k), o7], .inl ?_, _, _, _, o7, hr.push hk (nn l).1 (nn l).2, rfl⟩
        rw [ap]
        exact r_ifF ((c1 _).trans (congrArg Dl.R.ok (decide_eq_false a1))) (r_ifT (r_cE (r_f2 rfl rfl (congrArg (fun b => some (D.bl b)) (decide_eq_true a2)))) (r_seq (r_app rfl (r_f2 rfl (r_f2 rfl rfl ix) (md l)) hlim) (r_set (r_f2 rfl (r_f2 rfl rfl ix) (div_ii hmk.1 hmk.2)))))
      · refine ⟨[some (.scr ns), some (.int i), some (iD ms), some (.int c), some (.int l), some (iD (os ++ [x2 % ms.getD k 0])), some (.int k), some (.int c2)], .inl ?_, l, _, _, _, hr.push hk (nn x2).1 (nn x2).2, rfl⟩
        rw [ap]
        exact r_ifF ((c1 _).trans (congrArg Dl.R.ok (decide_eq_false a1))) (r_ifF (r_cE (r_f2 rfl rfl (congrArg (fun b => some (D.bl b)) (decide_eq_false a2)))) (r_seq (r_set (r_call (r_cons rfl (r_cons (r_f2 (r_f2 (r_f2 rfl rfl rfl) rfl rfl) rfl (mod_ii (by decide))) rfl)) hc2)) (r_app rfl (r_f2 (r_call (r_cons rfl (r_cons rfl rfl)) hx2) (r_f2 rfl rfl ix) (md x2)) hlim)))
  · rintro ρ ⟨l, os, o6, o7, hr, rfl⟩
    rw [rngL_length] at hr
    exact ⟨l, os, o6, o7, hr.all, rfl⟩
theorem row_ok (ns : List Int) (hn : ns.length ≤ 63) {i : Int} (h0 : 0 ≤ i) (h1 : i < 1000) (ms : List Int) (hm : ms.length ≤ 1000) (hms : ∀ m ∈ ms, 0 < m ∧ m < 2 ^ 200) : ∃ os, F__law_row [.scr ns, .int i, iD ms] = .ok (iD os) ∧ Row ms os := row_okL ns hn h0 h1 ms (Nat.le_trans hm (by decide)) hms
theorem ix_lit (ws : List Int) {i : Int} (h0 : 0 ≤ i) (h1 : i < ws.length) : gIx (.lst (ws.map D.int)) (.int i) = some (.int (ws.getD i.toNat 0)) := ix_ints (by omega) (by omega)
theorem rep_len (l : List Int) : ∀ n : Nat, (List.replicate n l).flatten.length = n * l.length
  | 0 => by simp
  | n + 1 => by rw [List.replicate_succ, List.flatten_cons, List.length_append, rep_len l n, Nat.succ_mul, Nat.add_comm]
theorem rep_map (l : List Int) (n : Nat) : (List.replicate n (l.map D.int)).flatten = (List.replicate n l).flatten.map D.int := by
  rw [List.map_flatten, List.map_replicate]
theorem mul_rep {ws : List Int} {m : Int} (h0 : 0 ≤ m) (h1 : m ≤ 200) (hl : ws.length ≤ 1000) : gMul (.lst (ws.map D.int)) (.int m) = some (iD (List.replicate m.toNat ws).flatten) := by
  simp only [gMul]
  rw [if_pos ⟨by omega, by
    rw [List.length_map]
    show ws.length * m.toNat ≤ 1000000
    have : ws.length * m.toNat ≤ 1000 * 200 := Nat.mul_le_mul hl (by omega)
    omega, by omega, flatA_ints ws⟩, rep_map]
  rfl
theorem add_ints {xs ys : List Int} (h : xs.length + ys.length ≤ 1000000) : gAdd (iD xs) (iD ys) = some (iD (xs ++ ys)) := by
  show (if (xs.map D.int).length + (ys.map D.int).length ≤ lim ∧ flatA (xs.map D.int) ∧ flatA (ys.map D.int) then some (D.lst (xs.map D.int ++ ys.map D.int)) else none) = _
  rw [if_pos ⟨by rw [List.length_map, List.length_map]; exact h, flatA_ints _, flatA_ints _⟩, ← List.map_append]
  rfl
theorem rep3_get (x y z : Int) : ∀ (n k : Nat), k < n → (List.replicate n [x, y, z]).flatten.getD (3 * k) 0 = x ∧ (List.replicate n [x, y, z]).flatten.getD (3 * k + 1) 0 = y ∧ (List.replicate n [x, y, z]).flatten.getD (3 * k + 2) 0 = z
  | 0, k, h => by omega
  | n + 1, 0, _ => by simp [List.replicate_succ, List.flatten_cons, List.getD]
  | n + 1, k + 1, h => by
    have q := rep3_get x y z n k (by omega)
    have e1 : 3 * (k + 1) = 3 * k + 3 := by omega
    rw [List.replicate_succ, List.flatten_cons, e1]
    exact q
theorem mem_rep {l : List Int} {n : Nat} {z : Int} (h : z ∈ (List.replicate n l).flatten) : z ∈ l := by
  obtain ⟨l', hl, hz⟩ := List.mem_flatten.mp h
  rwa [(List.mem_replicate.mp hl).2] at hz
noncomputable def poolL : List Str := ["a", "ab", "abc", "b", "ba", "z", "zzzzzzzz", "roll", "cut", "by", "aab", "zz", "kind", "qsvw", "fghjmp", "x"]
theorem pool_inj : ∀ j : Nat, j < 16 → ∀ k : Nat, k < 16 → poolL.getD j "" = poolL.getD k "" → j = k := by decide +kernel
noncomputable def nameAt (s4 s5 : Int) (k : Nat) : Str := poolL.getD ((s4 + (2 * s5 + 1) * (k : Int)) % 16).toNat ""
theorem step_inj : ∀ t : Nat, t < 4 → ∀ j : Nat, j < 8 → ∀ k : Nat, k < 8 → ((2 * (t : Int) + 1) * j - (2 * (t : Int) + 1) * k) % 16 = 0 → j = k := by decide +kernel
theorem nameAt_inj {s4 s5 : Int} (h0 : 0 ≤ s5) (h1 : s5 < 4) {j k : Nat} (hj : j < 8) (hk : k < 8) (e : nameAt s4 s5 j = nameAt s4 s5 k) : j = k := by
  have lt : ∀ x : Int, (x % 16).toNat < 16 := fun x => (Int.toNat_lt (Int.emod_nonneg x (by decide))).mpr (Int.emod_lt_of_pos x (by decide))
  have q := congrArg Int.ofNat (pool_inj _ (lt _) _ (lt _) e)
  have q1 : (s4 + (2 * s5 + 1) * (j : Int)) % 16 = (s4 + (2 * s5 + 1) * (k : Int)) % 16 := (Int.toNat_of_nonneg (Int.emod_nonneg _ (by decide))).symm.trans (q.trans (Int.toNat_of_nonneg (Int.emod_nonneg _ (by decide))))
  have q2 := Int.emod_eq_emod_iff_emod_sub_eq_zero.mp q1
  rw [Int.add_sub_add_left] at q2
  obtain ⟨t, rfl⟩ := Int.eq_ofNat_of_zero_le h0
  exact step_inj t (Int.ofNat_lt.mp h1) j hj k hk q2
theorem nameAt_mem (s4 s5 : Int) (k : Nat) : nameAt s4 s5 k ∈ poolL := by
  unfold nameAt
  have h : ((s4 + (2 * s5 + 1) * (k : Int)) % 16).toNat < poolL.length := by show _ < 16; omega
  have e : poolL.getD ((s4 + (2 * s5 + 1) * (k : Int)) % 16).toNat "" = poolL[((s4 + (2 * s5 + 1) * (k : Int)) % 16).toNat] := by simp [List.getD, h]
  rw [e]
  exact List.getElem_mem h
structure KindOk (k : Kd) : Prop where
  nm : k.name ∈ poolL
  w1 : 1 ≤ k.w
  w2 : k.w ≤ 200
  o1 : 1 ≤ k.wo
  o2 : k.wo ≤ 1000000000000000000
  a1 : 0 ≤ k.al
  a2 : k.al < 1000000000000000000
structure TabOk (ks : List Kd) : Prop where
  ok : ∀ k ∈ ks, KindOk k
  nd : (ks.map (·.name)).Nodup
theorem pool_ix {i : Int} (h0 : 0 ≤ i) (h1 : i < 16) : gIx (.lst (poolL.map D.str)) (.int i) = some (.str (poolL.getD i.toNat "")) := ix_l (k := i.toNat) (by omega) (by
  have h : i.toNat < poolL.length := by show _ < 16; omega
  simp [List.getD, h])
theorem max_lit {ms : List Int} (h : ∀ m ∈ ms, 0 < m ∧ m ≤ 1000000) : ∀ m ∈ ms, 0 < m ∧ m < 2 ^ 200 := fun m hm => ⟨(h m hm).1, Int.lt_of_le_of_lt (h m hm).2 (by decide)⟩
theorem four {x : Int} (h : 0 ≤ x ∧ x < 4) : x = 0 ∨ x = 1 ∨ x = 2 ∨ x = 3 := by
  obtain ⟨n, rfl⟩ := Int.eq_ofNat_of_zero_le h.1
  match n, Int.ofNat_lt.mp h.2 with
  | 0, _ => exact .inl rfl
  | 1, _ => exact .inr (.inl rfl)
  | 2, _ => exact .inr (.inr (.inl rfl))
  | 3, _ => exact .inr (.inr (.inr rfl))
theorem mod_bd {x m : Int} (hm : 0 < m) : 0 ≤ x % m ∧ x % m < m := ⟨Int.emod_nonneg _ (Int.ne_of_gt hm), Int.emod_lt_of_pos _ hm⟩
theorem tab_turn {d0 d1 d2 o9 o10 o11 o12 o13 : Option D} {O : D} {T : List D} {fl gn bw wd am x3 x4 x5 x6 x7 x8 : Int} {k : Nat} {nm : Str}
    (j0 : gIx O (.int (3 * (k : Int) + 6)) = some (.int x6)) (j1 : gIx O (.int (3 * (k : Int) + 6 + 1)) = some (.int x7)) (j2 : gIx O (.int (3 * (k : Int) + 6 + 2)) = some (.int x8))
    (j3 : gIx O (.int 3) = some (.int x3)) (j4 : gIx O (.int 4) = some (.int x4)) (j5 : gIx O (.int 5) = some (.int x5))
    (ib : gIx (.lst [.int 150, .int 200]) (.int ((k : Int) % 2)) = some (.int bw))
    (iw : gIx (.lst [.int 1, .int 2, .int 3, .int 4, .int 5, .int 6, .int 2, .int 3, .int 11, .int 40, .int bw]) (.int x6) = some (.int wd))
    (ia : gIx (.lst [.int 0, .int 0, .int 1, .int 2, .int 3, .int 12]) (.int x8) = some (.int am))
    (iN : gIx (.lst (poolL.map D.str)) (.int ((x4 + (2 * x5 + 1) * (k : Int)) % 16)) = some (.str nm))
    (w1 : 1 ≤ wd ∧ wd ≤ 200) (c7 : 0 ≤ x7 ∧ x7 < 40) (c3 : 0 ≤ x3 ∧ x3 < 4) (c5 : 0 ≤ x5 ∧ x5 < 4) (m1 : 0 ≤ am ∧ am ≤ 12) (sl : T.length < lim) :
    ∃ wo : Int, (1 ≤ wo ∧ wo ≤ 1000) ∧ l__law_table_7 [d0, d1, d2, some (.lst (poolL.map D.str)), some O, some (.int fl), some (.int gn), some (.lst T), some (.int k), o9, o10, o11, o12, o13] =
      .ok (.nx [d0, d1, d2, some (.lst (poolL.map D.str)), some O, some (.int fl), some (.int gn), some (.lst (T ++ [.tup [.str nm, .int wd, .int (min (wo * gn) 1000000000000000000), .int (min (am * fl) 999999999999999999)]])), some (.int k), some (.int (3 * (k : Int) + 6)), some (.int wd), some (.int wo), some (.int (min (am * fl) 999999999999999999)), some (.str nm)]) := by
  obtain ⟨wo, hb, mid⟩ : ∃ wo : Int, (1 ≤ wo ∧ wo ≤ 1000) ∧ ∀ Q : FS, (sSeq (sIf (cE (f2 gEq (f2 gIx (fV 4) (fC (.int 3))) (fC (.int 1)))) (sSet 11 (f2 gAdd (f2 gMul (fC (.int 3)) (fV 10)) (f2 gMod (f2 gIx (fV 4) (f2 gAdd (fV 9) (fC (.int 1)))) (fC (.int 4))))) sNx)
    (sSeq (sIf (cE (f2 gEq (f2 gIx (fV 4) (fC (.int 3))) (fC (.int 2)))) (sSet 11 (f2 gAdd (fC (.int 1)) (f2 gMod (f2 gIx (fV 4) (f2 gAdd (fV 9) (fC (.int 1)))) (fC (.int 3))))) sNx)
    (sSeq (sIf (cE (f2 gEq (f2 gIx (fV 4) (fC (.int 3))) (fC (.int 3)))) (sSet 11 (f1 gFlat (fV 10))) sNx) Q))) [d0, d1, d2, some (.lst (poolL.map D.str)), some O, some (.int fl), some (.int gn), some (.lst T), some (.int k), some (.int (3 * (k : Int) + 6)), some (.int wd), some (.int (1 + x7)), o12, o13] =
      Q [d0, d1, d2, some (.lst (poolL.map D.str)), some O, some (.int fl), some (.int gn), some (.lst T), some (.int k), some (.int (3 * (k : Int) + 6)), some (.int wd), some (.int wo), o12, o13] := by
    rcases four c3 with rfl | rfl | rfl | rfl
    · exact ⟨1 + x7, ⟨Int.le_add_of_nonneg_right c7.1, Int.le_trans (Int.add_le_add_left (Int.le_of_lt c7.2) 1) (by decide)⟩, fun Q => r_seq (r_ifF (r_cE (r_f2 (r_f2 rfl rfl j3) rfl rfl)) rfl) (r_seq (r_ifF (r_cE (r_f2 (r_f2 rfl rfl j3) rfl rfl)) rfl) (r_seq (r_ifF (r_cE (r_f2 (r_f2 rfl rfl j3) rfl rfl)) rfl) rfl))⟩
    · exact ⟨3 * wd + x7 % 4, ⟨Int.le_trans (show (1 : Int) ≤ 3 * 1 + 0 by decide) (Int.add_le_add (Int.mul_le_mul_of_nonneg_left w1.1 (by decide)) (mod_bd (by decide)).1), Int.le_trans (Int.add_le_add (Int.mul_le_mul_of_nonneg_left w1.2 (by decide)) (Int.le_of_lt (mod_bd (by decide)).2)) (by decide)⟩, fun Q => r_seq (r_ifT (r_cE (r_f2 (r_f2 rfl rfl j3) rfl rfl)) (r_set (r_f2 (r_f2 rfl rfl (mulS (by decide) (by decide))) (r_f2 (r_f2 rfl (r_f2 rfl rfl rfl) j1) rfl (mod_ii (by decide))) rfl))) (r_seq (r_ifF (r_cE (r_f2 (r_f2 rfl rfl j3) rfl rfl)) rfl) (r_seq (r_ifF (r_cE (r_f2 (r_f2 rfl rfl j3) rfl rfl)) rfl) rfl))⟩
    · exact ⟨1 + x7 % 3, ⟨Int.le_add_of_nonneg_right (mod_bd (by decide)).1, Int.le_trans (Int.add_le_add_left (Int.le_of_lt (mod_bd (by decide)).2) 1) (by decide)⟩, fun Q => r_seq (r_ifF (r_cE (r_f2 (r_f2 rfl rfl j3) rfl rfl)) rfl) (r_seq (r_ifT (r_cE (r_f2 (r_f2 rfl rfl j3) rfl rfl)) (r_set (r_f2 rfl (r_f2 (r_f2 rfl (r_f2 rfl rfl rfl) j1) rfl (mod_ii (by decide))) rfl))) (r_seq (r_ifF (r_cE (r_f2 (r_f2 rfl rfl j3) rfl rfl)) rfl) rfl))⟩
    · exact ⟨wd, ⟨w1.1, Int.le_trans w1.2 (by decide)⟩, fun Q => r_seq (r_ifF (r_cE (r_f2 (r_f2 rfl rfl j3) rfl rfl)) rfl) (r_seq (r_ifF (r_cE (r_f2 (r_f2 rfl rfl j3) rfl rfl)) rfl) (r_seq (r_ifT (r_cE (r_f2 (r_f2 rfl rfl j3) rfl rfl)) (r_set (r_f1 rfl rfl))) rfl))⟩
  exact ⟨wo, hb, r_seq (r_set (r_f2 (r_f2 rfl rfl (mulS (by decide) (by decide))) rfl rfl)) (r_seq (r_set (r_f1 (r_f2 (r_fA (r_cons rfl (r_cons rfl (r_cons rfl (r_cons rfl (r_cons rfl (r_cons rfl (r_cons rfl (r_cons rfl (r_cons rfl (r_cons rfl (r_cons (r_f2 rfl (r_f2 rfl rfl (mod_ii (by decide))) ib) rfl))))))))))) rfl) (r_f2 rfl rfl j0) iw) rfl)) (r_seq (r_set (r_f2 rfl (r_f2 rfl (r_f2 rfl rfl rfl) j1) rfl)) ((mid _).trans
    (r_seq (r_set (r_fA (r_cons (r_f2 (r_f2 rfl (r_f2 rfl (r_f2 rfl rfl rfl) j2) ia) rfl (mulS m1.1 (Int.le_trans m1.2 (by decide)))) (r_cons (r_f2 (r_f2 rfl rfl pow10_18) rfl (show gSub (.int 1000000000000000000) (.int 1) = some (.int 999999999999999999) from rfl)) rfl)) (min_ii _ _)))
    (r_seq (r_set (r_f1 (r_f2 rfl (r_f2 (r_f2 (r_f2 rfl rfl j4) (r_f2 (r_f2 (r_f2 rfl (r_f2 rfl rfl j5) (mulS (by decide) (by decide))) rfl rfl) rfl (mulS (Int.add_nonneg (Int.mul_nonneg (by decide) c5.1) (by decide)) (Int.le_trans (Int.add_le_add_right (Int.mul_le_mul_of_nonneg_left (Int.le_of_lt c5.2) (by decide)) 1) (by decide)))) rfl) rfl (mod_ii (by decide))) iN) rfl))
    (r_app rfl (r_fA (r_cons (r_f1 rfl rfl) (r_cons (r_f1 rfl rfl) (r_cons (r_fA (r_cons (r_f2 rfl rfl (mulS (Int.le_trans (by decide) hb.1) (Int.le_trans hb.2 (by decide)))) (r_cons (r_f2 rfl rfl pow10_18) rfl)) (min_ii _ _)) (r_cons (r_f1 rfl rfl) rfl)))) rfl) sl))))))⟩

theorem under {x m : Int} {k : Nat} (h : k < x.toNat) (hx : x < m + 1) : k < m.toNat := by omega
theorem lits_and {P : Int → Prop} {l : List Int} {b : Int} (h : ∀ z ∈ l, P z) (hb : P b) : ∀ z ∈ l ++ [b], P z := List.forall_mem_append.mpr ⟨h, fun _ hz => List.mem_singleton.mp hz ▸ hb⟩
theorem tri_lt {k j m : Nat} (h : k < m) (hj : j < 3) : 3 * k + (j + 6) < 6 + m * 3 := by omega
theorem table_ok (ns : List Int) (hn : ns.length ≤ 63) {i m : Int} (h0 : 0 ≤ i) (h1 : i < 1000) (m0 : 0 ≤ m) (m1 : m ≤ 8) : ∃ ks, F__law_table [.scr ns, .int i, .int m] = .ok (tD ks) ∧ (ks.length : Int) ≤ m ∧ TabOk ks := by
  have m8 : m.toNat ≤ 8 := Int.toNat_le.mpr m1
  have m24 : 6 + m.toNat * 3 ≤ 30 := Nat.add_le_add_left (Nat.mul_le_mul_right 3 m8) 6
  have ms_eq : gAdd (iD [m + 1, 4, 4, 4, 16, 4]) (iD (List.replicate m.toNat [11, 40, 6]).flatten) = some (iD ([m + 1, 4, 4, 4, 16, 4] ++ (List.replicate m.toNat [11, 40, 6]).flatten)) := add_ints (by
    rw [rep_len]
    exact Nat.le_trans m24 (by decide))
  have mr := mul_rep (ws := [11, 40, 6]) m0 (Int.le_trans m1 (by decide)) (by decide)
  have hml : ([m + 1, 4, 4, 4, 16, 4] ++ (List.replicate m.toNat [(11 : Int), 40, 6]).flatten).length = 6 + m.toNat * 3 := by rw [List.length_append, rep_len]; rfl
  obtain ⟨os, hos, R⟩ := row_ok ns hn h0 h1 ([m + 1, 4, 4, 4, 16, 4] ++ (List.replicate m.toNat [11, 40, 6]).flatten) (by rw [hml]; exact Nat.le_trans m24 (by decide)) (max_lit (List.forall_mem_append.mpr ⟨List.forall_mem_cons.mpr ⟨⟨Int.lt_add_one_of_le m0, Int.le_trans (Int.add_le_add_right m1 1) (by decide)⟩, by decide⟩, fun z hz => (by decide : ∀ z ∈ [(11 : Int), 40, 6], 0 < z ∧ z ≤ 1000000) z (mem_rep hz)⟩))
  have hol : os.length = 6 + m.toNat * 3 := by rw [R.len, hml]
  have hlt : ∀ {j : Nat}, j < 6 → j < ([m + 1, 4, 4, 4, 16, 4] ++ (List.replicate m.toNat [(11 : Int), 40, 6]).flatten).length := fun h => by rw [hml]; exact Nat.lt_of_lt_of_le h (Nat.le_add_right _ _)
  have hlo : ∀ {j : Nat}, j < 6 → j < os.length := fun h => by rw [hol]; exact Nat.lt_of_lt_of_le h (Nat.le_add_right _ _)
  have tri : ∀ k j : Nat, k < m.toNat → j < 3 → 3 * k + (j + 6) < 6 + m.toNat * 3 := fun _ _ h hj => tri_lt h hj
  have a0 : 0 ≤ os.getD 0 0 ∧ os.getD 0 0 < m + 1 := R.at_ 0 (hlt (by decide))
  have a1 : 0 ≤ os.getD 1 0 ∧ os.getD 1 0 < 4 := R.at_ 1 (hlt (by decide))
  have a2 : 0 ≤ os.getD 2 0 ∧ os.getD 2 0 < 4 := R.at_ 2 (hlt (by decide))
  have a3 : 0 ≤ os.getD 3 0 ∧ os.getD 3 0 < 4 := R.at_ 3 (hlt (by decide))
  have a4 : 0 ≤ os.getD 4 0 ∧ os.getD 4 0 < 16 := R.at_ 4 (hlt (by decide))
  have a5 : 0 ≤ os.getD 5 0 ∧ os.getD 5 0 < 4 := R.at_ 5 (hlt (by decide))
  have b3 : ∀ k : Nat, k < m.toNat → (0 ≤ os.getD (3 * k + 6) 0 ∧ os.getD (3 * k + 6) 0 < 11) ∧ (0 ≤ os.getD (3 * k + 7) 0 ∧ os.getD (3 * k + 7) 0 < 40) ∧ (0 ≤ os.getD (3 * k + 8) 0 ∧ os.getD (3 * k + 8) 0 < 6) := fun k hk => by
    obtain ⟨g1, g2, g3⟩ := rep3_get 11 40 6 m.toNat k hk
    have e : ∀ j : Nat, ([m + 1, 4, 4, 4, 16, 4] ++ (List.replicate m.toNat [(11 : Int), 40, 6]).flatten).getD (j + 6) 0 = (List.replicate m.toNat [(11 : Int), 40, 6]).flatten.getD j 0 := fun j => rfl
    have r1 := R.at_ (3 * k + 6) (by rw [hml]; exact tri k 0 hk (by decide))
    have r2 := R.at_ (3 * k + 7) (by rw [hml]; exact tri k 1 hk (by decide))
    have r3 := R.at_ (3 * k + 8) (by rw [hml]; exact tri k 2 hk (by decide))
    rw [e (3 * k), g1] at r1
    rw [show 3 * k + 7 = (3 * k + 1) + 6 from rfl, e (3 * k + 1), g2] at r2
    rw [show 3 * k + 8 = (3 * k + 2) + 6 from rfl, e (3 * k + 2), g3] at r3
    exact ⟨r1, r2, r3⟩
  have ix : ∀ k : Nat, k < os.length → ∀ j : Int, j = (k : Int) → gIx (.lst (os.map D.int)) (.int j) = some (.int (os.getD k 0)) := fun k hk j e => ix_ints e hk
  obtain ⟨fl, hfl⟩ : ∃ fl, fl = ([1, 1, 7, 100000000000000000] : List Int).getD (os.getD 1 0).toNat 0 := ⟨_, rfl⟩
  obtain ⟨gn, hgn⟩ : ∃ gn, gn = ([1, 1, 1000000, 25000000000000000] : List Int).getD (os.getD 2 0).toNat 0 := ⟨_, rfl⟩
  have fl1 : 1 ≤ fl ∧ fl ≤ 100000000000000000 := by
    rw [hfl]
    exact getD_all (P := fun z => 1 ≤ z ∧ z ≤ 100000000000000000) (by decide) (show _ < 4 from (Int.toNat_lt a1.1).mpr a1.2)
  have gn1 : 1 ≤ gn ∧ gn ≤ 25000000000000000 := by
    rw [hgn]
    exact getD_all (P := fun z => 1 ≤ z ∧ z ≤ 25000000000000000) (by decide) (show _ < 4 from (Int.toNat_lt a2.1).mpr a2.2)
  have i1 : gIx (.lst [.int 1, .int 1, .int 7, .int 100000000000000000]) (.int (os.getD 1 0)) = some (.int fl) := by rw [hfl]; exact ix_lit [1, 1, 7, 100000000000000000] a1.1 a1.2
  have i2 : gIx (.lst [.int 1, .int 1, .int 1000000, .int 25000000000000000]) (.int (os.getD 2 0)) = some (.int gn) := by rw [hgn]; exact ix_lit [1, 1, 1000000, 25000000000000000] a2.1 a2.2
  have key := forD_inv (b := bName 8) (s := l__law_table_7) (xs := rngL 0 (os.getD 0 0).toNat) (ρ := [some (.scr ns), some (.int i), some (.int m), some (.lst (poolL.map D.str)), some (iD os), some (.int fl), some (.int gn), some (.lst []), none, none, none, none, none, none])
    (P := fun k ρ => ∃ (ks : List Kd) (o8 o9 o10 o11 o12 o13 : Option D), ks.length = k ∧ (∀ x ∈ ks, KindOk x) ∧ ks.map (·.name) = (List.range k).map (nameAt (os.getD 4 0) (os.getD 5 0)) ∧ ρ = [some (.scr ns), some (.int i), some (.int m), some (.lst (poolL.map D.str)), some (iD os), some (.int fl), some (.int gn), some (tD ks), o8, o9, o10, o11, o12, o13])
    (Rr := fun r => ∃ (ks : List Kd) (o8 o9 o10 o11 o12 o13 : Option D), ks.length = (os.getD 0 0).toNat ∧ (∀ x ∈ ks, KindOk x) ∧ ks.map (·.name) = (List.range ks.length).map (nameAt (os.getD 4 0) (os.getD 5 0)) ∧ r = .ok (.nx [some (.scr ns), some (.int i), some (.int m), some (.lst (poolL.map D.str)), some (iD os), some (.int fl), some (.int gn), some (tD ks), o8, o9, o10, o11, o12, o13]))
    ⟨[], none, none, none, none, none, none, rfl, (fun _ h => nomatch h), rfl, rfl⟩ ?_ ?_
  · obtain ⟨ks, o8, o9, o10, o11, o12, o13, kl, kok, knm, e⟩ := key
    have k8 : ks.length ≤ 8 := by rw [kl]; exact Int.toNat_le.mpr (Int.le_trans (Int.lt_add_one_iff.mp a0.2) m1)
    refine ⟨ks, ?_, by rw [kl, Int.toNat_of_nonneg a0.1]; exact Int.lt_add_one_iff.mp a0.2, kok, ?_⟩
    · have b1 : -1000000000 ≤ os.getD 0 0 ∧ os.getD 0 0 ≤ 1000000 := ⟨Int.le_trans (by decide) a0.1, Int.le_trans (Int.lt_add_one_iff.mp a0.2) (Int.le_trans m1 (by decide))⟩
      have hp : gAdd (.lst [.str ("a" : Str), .str ("ab" : Str), .str ("abc" : Str), .str ("b" : Str), .str ("ba" : Str), .str ("z" : Str), .str ("zzzzzzzz" : Str), .str ("roll" : Str), .str ("cut" : Str), .str ("by" : Str)]) (.lst [.str ("aab" : Str), .str ("zz" : Str), .str ("kind" : Str), .str ("qsvw" : Str), .str ("fghjmp" : Str), .str ("x" : Str)]) = some (.lst (poolL.map D.str)) := rfl
      have mr' : gMul (.lst [.int 11, .int 40, .int 6]) (.int m) = _ := mr
      have ms' : gAdd (.lst [.int (m + 1), .int 4, .int 4, .int 4, .int 16, .int 4]) (iD (List.replicate m.toNat [11, 40, 6]).flatten) = _ := ms_eq
      generalize iD ([m + 1, 4, 4, 4, 16, 4] ++ (List.replicate m.toNat [11, 40, 6]).flatten) = Mv at hos ms'
      generalize iD (List.replicate m.toNat [11, 40, 6]).flatten = Mw at mr' ms'
      exact r_run (r_seq (r_set rfl) (r_seq (r_set (r_f2 rfl rfl hp)) (r_seq (r_set (r_call (r_cons rfl (r_cons rfl (r_cons (r_f2 (r_fA (r_cons (r_f2 rfl rfl rfl) rfl) rfl) (r_f2 rfl rfl mr') ms') rfl))) hos))
        (r_seq (r_set (r_f1 (r_f2 (r_fA (r_cons rfl (r_cons rfl (r_cons rfl (r_cons (r_f2 rfl rfl pow10_17) rfl)))) rfl) (r_f2 rfl rfl (ix 1 (hlo (by decide)) 1 rfl)) i1) rfl))
        (r_seq (r_set (r_f1 (r_f2 (r_fA (r_cons rfl (r_cons rfl (r_cons (r_f2 rfl rfl (show gPow (.int 10) (.int 6) = some (.int 1000000) by simp)) (r_cons (r_f2 rfl (r_f2 rfl rfl pow10_15) (show gMul (.int 25) (.int 1000000000000000) = some (.int 25000000000000000) from mulS (by decide) (by decide))) rfl)))) rfl) (r_f2 rfl rfl (ix 2 (hlo (by decide)) 2 rfl)) i2) rfl))
        (r_seq (r_set rfl) (r_seq (r_for (r_rng (r_cons (r_f2 rfl rfl (ix 0 (hlo (by decide)) 0 rfl)) rfl) b1) e) (r_ret rfl))))))))
    · rw [knm, List.nodup_iff_pairwise_ne, List.pairwise_map]
      refine List.Pairwise.imp_of_mem ?_ (List.nodup_iff_pairwise_ne.mp List.nodup_range)
      intro i j hi hj hij e
      have hi := List.mem_range.mp hi
      have hj := List.mem_range.mp hj
      exact hij (nameAt_inj a5.1 a5.2 (Nat.lt_of_lt_of_le hi (Nat.le_trans k8 (by decide))) (Nat.lt_of_lt_of_le hj (Nat.le_trans k8 (by decide))) e)
  · rintro k x ρ hx ⟨ks, o8, o9, o10, o11, o12, o13, kl, kok, knm, rfl⟩
    obtain ⟨hk, rfl⟩ := rngL_at hx
    rw [Int.zero_add]
    have hkm : k < m.toNat := under hk a0.2
    obtain ⟨c1, c2, c3⟩ := b3 k hkm
    have j0 := ix (3 * k + 6) (by rw [hol]; exact tri k 0 hkm (by decide)) (3 * k + 6) rfl
    have j1 := ix (3 * k + 7) (by rw [hol]; exact tri k 1 hkm (by decide)) (3 * k + 6 + 1) (Int.add_assoc _ 6 1)
    have j2 := ix (3 * k + 8) (by rw [hol]; exact tri k 2 hkm (by decide)) (3 * k + 6 + 2) (Int.add_assoc _ 6 2)
    have j3 := ix 3 (hlo (by decide)) 3 rfl
    have j4 := ix 4 (hlo (by decide)) 4 rfl
    have j5 := ix 5 (hlo (by decide)) 5 rfl
    obtain ⟨bw, hbw⟩ : ∃ bw, bw = ([150, 200] : List Int).getD ((k : Int) % 2).toNat 0 := ⟨_, rfl⟩
    have k2 : 0 ≤ (k : Int) % 2 ∧ (k : Int) % 2 < 2 := ⟨Int.emod_nonneg _ (by decide), Int.emod_lt_of_pos _ (by decide)⟩
    have bw1 : 1 ≤ bw ∧ bw ≤ 200 := by
      rw [hbw]
      exact getD_all (P := fun z => 1 ≤ z ∧ z ≤ 200) (by decide) (show _ < 2 from (Int.toNat_lt k2.1).mpr k2.2)
    have ib : gIx (.lst [.int 150, .int 200]) (.int ((k : Int) % 2)) = some (.int bw) := by rw [hbw]; exact ix_lit [150, 200] k2.1 k2.2
    obtain ⟨wd, hwd⟩ : ∃ wd, wd = ([1, 2, 3, 4, 5, 6, 2, 3, 11, 40, bw] : List Int).getD (os.getD (3 * k + 6) 0).toNat 0 := ⟨_, rfl⟩
    have wd1 : 1 ≤ wd ∧ wd ≤ 200 := by
      rw [hwd]
      exact getD_all (P := fun z => 1 ≤ z ∧ z ≤ 200) (lits_and (l := [1, 2, 3, 4, 5, 6, 2, 3, 11, 40]) (by decide) bw1) (show _ < 11 from (Int.toNat_lt c1.1).mpr c1.2)
    have iw : gIx (.lst [.int 1, .int 2, .int 3, .int 4, .int 5, .int 6, .int 2, .int 3, .int 11, .int 40, .int bw]) (.int (os.getD (3 * k + 6) 0)) = some (.int wd) := by rw [hwd]; exact ix_lit [1, 2, 3, 4, 5, 6, 2, 3, 11, 40, bw] c1.1 c1.2
    obtain ⟨am, ham⟩ : ∃ am, am = ([0, 0, 1, 2, 3, 12] : List Int).getD (os.getD (3 * k + 8) 0).toNat 0 := ⟨_, rfl⟩
    have am1 : 0 ≤ am ∧ am ≤ 12 := by
      rw [ham]
      exact getD_all (P := fun z => 0 ≤ z ∧ z ≤ 12) (by decide) (show _ < 6 from (Int.toNat_lt c3.1).mpr c3.2)
    have ia : gIx (.lst [.int 0, .int 0, .int 1, .int 2, .int 3, .int 12]) (.int (os.getD (3 * k + 8) 0)) = some (.int am) := by rw [ham]; exact ix_lit [0, 0, 1, 2, 3, 12] c3.1 c3.2
    have iN := pool_ix (i := (os.getD 4 0 + (2 * os.getD 5 0 + 1) * (k : Int)) % 16) (Int.emod_nonneg _ (by decide)) (Int.emod_lt_of_pos _ (by decide))
    have sl : (ks.map kD).length < lim := by rw [List.length_map, kl]; exact Nat.lt_of_lt_of_le hkm (Nat.le_trans m8 (by decide))
    obtain ⟨wo, wo1, turn⟩ := tab_turn (d0 := some (.scr ns)) (d1 := some (.int i)) (d2 := some (.int m)) (o9 := o9) (o10 := o10) (o11 := o11) (o12 := o12) (o13 := o13) (fl := fl) (gn := gn) j0 j1 j2 j3 j4 j5 ib iw ia iN wd1 c2 a3 a5 am1 sl
    have pr : 0 ≤ am * fl := Int.mul_nonneg am1.1 (Int.le_trans (by decide) fl1.1)
    have wg : 1 ≤ wo * gn := Int.mul_le_mul wo1.1 gn1.1 (by decide) (Int.le_trans (by decide) wo1.1)
    have kd : KindOk ⟨nameAt (os.getD 4 0) (os.getD 5 0) k, wd, min (wo * gn) 1000000000000000000, min (am * fl) 999999999999999999⟩ := ⟨nameAt_mem _ _ _, wd1.1, wd1.2, Int.le_min.mpr ⟨wg, by decide⟩, Int.min_le_right _ _, Int.le_min.mpr ⟨pr, by decide⟩, Int.lt_of_le_of_lt (Int.min_le_right _ _) (by decide)⟩
    refine ⟨_, rfl, .inl ⟨[some (.scr ns), some (.int i), some (.int m), some (.lst (poolL.map D.str)), some (iD os), some (.int fl), some (.int gn), some (tD (ks ++ [⟨nameAt (os.getD 4 0) (os.getD 5 0) k, wd, min (wo * gn) 1000000000000000000, min (am * fl) 999999999999999999⟩])), some (.int k), some (.int (3 * k + 6)), some (.int wd), some (.int wo), some (.int (min (am * fl) 999999999999999999)), some (.str (nameAt (os.getD 4 0) (os.getD 5 0) k))], .inl ?_, _, _, _, _, _, _, _, ?_, ?_, ?_, rfl⟩⟩
    · rw [show tD (ks ++ [⟨nameAt (os.getD 4 0) (os.getD 5 0) k, wd, min (wo * gn) 1000000000000000000, min (am * fl) 999999999999999999⟩]) = .lst (ks.map kD ++ [.tup [.str (nameAt (os.getD 4 0) (os.getD 5 0) k), .int wd, .int (min (wo * gn) 1000000000000000000), .int (min (am * fl) 999999999999999999)]]) from congrArg D.lst List.map_append]
      exact turn
    · rw [List.length_append, kl]; rfl
    · intro x hx
      rcases List.mem_append.mp hx with h | h
      · exact kok x h
      · rw [List.mem_singleton.mp h]; exact kd
    · rw [List.map_append, knm, List.range_succ, List.map_append]
      rfl
  · rintro ρ ⟨ks, o8, o9, o10, o11, o12, o13, kl, kok, knm, rfl⟩
    rw [rngL_length] at kl
    exact ⟨ks, o8, o9, o10, o11, o12, o13, kl, kok, by rw [kl]; rw [rngL_length] at knm; exact knm, rfl⟩
end Dl

namespace Dl
noncomputable def S : Nat → (Nat → Int) → Int
  | 0, _ => 0
  | n + 1, f => S n f + f n
noncomputable def pth (e : Nat → Nat → Int) (a : Nat) : Nat → List Int
  | 0 => [1]
  | d + 1 => pth e a d ++ [S (d + 1) fun i => e (a + i) (a + d + 1) * (pth e a d).getD i 0]
noncomputable def W (e : Nat → Nat → Int) (a d : Nat) : Int := (pth e a d).getD d 0
end Dl

namespace Dl
open PySem
noncomputable def cntStep (ns : List Int) (ks : List Kd) (cs : List Int) : Int := cs.getD (cs.length - 1) 0 + ((ks.filter fun k => good ns k ((cs.length : Int) - k.w)).map fun k => cs.getD ((cs.length : Int) - k.w).toNat 0).sum
noncomputable def cnts (ns : List Int) (ks : List Kd) : Nat → List Int
  | 0 => [1]
  | j + 1 => cnts ns ks j ++ [cntStep ns ks (cnts ns ks j)]
noncomputable def cnt (ns : List Int) (ks : List Kd) (j : Nat) : Int := (cnts ns ks j).getD j 0
end Dl

namespace Dl
open PySem
noncomputable abbrev Cut := List (Int × Str) × Int
noncomputable def addK (ns : List Int) (rows : List (List Cut)) (e : Nat) (k : Kd) : List Cut := if good ns k ((e : Int) - k.w) = true then (rows.getD ((e : Int) - k.w).toNat []).map fun c => (c.1 ++ [((e : Int) - k.w, k.name)], c.2 + k.wo) else []
noncomputable def rowOf (ns : List Int) (ks : List Kd) (rows : List (List Cut)) : List Cut := rows.getD (rows.length - 1) [] ++ (ks.map (addK ns rows rows.length)).flatten
noncomputable def rowsA (ns : List Int) (ks : List Kd) : Nat → List (List Cut)
  | 0 => [[([], 0)]]
  | j + 1 => rowsA ns ks j ++ [rowOf ns ks (rowsA ns ks j)]
mutual
theorem eqv_self : ∀ d : D, dep d ≤ 20 → eqv d d = true
  | .non, _ => rfl
  | .bl b, _ => beq_self_eq_true b
  | .int b, _ => beq_self_eq_true b
  | .str b, _ => beq_self_eq_true b
  | .lst xs, h => eqvA_self xs (Nat.le_of_succ_le h)
  | .tup xs, h => eqvA_self xs (Nat.le_of_succ_le h)
  | .scr _, h => absurd h (by decide : ¬ 100 ≤ 20)
  | .rng _ _, h => absurd h (by decide : ¬ 100 ≤ 20)
  | .exc _ _, h => absurd h (by decide : ¬ 100 ≤ 20)
  | .obj _ _ _, h => absurd h (by decide : ¬ 100 ≤ 20)
  | .dct _ _, h => absurd h (by decide : ¬ 100 ≤ 20)
theorem eqvA_self : ∀ xs : List D, depA xs ≤ 20 → eqvA xs xs = true
  | [], _ => rfl
  | x :: xs, h => by
    have a : dep x ≤ 20 ∧ depA xs ≤ 20 := Nat.max_le.mp h
    show (eqv x x && eqvA xs xs) = true
    rw [eqv_self x a.1, eqvA_self xs a.2]
    rfl
end
theorem gEq_self {d : D} (h : dep d ≤ 20) : gEq d d = some (.bl true) := by
  unfold gEq
  rw [if_pos ⟨h, h⟩, eqv_self d h]
theorem depA_map {α : Type} {f : α → D} {n : Nat} (h : ∀ a, dep (f a) ≤ n) : ∀ xs : List α, depA (xs.map f) ≤ n
  | [] => Nat.zero_le _
  | x :: xs => by
    rw [List.map_cons, depA]
    have := h x
    have := depA_map h xs
    omega
theorem dep_iD (ns : List Int) : dep (iD ns) ≤ 1 := by
  rw [iD, dep]
  have := depA_map (f := D.int) (n := 0) (fun _ => by simp [dep]) ns
  omega
theorem dep_kD (k : Kd) : dep (kD k) ≤ 1 := by simp [kD, dep, depA]
end Dl

namespace Dl
open PySem
noncomputable def hStep (ns : List Int) (ks : List Kd) (ts : List Int) : Int := maxL (ts.getD (ts.length - 1) 0 :: (ks.filter fun k => good ns k ((ts.length : Int) - k.w)).map fun k => ts.getD ((ts.length : Int) - k.w).toNat 0 + k.wo)
noncomputable def hts (ns : List Int) (ks : List Kd) : Nat → List Int
  | 0 => [0]
  | j + 1 => hts ns ks j ++ [hStep ns ks (hts ns ks j)]
noncomputable def ht (ns : List Int) (ks : List Kd) (j : Nat) : Int := (hts ns ks j).getD j 0
end Dl

namespace Dl
open PySem
theorem eq_str (a b : Str) : gEq (.str a) (.str b) = some (.bl (a == b)) := rfl
theorem eq_int (a b : Int) : gEq (.int a) (.int b) = some (.bl (a == b)) := rfl
theorem ne_int (a b : Int) : gNe (.int a) (.int b) = some (.bl (!(a == b))) := rfl
end Dl

namespace Dl
open PySem
end Dl

namespace Dl
open PySem
inductive Way (ns : List Int) (ks : List Kd) : Nat → Nat → Int → Prop where
  | nil (a : Nat) : Way ns ks a a 0
  | skip {a b : Nat} {w : Int} : Way ns ks a b w → b + 1 ≤ ns.length → Way ns ks a (b + 1) w
  | piece {a b : Nat} {w : Int} {k : Kd} : Way ns ks a b w → k ∈ ks → good ns k (b : Int) = true → Way ns ks a (b + k.w.toNat) (w + k.wo)
section
variable {ns : List Int} {ks : List Kd}
end
end Dl

namespace Dl
open PySem
end Dl

namespace Dl
open PySem
noncomputable def V {α : Type} : R α → (α → Prop) → Prop
  | .ok a, Q => Q a
  | .err _ _, _ => False
  | .bad, _ => False
@[simp] theorem V_ok {α : Type} (a : α) (Q : α → Prop) : V (.ok a) Q = Q a := (rfl)
theorem V_bind {α β : Type} (r : R α) (f : α → R β) (Q : β → Prop) : V (r.bind f) Q = V r fun a => V (f a) Q := by cases r <;> rfl
theorem V.imp {α : Type} {r : R α} {Q Q' : α → Prop} (h : V r Q) (g : ∀ a, Q a → Q' a) : V r Q' := by
  cases r with
  | ok a => exact g a h
  | err _ _ => exact h
  | bad => exact h
theorem V.ex {α : Type} {r : R α} {Q : α → Prop} (h : V r Q) : ∃ a, r = .ok a ∧ Q a := by
  cases r with
  | ok a => exact ⟨a, rfl, h⟩
  | err _ _ => exact h.elim
  | bad => exact h.elim
theorem V.of {α : Type} {r : R α} {a : α} {Q : α → Prop} (e : r = .ok a) (h : Q a) : V r Q := by rw [e]; exact h
noncomputable def turn (b : FB) (s : FS) (x : D) (ρ : Env) : R Fl := (b x ρ).calm.bind s
noncomputable def Tn (P : Env → Prop) (Q : Fl → Prop) : Fl → Prop
  | .nx ρ => P ρ
  | .cnt ρ => P ρ
  | .brk ρ => Q (.nx ρ)
  | .ret d => Q (.ret d)
@[simp] theorem Tn_nx (P : Env → Prop) (Q : Fl → Prop) (ρ : Env) : Tn P Q (.nx ρ) = P ρ := (rfl)
@[simp] theorem Tn_cnt (P : Env → Prop) (Q : Fl → Prop) (ρ : Env) : Tn P Q (.cnt ρ) = P ρ := (rfl)
@[simp] theorem Tn_brk (P : Env → Prop) (Q : Fl → Prop) (ρ : Env) : Tn P Q (.brk ρ) = Q (.nx ρ) := (rfl)
@[simp] theorem Tn_ret (P : Env → Prop) (Q : Fl → Prop) (d : D) : Tn P Q (.ret d) = Q (.ret d) := (rfl)
theorem V_for {b : FB} {s : FS} {Q : Fl → Prop} {P : List D → Env → Prop} (hs : ∀ x r ρ, P (x :: r) ρ → V (turn b s x ρ) (Tn (P r) Q)) (hd : ∀ ρ, P [] ρ → Q (.nx ρ)) : ∀ {xs : List D} {ρ : Env}, P xs ρ → V (forD b s xs ρ) Q
  | [], ρ, h => hd ρ h
  | x :: xs, ρ, h => by
    have t := hs x xs ρ h
    unfold turn at t
    rw [V_bind] at t
    rw [forD_cons, V_bind]
    refine t.imp fun ρ1 q => ?_
    rw [V_bind]
    refine q.imp fun fl q => ?_
    cases fl with
    | nx ρ2 => exact V_for hs hd q
    | cnt ρ2 => exact V_for hs hd q
    | brk ρ2 => exact q
    | ret d => exact q
theorem V_forI {b : FB} {s : FS} {Q : Fl → Prop} {P : Nat → Env → Prop} {xs : List D} {ρ : Env} (h0 : P 0 ρ) (hs : ∀ i x ρ, xs[i]? = some x → P i ρ → V (turn b s x ρ) (Tn (P (i + 1)) Q)) (hd : ∀ ρ, P xs.length ρ → Q (.nx ρ)) : V (forD b s xs ρ) Q := by
  refine V_for (P := fun r ρ => ∃ i, r = xs.drop i ∧ i ≤ xs.length ∧ P i ρ) (fun x r ρ p => ?_) (fun ρ p => ?_) ⟨0, rfl, Nat.zero_le _, h0⟩
  · obtain ⟨i, e, hi, p⟩ := p
    have hl : i < xs.length := by
      rcases Nat.lt_or_ge i xs.length with q | q
      · exact q
      · rw [List.drop_of_length_le q] at e; cases e
    rw [List.drop_eq_getElem_cons hl, List.cons.injEq] at e
    obtain ⟨rfl, rfl⟩ := e
    refine (hs i _ ρ (List.getElem?_eq_getElem hl) p).imp fun fl q => ?_
    cases fl with
    | nx ρ2 => exact ⟨i + 1, rfl, hl, q⟩
    | cnt ρ2 => exact ⟨i + 1, rfl, hl, q⟩
    | brk ρ2 => exact q
    | ret d => exact q
  · obtain ⟨i, e, hi, p⟩ := p
    have : i = xs.length := by
      have := congrArg List.length e
      rw [List.length_drop, List.length_nil] at this
      omega
    subst this
    exact hd ρ p
theorem V_rng {b : FB} {s : FS} {Q : Fl → Prop} {P : Nat → Env → Prop} {lo : Int} {n : Nat} {ρ : Env} (h0 : P 0 ρ) (hs : ∀ i ρ, i < n → P i ρ → V (turn b s (.int (lo + i)) ρ) (Tn (P (i + 1)) Q)) (hd : ∀ ρ, P n ρ → Q (.nx ρ)) : V (forD b s (rngL lo n) ρ) Q :=
  V_forI h0 (fun i x ρ hx p => by
    obtain ⟨hi, rfl⟩ := rngL_at hx
    exact hs i ρ hi p) (fun ρ p => hd ρ (by rw [rngL_length] at p; exact p))
theorem V_rng0 {b : FB} {s : FS} {Q : Fl → Prop} {P : Nat → Env → Prop} {n : Nat} {ρ : Env} (h0 : P 0 ρ) (hs : ∀ (i : Nat) ρ, i < n → P i ρ → V (turn b s (.int (i : Int)) ρ) (Tn (P (i + 1)) Q)) (hd : ∀ ρ, P n ρ → Q (.nx ρ)) : V (forD b s (rngL 0 n) ρ) Q :=
  V_rng h0 (fun i ρ hi p => by rw [Int.zero_add]; exact hs i ρ hi p) hd
@[simp] theorem turn_name (i : Nat) (s : FS) (x : D) (ρ : Env) : turn (bName i) s x ρ = s (ρ.set i (some x)) := (rfl)
@[simp] theorem ev_fJoin (a b : FE) (ρ : Env) : fJoin a b ρ = (a ρ).bind fun x => match x with | .str s => (b ρ).bind fun y => oR (gJoin (.str s) y) | _ => .bad := (rfl)
@[simp] theorem calm_bad {α : Type} : (R.bad : R α).calm = .bad := (rfl)
@[simp] theorem gLst_7 (a0 a1 a2 a3 a4 a5 a6 : D) : gLst [a0, a1, a2, a3, a4, a5, a6] = some (.lst [a0, a1, a2, a3, a4, a5, a6]) := rfl
@[simp] theorem gLst_8 (a0 a1 a2 a3 a4 a5 a6 a7 : D) : gLst [a0, a1, a2, a3, a4, a5, a6, a7] = some (.lst [a0, a1, a2, a3, a4, a5, a6, a7]) := rfl
@[simp] theorem gLst_9 (a0 a1 a2 a3 a4 a5 a6 a7 a8 : D) : gLst [a0, a1, a2, a3, a4, a5, a6, a7, a8] = some (.lst [a0, a1, a2, a3, a4, a5, a6, a7, a8]) := rfl
end Dl

namespace Dl
open PySem
theorem plain_mono {n m : Nat} {z : Str} (h : plain n z = true) (e : n ≤ m) : plain m z = true := by
  unfold plain at *
  rw [Bool.and_eq_true] at *
  exact ⟨decide_eq_true (Nat.le_trans (of_decide_eq_true h.1) e), h.2⟩
theorem add_str {x y : Str} {n m : Nat} (h : plain n x = true) (g : plain m y = true) (e : n + m ≤ 1000) : gAdd (.str x) (.str y) = some (.str (x ++ y)) := by
  unfold gAdd
  simp only []
  unfold plain at h g
  rw [Bool.and_eq_true] at h g
  have := of_decide_eq_true h.1
  have := of_decide_eq_true g.1
  rw [if_pos (by show _ ≤ 1000000; omega)]
end Dl

namespace Dl
open PySem
theorem sl_str {x : Str} {n : Nat} (lo hi : Option Int) (h : plain n x = true) (e : n ≤ 1000) : gSlS (.str x) lo hi = some (.str (strCut x lo hi)) := by
  unfold gSlS
  simp only []
  rw [if_pos (plain_mono h e)]
end Dl

namespace Dl
open PySem
noncomputable def eL : Nat → List Int → List D
  | _, [] => []
  | k, w :: r => .tup [.int (k : Int), .int w] :: eL (k + 1) r
theorem neX {d : D} (h : dep d ≤ 20) : gNe d d = some (.bl false) := by
  have hs := gEq_self h
  simp only [gEq] at hs
  rw [if_pos ⟨h, h⟩] at hs
  have : eqv d d = true := by simpa using hs
  simp only [gNe]
  rw [if_pos ⟨h, h⟩, this]
  rfl
theorem depI (ws : List Int) : dep (iD ws) ≤ 20 := by
  have := dep_iD ws
  omega
theorem forD_step {b : FB} {s : FS} {x : D} {xs : List D} {ρ ρ1 : Env} (hb : b x ρ = .ok ρ1) : forD b s (x :: xs) ρ = (s ρ1).bind fun fl => match fl with
    | .nx ρ2 => forD b s xs ρ2
    | .cnt ρ2 => forD b s xs ρ2
    | .brk ρ2 => .ok (.nx ρ2)
    | .ret d => .ok (.ret d) := by
  rw [forD_cons, hb]
  rfl
noncomputable def rg (k n : Nat) : List D := (List.range' k n).map fun (j : Nat) => D.int (0 + (j : Int))
theorem rg_cons (k n : Nat) : rg k (n + 1) = D.int (0 + (k : Int)) :: rg (k + 1) n := rfl
theorem rg_of (n : Nat) : rngL 0 n = rg 0 n := by
  unfold rngL rg
  rw [← List.range_eq_range']
theorem len_ints {e : FE} {ρ : Env} {ws : List Int} (h : e ρ = .ok (iD ws)) : fA gLen (aCons e aNil) ρ = .ok (.int ws.length) := r_fA (r_cons h rfl) (by simp [iD, gLen])
theorem list_ints (ws : List Int) : gList [iD ws] = some (iD ws) := by simp [iD, gList]
end Dl

namespace Dl
open PySem
noncomputable def nmOk (z : Str) : Bool := decide (1 ≤ z.length ∧ z.length ≤ 8) && z.cps.toList.all fun c => decide (97 ≤ c ∧ c ≤ 122)
noncomputable def nmIn (z : Str) : Prop := z.length ≤ 1000
theorem r_chainF {g g' : D → D → Option D} {a b c : FE} {ρ : Env} {x y : D} (ha : a ρ = .ok x) (hb : b ρ = .ok y) (h : g x y = some (.bl false)) : fChain g g' a b c ρ = .ok (.bl false) := by
  unfold fChain
  rw [ha, bind_ok, hb, bind_ok, h]
  rfl
theorem le_a (c : Nat) : gLeS (.str ("a" : Str)) (.str ⟨#[c]⟩) = some (.bl (decide (97 ≤ c))) := by
  have e : ("a" : Str).cps.toList = [97] := by decide +kernel
  show some (D.bl (!decide ([c] < ("a" : Str).cps.toList))) = _
  rw [e]
  have q : ([c] < [97]) ↔ c < 97 := by rw [List.cons_lt_cons_iff]; simp
  by_cases h : 97 ≤ c
  · rw [decide_eq_false (fun z => absurd (q.mp z) (by omega)), decide_eq_true h]
    rfl
  · rw [decide_eq_true (q.mpr (by omega)), decide_eq_false h]
    rfl
theorem le_z (c : Nat) : gLeS (.str ⟨#[c]⟩) (.str ("z" : Str)) = some (.bl (decide (c ≤ 122))) := by
  have e : ("z" : Str).cps.toList = [122] := by decide +kernel
  show some (D.bl (!decide (("z" : Str).cps.toList < [c]))) = _
  rw [e]
  have q : ([122] < [c]) ↔ 122 < c := by rw [List.cons_lt_cons_iff]; simp
  by_cases h : c ≤ 122
  · rw [decide_eq_false (fun z => absurd (q.mp z) (by omega)), decide_eq_true h]
    rfl
  · rw [decide_eq_true (q.mpr (by omega)), decide_eq_false h]
    rfl
theorem len_s {z : Str} (h : nmIn z) : gLen [.str z] = some (.int z.length) := by
  unfold gLen
  simp only []
  rw [if_pos (Nat.le_trans h (by decide))]
theorem jstr {a : FE} {ρ : Env} {z : Str} (h : nmIn z) (ha : a ρ = .ok (.str z)) : jStr a ρ = .ok (z.cps.toList.map fun c => D.str ⟨#[c]⟩) := by
  unfold jStr
  rw [ha]
  exact if_pos (Nat.le_trans h (by decide))
theorem all_az (z : Str) : gAll [.lst (z.cps.toList.map fun c => D.bl (decide (97 ≤ c ∧ c ≤ 122)))] = some (.bl (z.cps.toList.all fun c => decide (97 ≤ c ∧ c ≤ 122))) := by
  have := all_bools (z.cps.toList.map fun c => decide (97 ≤ c ∧ c ≤ 122))
  rw [List.map_map] at this
  refine Eq.trans this ?_
  rw [List.all_map]
  rfl
theorem is_name_ok {z : Str} (h : nmIn z) : F_is_name [.str z] = .ok (.bl (nmOk z)) := by
  have sg : ∀ c : Nat, fChain gLeS gLeS (fC (.str ("a" : Str))) (fV 1) (fC (.str ("z" : Str))) [some (.str z), some (.str ⟨#[c]⟩)] = .ok (.bl (decide (97 ≤ c ∧ c ≤ 122))) := fun c => by
    by_cases h1 : 97 ≤ c
    · exact r_chain rfl rfl ((le_a c).trans (bl_t h1)) rfl ((le_z c).trans (by simp [h1]))
    · exact (r_chainF rfl rfl ((le_a c).trans (bl_f h1))).trans (by simp [h1])
  have all : fA gAll (aCons (fComp 1 1 (jStr (fV 0)) (bName 1) cYes (fChain gLeS gLeS (fC (.str ("a" : Str))) (fV 1) (fC (.str ("z" : Str))))) aNil) [some (.str z)] = .ok (.bl (z.cps.toList.all fun c => decide (97 ≤ c ∧ c ≤ 122))) :=
    r_fA (r_cons (r_comp rfl (jstr h rfl) (comp1' (v := fun c => D.bl (decide (97 ≤ c ∧ c ≤ 122))) rfl fun c _ => sg c)) rfl) (all_az z)
  have hl : fA gLen (aCons (fV 0) aNil) [some (.str z)] = .ok (.int z.length) := r_fA (r_cons rfl rfl) (len_s h)
  refine r_run (r_ret ?_)
  unfold nmOk
  show fAnd _ _ [some (.str z)] = _
  by_cases h1 : 1 ≤ z.length
  · by_cases h2 : z.length ≤ 8
    · rw [decide_eq_true (p := 1 ≤ z.length ∧ z.length ≤ 8) ⟨h1, h2⟩, Bool.true_and]
      exact r_fAndT (r_chain rfl hl (bl_t (p := (1 : Int) ≤ z.length) (by omega)) rfl (bl_t (p := (z.length : Int) ≤ 8) (by omega))) all
    · rw [decide_eq_false (p := 1 ≤ z.length ∧ z.length ≤ 8) (fun q => h2 q.2), Bool.false_and]
      exact r_fAndF (r_chain rfl hl (bl_t (p := (1 : Int) ≤ z.length) (by omega)) rfl (bl_f (p := (z.length : Int) ≤ 8) (by omega)))
  · rw [decide_eq_false (p := 1 ≤ z.length ∧ z.length ≤ 8) (fun q => h1 q.1), Bool.false_and]
    exact r_fAndF (r_chainF rfl hl (bl_f (p := (1 : Int) ≤ z.length) (by omega)))
end Dl

namespace Dl
open PySem
theorem range_get (l : List Nat) : ∀ m : Nat, (List.range m).filterMap (fun k => l[k]?) = l.take m
  | 0 => by simp
  | m + 1 => by
    rw [List.range_succ, List.filterMap_append, range_get l m, List.take_succ]
    cases h : l[m]? <;> simp [h]
theorem sr1 (a b : Nat) : sliceRange (a : Int) (b : Int) 1 = (List.range (b - a)).map fun k => a + k := by
  unfold sliceRange
  have hc : (if (1 : Int) > 0 then if (a : Int) < b then ((b : Int) - a + 1 - 1) / 1 else 0 else if (a : Int) > b then ((a : Int) - b - 1 - 1) / -1 else 0).toNat = b - a := by
    rw [if_pos (by decide)]
    split
    · rw [Int.ediv_one]
      omega
    · omega
  simp only [hc]
  refine List.map_congr_left fun k _ => ?_
  omega
theorem ssi_to (b n : Nat) : Builtin.Str.strSliceIndices none (some (b : Int)) 1 n = (List.range (min b n)).map fun k => 0 + k := by
  have h := sr1 0 (min b n)
  rw [Nat.sub_zero] at h
  rw [← h]
  unfold Builtin.Str.strSliceIndices
  have e : max 0 (min (if (b : Int) < 0 then (b : Int) + n else (b : Int)) (n : Int)) = ((min b n : Nat) : Int) := by
    rw [if_neg (by omega)]
    omega
  simp only [show (1 : Int) > 0 by decide, if_true]
  rw [e]
  rfl
theorem ssi_from (a n : Nat) : Builtin.Str.strSliceIndices (some (a : Int)) none 1 n = (List.range (n - min a n)).map fun k => min a n + k := by
  rw [← sr1 (min a n) n]
  unfold Builtin.Str.strSliceIndices
  have e : max 0 (min (if (a : Int) < 0 then (a : Int) + n else (a : Int)) (n : Int)) = ((min a n : Nat) : Int) := by
    rw [if_neg (by omega)]
    omega
  simp only [show (1 : Int) > 0 by decide, if_true]
  rw [e]
theorem cut_to_s (z : Str) (b : Nat) : (strCut z none (some (b : Int))).cps.toList = z.cps.toList.take b := by
  unfold strCut
  rw [ssi_to]
  have hl : z.cps.toList.length = z.length := by simp [Str.length]
  split
  · rename_i h
    rw [List.length_map, List.length_range] at h
    have h' : min b z.length = z.length := by simpa using h
    rw [List.take_of_length_le (by omega)]
  · show ((List.range (min b z.length)).map fun k => 0 + k).filterMap (fun k => z.cps[k]?) = _
    rw [List.filterMap_map]
    have e : ((fun k => z.cps[k]?) ∘ fun k => 0 + k) = fun k => z.cps.toList[k]? := funext fun k => by
      show z.cps[0 + k]? = _
      rw [Nat.zero_add, Array.getElem?_toList]
    rw [e, range_get, ← hl]
    by_cases hb : b ≤ z.cps.toList.length
    · rw [Nat.min_eq_left hb]
    · rw [Nat.min_eq_right (by omega), List.take_length, List.take_of_length_le (by omega)]
theorem cut_from_s (z : Str) (a : Nat) : (strCut z (some (a : Int)) none).cps.toList = z.cps.toList.drop a := by
  unfold strCut
  rw [ssi_from]
  have hl : z.cps.toList.length = z.length := by simp [Str.length]
  split
  · rename_i h
    rw [List.length_map, List.length_range] at h
    have h' : z.length - min a z.length = z.length := by simpa using h
    by_cases h0 : z.length = 0
    · have : z.cps.toList = [] := List.eq_nil_of_length_eq_zero (by omega)
      rw [this]
      simp
    · have : a = 0 := by omega
      rw [this, List.drop_zero]
  · show ((List.range (z.length - min a z.length)).map fun k => min a z.length + k).filterMap (fun k => z.cps[k]?) = _
    rw [List.filterMap_map]
    have e : ((fun k => z.cps[k]?) ∘ fun k => min a z.length + k) = fun k => (z.cps.toList.drop (min a z.length))[k]? := funext fun k => by
      show z.cps[min a z.length + k]? = _
      rw [List.getElem?_drop, Array.getElem?_toList]
    rw [e, range_get, List.take_of_length_le (by rw [List.length_drop]; omega)]
    by_cases hb : a ≤ z.length
    · rw [Nat.min_eq_left hb]
    · rw [Nat.min_eq_right (by omega), ← hl, List.drop_length, List.drop_of_length_le (by omega)]
theorem dc_nat : ∀ d : Nat, d < 10 → (Nat.digitChar d).toNat = 48 + d := by decide
theorem digL_eq (n : Nat) : digL n = if n < 10 then [48 + n] else digL (n / 10) ++ [48 + n % 10] := by
  unfold digL
  rw [Nat.toDigits_eq_if (by decide)]
  split
  · rename_i h
    rw [List.map_cons, dc_nat n h]
    rfl
  · rw [List.map_append, List.map_cons, dc_nat _ (Nat.mod_lt _ (by decide))]
    rfl
theorem dval_snoc (cs : List Nat) (c : Nat) : dval (cs ++ [c]) = dval cs * 10 + (c - 48) := by
  unfold dval
  rw [List.foldl_append]
  rfl
theorem dval_digL (n : Nat) : dval (digL n) = n := by
  induction n using Nat.strongRecOn with
  | ind n ih =>
    rw [digL_eq]
    split
    · show 0 * 10 + (48 + n - 48) = n
      omega
    · rw [dval_snoc, ih (n / 10) (by omega)]
      omega
theorem digL_all (n : Nat) : ∀ c ∈ digL n, 48 ≤ c ∧ c ≤ 57 := by
  induction n using Nat.strongRecOn with
  | ind n ih =>
    intro c hc
    rw [digL_eq] at hc
    split at hc
    · rw [List.mem_singleton.mp hc]
      omega
    · rcases List.mem_append.mp hc with h | h
      · exact ih (n / 10) (by omega) c h
      · rw [List.mem_singleton.mp h]
        omega
theorem digL_head (n : Nat) : ∃ c r, digL n = c :: r ∧ (0 < n → c ≠ 48) := by
  induction n using Nat.strongRecOn with
  | ind n ih =>
    rw [digL_eq]
    split
    · exact ⟨_, _, rfl, fun h => by omega⟩
    · obtain ⟨c, r, e, h⟩ := ih (n / 10) (by omega)
      exact ⟨c, r ++ [48 + n % 10], by rw [e]; rfl, fun _ => h (by omega)⟩
theorem digL_len {n k : Nat} (hk : 0 < k) (h : n < 10 ^ k) : (digL n).length ≤ k := by
  unfold digL
  rw [List.length_map]
  exact (Nat.length_toDigits_le_iff (by decide) hk).mpr h
theorem digL_digs (n : Nat) : digs (digL n) = true := by
  unfold digs
  obtain ⟨c, r, e, _⟩ := digL_head n
  rw [Bool.and_eq_true]
  refine ⟨by rw [e]; rfl, List.all_eq_true.mpr fun d hd => decide_eq_true (digL_all n d hd)⟩
theorem intL_len {i : Int} {k : Nat} (hk : 0 < k) (h : i.natAbs < 10 ^ k) : (intL i).length ≤ k + 1 := by
  have := digL_len hk h
  unfold intL
  split
  · rw [List.length_cons]
    omega
  · omega
theorem intS_size (i : Int) : (intS i).length = (intL i).length := by simp [intS, Str.length]
theorem parse_intL (i : Int) : parseI (intL i) = some i := by
  unfold intL
  split
  · rename_i h
    rw [parseI, if_pos rfl, if_pos (digL_digs _), dval_digL]
    congr 1
    omega
  · rename_i h
    obtain ⟨c, r, e, _⟩ := digL_head i.natAbs
    have hd := digL_digs i.natAbs
    have hv := dval_digL i.natAbs
    have hc := digL_all i.natAbs c (by rw [e]; exact .head _)
    rw [e] at hd hv ⊢
    rw [parseI, if_neg (by omega), if_pos hd, hv]
    congr 1
    omega
theorem le_0 (c : Nat) : gLeS (.str ("0" : Str)) (.str ⟨#[c]⟩) = some (.bl (decide (48 ≤ c))) := by
  have e : ("0" : Str).cps.toList = [48] := by decide +kernel
  show some (D.bl (!decide ([c] < ("0" : Str).cps.toList))) = _
  rw [e]
  have q : ([c] < [48]) ↔ c < 48 := by rw [List.cons_lt_cons_iff]; simp
  by_cases h : 48 ≤ c
  · rw [decide_eq_false (fun z => absurd (q.mp z) (by omega)), decide_eq_true h]
    rfl
  · rw [decide_eq_true (q.mpr (by omega)), decide_eq_false h]
    rfl
theorem le_9 (c : Nat) : gLeS (.str ⟨#[c]⟩) (.str ("9" : Str)) = some (.bl (decide (c ≤ 57))) := by
  have e : ("9" : Str).cps.toList = [57] := by decide +kernel
  show some (D.bl (!decide (("9" : Str).cps.toList < [c]))) = _
  rw [e]
  have q : ([57] < [c]) ↔ 57 < c := by rw [List.cons_lt_cons_iff]; simp
  by_cases h : c ≤ 57
  · rw [decide_eq_false (fun z => absurd (q.mp z) (by omega)), decide_eq_true h]
    rfl
  · rw [decide_eq_true (q.mpr (by omega)), decide_eq_false h]
    rfl
theorem s_ext {a b : Str} (h : a.cps.toList = b.cps.toList) : a = b := by
  cases a
  cases b
  congr 1
  exact Array.toList_inj.mp h
theorem plain_of {l : List Nat} {n : Nat} (hl : l.length ≤ n) (h : ∀ c ∈ l, c < 128) : plain n ⟨l.toArray⟩ = true := by
  unfold plain
  rw [Bool.and_eq_true]
  refine ⟨decide_eq_true ?_, ?_⟩
  · show l.toArray.size ≤ n
    simpa using hl
  · rw [List.all_eq_true]
    intro c hc
    exact decide_eq_true (h c (by simpa using hc))
theorem intL_all (i : Int) : ∀ c ∈ intL i, 45 ≤ c ∧ c ≤ 57 := fun c hc => by
  unfold intL at hc
  split at hc
  · rcases List.mem_cons.mp hc with rfl | h
    · decide
    · have := digL_all _ c h
      omega
  · have := digL_all _ c hc
    omega
theorem start_m (l : List Nat) : gStart (.str ⟨l.toArray⟩) (.str ("-" : Str)) = some (.bl (decide (l[0]? = some 45))) := by
  have e : ("-" : Str).cps.toList = [45] := by decide +kernel
  show (match ("-" : Str).cps.toList with | [c] => some (D.bl (decide ((⟨l.toArray⟩ : Str).cps.toList[0]? = some c))) | _ => none) = _
  rw [e]
theorem any_none (l : List Nat) (h : ∀ c ∈ l, 48 ≤ c ∧ c ≤ 57) : gAny [.lst (l.map fun c => D.bl (!decide (48 ≤ c ∧ c ≤ 57)))] = some (.bl false) := by
  have := any_bools (l.map fun c => !decide (48 ≤ c ∧ c ≤ 57))
  rw [List.map_map] at this
  refine Eq.trans this ?_
  congr 2
  rw [List.any_map, List.any_eq_false]
  intro c hc
  simp [h c hc]
theorem is_number_ok {i : Int} (h : i.natAbs < 10 ^ 20) : F_is_number [.str (intS i)] = .ok (.bl true) := by
  obtain ⟨c, r, ed, hc⟩ := digL_head i.natAbs
  have hall := digL_all i.natAbs
  have hlen := digL_len (k := 20) (by decide) h
  obtain ⟨F, hF⟩ : ∃ F : Str, F = ⟨(digL i.natAbs).toArray⟩ := ⟨_, rfl⟩
  have hFl : F.cps.toList = digL i.natAbs := by rw [hF]
  have hFn : F.length = (digL i.natAbs).length := by rw [hF]; simp [Str.length]
  have hpl : plain 1000 (intS i) = true := plain_of (Nat.le_trans (intL_len (by decide) h) (by decide)) fun c hc => by
    have := intL_all i c hc
    omega
  have e1 : fIf (cE (fSm gStart (fV 0) (fC (.str ("-" : Str))))) (fSl gSlS (fV 0) (oSome (fC (.int 1))) oNone) (f1 gFlat (fV 0)) [some (.str (intS i)), none] = .ok (.str F) := by
    have hs : fSm gStart (fV 0) (fC (.str ("-" : Str))) [some (.str (intS i)), none] = .ok (.bl (decide ((intL i)[0]? = some 45))) := by
      show oR (gStart (.str (intS i)) (.str ("-" : Str))) = _
      unfold intS
      rw [start_m]
      rfl
    by_cases hi : i < 0
    · have hL : intL i = 45 :: digL i.natAbs := if_pos hi
      refine r_fIfT (r_cE (hs.trans (by rw [hL]; rfl))) (r_sl rfl (r_oSome rfl) rfl ((sl_str _ _ hpl (by decide)).trans ?_))
      congr 2
      refine s_ext ((cut_from_s _ 1).trans ?_)
      rw [hFl]
      show (intL i).drop 1 = _
      rw [hL]
      rfl
    · have hL : intL i = digL i.natAbs := if_neg hi
      have h45 : ¬ c = 45 := by
        have := hall c (by rw [ed]; exact .head _)
        omega
      refine r_fIfF (r_cE (hs.trans ?_)) (r_f1 rfl ?_)
      · rw [hL, ed]
        simp [h45]
      · show some (D.str (intS i)) = _
        rw [hF]
        unfold intS
        rw [hL]
  have hl : fA gLen (aCons (fV 1) aNil) [some (.str (intS i)), some (.str F)] = .ok (.int F.length) := r_fA (r_cons rfl rfl) (len_s (z := F) (by show F.length ≤ 1000; omega))
  have hp : 0 < (digL i.natAbs).length := by rw [ed]; exact Nat.succ_pos _
  have sg : ∀ c : Nat, f1 gNot (fChain gLeS gLeS (fC (.str ("0" : Str))) (fV 2) (fC (.str ("9" : Str)))) [some (.str (intS i)), some (.str F), some (.str ⟨#[c]⟩)] = .ok (.bl (!decide (48 ≤ c ∧ c ≤ 57))) := fun c => by
    by_cases h1 : 48 ≤ c
    · exact r_f1 (r_chain rfl rfl ((le_0 c).trans (bl_t h1)) rfl (le_9 c)) (by simp [h1])
    · exact r_f1 (r_chainF rfl rfl ((le_0 c).trans (bl_f h1))) (by simp [h1])
  have an : fA gAny (aCons (fComp 2 1 (jStr (fV 1)) (bName 2) cYes (f1 gNot (fChain gLeS gLeS (fC (.str ("0" : Str))) (fV 2) (fC (.str ("9" : Str)))))) aNil) [some (.str (intS i)), some (.str F)] = .ok (.bl false) := by
    refine r_fA (r_cons (r_comp rfl (jstr (z := F) (by show F.length ≤ 1000; omega) rfl) (comp1' (v := fun c => D.bl (!decide (48 ≤ c ∧ c ≤ 57))) rfl fun c _ => sg c)) rfl) ?_
    rw [hFl]
    exact any_none _ hall
  refine r_run (r_seq (r_set e1) (r_seq (r_ifF (r_cNot (b := true) (r_cE (r_chain rfl hl (bl_t (p := (1 : Int) ≤ F.length) (by omega)) rfl (bl_t (p := (F.length : Int) ≤ 20) (by omega))))) rfl) (r_seq (r_ifF (r_cE an) rfl) (r_ret ?_))))
  show fOr _ _ [some (.str (intS i)), some (.str F)] = _
  by_cases h0 : i = 0
  · subst h0
    have ez : (intS 0 : Str) = ("0" : Str) := by decide +kernel
    have hq : f2 gEq (fV 0) (fC (.str ("0" : Str))) [some (.str (intS 0)), some (.str F)] = .ok (.bl true) := r_f2 rfl rfl ((eq_ss _ _).trans (bl_t ez))
    rw [ev_fOr, hq]
    rfl
  · have hne : ¬ intS i = ("0" : Str) := fun z => by
      have e48 : ("0" : Str).cps.toList = [48] := by decide +kernel
      have z1 : intL i = [48] := by
        have := congrArg (fun s : Str => s.cps.toList) z
        rw [e48] at this
        simpa [intS] using this
      have : parseI (intL i) = some 0 := by rw [z1]; rfl
      rw [parse_intL] at this
      exact h0 (by simpa using this)
    have hq : f2 gEq (fV 0) (fC (.str ("0" : Str))) [some (.str (intS i)), some (.str F)] = .ok (.bl false) := r_f2 rfl rfl ((eq_ss _ _).trans (bl_f hne))
    have hx : gIx (.str F) (.int 0) = some (.str ⟨#[c]⟩) := by
      unfold gIx
      simp only []
      rw [if_pos (by show F.length ≤ 1000000; omega), atD_nat (xs := F.cps.toList) (i := 0) (k := 0) (x := c) rfl (by rw [hFl, ed]; rfl)]
      rfl
    have hcz : ¬ (⟨#[c]⟩ : Str) = ("0" : Str) := fun z => by
      have e48 : ("0" : Str).cps.toList = [48] := by decide +kernel
      have := congrArg (fun s : Str => s.cps.toList) z
      rw [e48] at this
      have : c = 48 := by simpa using this
      exact hc (by omega) this
    rw [ev_fOr, hq]
    exact r_f2 (r_f2 rfl rfl hx) rfl ((ne_ss _ _).trans (by rw [decide_eq_false hcz]; rfl))
theorem int_intS {i : Int} (h : i.natAbs < 10 ^ 20) : gIntS [.str (intS i)] = some (.int i) := by
  have hl : (intS i).length ≤ 600 := by
    rw [intS_size]
    exact Nat.le_trans (intL_len (by decide) h) (by decide)
  unfold gIntS
  simp only []
  rw [if_pos hl]
  have : parseI (intS i).cps.toList = some i := by
    show parseI (intL i).toArray.toList = _
    rw [List.toList_toArray, parse_intL]
  rw [this]
  rfl
theorem read_number_ok {i : Int} (h : i.natAbs < 10 ^ 20) : F_read_number [.str (intS i)] = .ok (.int i) :=
  r_run (r_seq (r_ifF (r_cNot (b := true) (r_cE (r_call (r_cons rfl rfl) (is_number_ok h)))) rfl) (r_ret (r_fA (r_cons rfl rfl) (int_intS h))))
theorem read_name_ok {z : Str} (h : nmOk z = true) : F_read_name [.str z] = .ok (.str z) := by
  have hi : nmIn z := by
    unfold nmOk at h
    rw [Bool.and_eq_true] at h
    have := of_decide_eq_true h.1
    show z.length ≤ 1000
    omega
  have hn := is_name_ok hi
  rw [h] at hn
  exact r_run (r_seq (r_ifF (r_cNot (b := true) (r_cE (r_call (r_cons rfl rfl) hn))) rfl) (r_ret (r_f1 rfl rfl)))
end Dl

namespace Dl
open PySem
theorem splitL_free {c : Nat} : ∀ {w : List Nat}, c ∉ w → splitL c w = [w]
  | [], _ => rfl
  | x :: r, h => by
    have h1 : ¬ x = c := fun z => h (by rw [z]; exact .head _)
    rw [splitL, if_neg h1, splitL_free (fun z => h (.tail _ z))]
theorem splitL_app {c : Nat} : ∀ {w : List Nat} (r : List Nat), c ∉ w → splitL c (w ++ c :: r) = w :: splitL c r
  | [], r, _ => by rw [List.nil_append, splitL, if_pos rfl]
  | x :: w, r, h => by
    have h1 : ¬ x = c := fun z => h (by rw [z]; exact .head _)
    rw [List.cons_append, splitL, if_neg h1, splitL_app r (fun z => h (.tail _ z))]
theorem app_s (a b : Str) : (a ++ b).cps.toList = a.cps.toList ++ b.cps.toList := Array.toList_append
theorem len_app (a b : Str) : (a ++ b).length = a.length + b.length := by
  show (a.cps ++ b.cps).size = a.cps.size + b.cps.size
  exact Array.size_append
theorem join_cons {c : Nat} {s : Str} (hs : s.cps.toList = [c]) (w v : Str) (r : List Str) : (Str.join s (w :: v :: r)).cps.toList = w.cps.toList ++ c :: (Str.join s (v :: r)).cps.toList := by
  show (w ++ s ++ Str.join s (v :: r)).cps.toList = _
  rw [app_s, app_s, hs]
  simp
theorem splitL_join {c : Nat} {s : Str} (hs : s.cps.toList = [c]) : ∀ (ws : List Str), ws ≠ [] → (∀ w ∈ ws, c ∉ w.cps.toList) → splitL c (Str.join s ws).cps.toList = ws.map (·.cps.toList)
  | [], h, _ => absurd rfl h
  | [w], _, h => splitL_free (h w (.head _))
  | w :: v :: r, _, h => by
    rw [join_cons hs, splitL_app _ (h w (.head _)), splitL_join hs (v :: r) (by simp) fun u hu => h u (.tail _ hu)]
    rfl
theorem sum_le {B : Nat} : ∀ (ws : List Str), (∀ w ∈ ws, w.length ≤ B) → (ws.map (·.length)).sum ≤ ws.length * B
  | [], _ => Nat.zero_le _
  | w :: r, h => by
    have h1 := h w (.head _)
    have h2 := sum_le r fun u hu => h u (.tail _ hu)
    rw [List.map_cons, List.sum_cons, List.length_cons, Nat.succ_mul]
    omega
theorem strsOf_map : ∀ ws : List Str, strsOf (ws.map D.str) = some ws
  | [] => rfl
  | w :: r => by
    show (strsOf (r.map D.str)).map (w :: ·) = _
    rw [strsOf_map r]
    rfl
theorem sp_1 : (" " : Str).cps.toList = [32] := by decide +kernel
theorem sp_len : (" " : Str).length = 1 := by decide +kernel
structure PcOk (k : Nat) (p : Int × Str) : Prop where
  pl : p.1.natAbs < 10 ^ k
  nm : nmOk p.2 = true
theorem nm_len {z : Str} (h : nmOk z = true) : z.length ≤ 8 := by
  unfold nmOk at h
  rw [Bool.and_eq_true] at h
  exact (of_decide_eq_true h.1).2
theorem nm_all {z : Str} (h : nmOk z = true) : ∀ c ∈ z.cps.toList, 97 ≤ c ∧ c ≤ 122 := by
  unfold nmOk at h
  rw [Bool.and_eq_true] at h
  exact fun c hc => of_decide_eq_true (List.all_eq_true.mp h.2 c hc)
theorem pow_400 {k n : Nat} (hk : k ≤ 60) (h : n < 10 ^ k) : n < 2 ^ 400 := Nat.lt_of_lt_of_le h (Nat.le_trans (Nat.pow_le_pow_right (by decide) hk) (by decide))
theorem int_len {i : Int} {k : Nat} (hk0 : 0 < k) (hk : k ≤ 60) (h : i.natAbs < 10 ^ k) : (intS i).length ≤ 61 := by
  rw [intS_size]
  have := intL_len hk0 h
  omega
theorem emp_app (x : Str) : Str.empty ++ x = x := s_ext (by rw [app_s]; simp [Str.empty])
theorem gFx_i {i : Int} (h : i.natAbs < 2 ^ 400) : gFx (.int i) = some (.str (intS i)) := by
  unfold gFx
  simp only []
  rw [if_pos h]
theorem gFx_s {z : Str} (h : z.length ≤ 1000) : gFx (.str z) = some (.str z) := by
  unfold gFx
  simp only []
  rw [if_pos h]
end Dl

namespace Dl
open PySem
noncomputable def nrOk (x : Kd) : Bool := decide ((1 ≤ x.w ∧ x.w ≤ 200) ∧ (1 ≤ x.wo ∧ x.wo ≤ 1000000000000000000) ∧ 0 ≤ x.al ∧ x.al ≤ 999999999999999999)
noncomputable def ff : Nat → List Str → List Kd → Option Nat
  | _, _, [] => none
  | k, es, x :: r => if 8 ≤ k ∨ x.name ∈ es ∨ (nmOk x.name && nrOk x) = false then some k else ff (k + 1) (es ++ [x.name]) r
theorem ch_ii {g g' : D → D → Option D} {a b c : FE} {ρ : Env} {y z : D} {i j : Int} (ha : a ρ = .ok (.int i)) (hb : b ρ = .ok (.int j)) (h : i ≤ j → fChain gLe g' a b c ρ = .ok z) (hf : ¬ i ≤ j → z = .bl false) : fChain gLe g' a b c ρ = .ok z := by
  by_cases q : i ≤ j
  · exact h q
  · rw [hf q]
    exact r_chainF ha hb (bl_f q)
theorem rng_ii {a b c : FE} {ρ : Env} {i j k : Int} (ha : a ρ = .ok (.int i)) (hb : b ρ = .ok (.int j)) (hc : c ρ = .ok (.int k)) : fChain gLe gLe a b c ρ = .ok (.bl (decide (i ≤ j ∧ j ≤ k))) :=
  ch_ii (g := gLe) (y := .non) ha hb (fun q => r_chain ha hb (bl_t q) hc (by show some (D.bl (decide (j ≤ k))) = _; simp [q])) fun q => by simp [q]
theorem is_kind_ok {x : Kd} (h : nmIn x.name) : F_is_kind [.str x.name, .int x.w, .int x.wo, .int x.al] = .ok (.bl (nmOk x.name && nrOk x)) := by
  have c0 := is_name_ok h
  refine r_run ?_
  show q_is_kind [some (.str x.name), some (.int x.w), some (.int x.wo), some (.int x.al)] = _
  unfold nrOk
  cases e : nmOk x.name with
  | false =>
    rw [e] at c0
    exact r_seqR (r_ifT (r_cNot (b := false) (r_cE (r_call (r_cons rfl rfl) c0))) (r_ret rfl))
  | true =>
    rw [e] at c0
    refine r_seq (r_ifF (r_cNot (b := true) (r_cE (r_call (r_cons rfl rfl) c0))) rfl) ?_
    have c1 := rng_ii (ρ := [some (.str x.name), some (.int x.w), some (.int x.wo), some (.int x.al)]) (a := fC (.int 1)) (b := fV 1) (c := fC (.int 200)) rfl rfl rfl
    have c2 := rng_ii (ρ := [some (.str x.name), some (.int x.w), some (.int x.wo), some (.int x.al)]) (a := fC (.int 1)) (b := fV 2) (c := fC (.int 1000000000000000000)) rfl rfl rfl
    have c3 := rng_ii (ρ := [some (.str x.name), some (.int x.w), some (.int x.wo), some (.int x.al)]) (a := fC (.int 0)) (b := fV 3) (c := fC (.int 999999999999999999)) rfl rfl rfl
    by_cases q1 : 1 ≤ x.w ∧ x.w ≤ 200
    · rw [decide_eq_true q1] at c1
      refine r_seq (r_ifF (r_cNot (b := true) (r_cE c1)) rfl) ?_
      by_cases q2 : 1 ≤ x.wo ∧ x.wo ≤ 1000000000000000000
      · rw [decide_eq_true q2] at c2
        refine r_ret (r_fAndT c2 (c3.trans ?_))
        simp [q1, q2]
      · rw [decide_eq_false q2] at c2
        refine r_ret ((r_fAndF c2).trans ?_)
        rw [decide_eq_false (fun z => q2 z.2.1)]
        rfl
    · rw [decide_eq_false q1] at c1
      rw [decide_eq_false (fun z => q1 z.1)]
      exact r_seqR (r_ifT (r_cNot (b := false) (r_cE c1)) (r_ret rfl))
noncomputable def eK : Nat → List Kd → List D
  | _, [] => []
  | k, w :: r => .tup [.int (k : Int), kD w] :: eK (k + 1) r
theorem enumK_go : ∀ (ws : List Kd) (k : Nat), (ws.map kD).mapIdx (fun i d => D.tup [.int ((i + k : Nat) : Int), d]) = eK k ws
  | [], _ => rfl
  | w :: r, k => by
    have e2 : (fun (i : Nat) (d : D) => D.tup [.int ((i + 1 + k : Nat) : Int), d]) = fun i d => D.tup [.int ((i + (k + 1) : Nat) : Int), d] := funext fun i => funext fun d => by rw [show i + 1 + k = i + (k + 1) by omega]
    rw [List.map_cons, List.mapIdx_cons, eK, ← enumK_go r (k + 1), Nat.zero_add, e2]
theorem enum_K (ws : List Kd) : enumL (ws.map kD) = eK 0 ws := enumK_go ws 0
noncomputable def nD (es : List Str) : D := .dct (es.map Sum.inr) (es.map fun _ => .bl true)
theorem has_n (es : List Str) (z : Str) : dHas (es.map Sum.inr) (Sum.inr z) = decide (z ∈ es) := by
  unfold dHas
  rw [List.any_map]
  induction es with
  | nil => rfl
  | cons e es ih =>
    rw [List.any_cons, ih]
    by_cases h : e = z
    · simp [h]
    · have h' : ¬ z = e := fun q => h q.symm
      simp [h, h']
theorem put_n {es : List Str} {z : Str} (h : z ∉ es) : dPut (es.map Sum.inr) (es.map fun _ => D.bl true) (.inr z) (.bl true) = nD (es ++ [z]) := by
  unfold dPut
  rw [has_n, if_neg (by simpa using h)]
  unfold nD
  rw [List.map_append, List.map_append]
  rfl
theorem fault_turn {L : D} {k : Nat} {x : Kd} {es : List Str} {o : Option D} (hx : nmIn x.name) (hk : es.length < 1000) :
    l_fault_2 [some L, some (nD es), some (.int k), some (kD x), o] = if 8 ≤ k ∨ x.name ∈ es ∨ (nmOk x.name && nrOk x) = false then .ok (.ret (.int k)) else .ok (.nx [some L, some (nD (es ++ [x.name])), some (.int k), some (kD x), some (.str x.name)]) := by
  have hr : sRet (f1 gFlat (fV 2)) [some L, some (nD es), some (.int k), some (kD x), some (.str x.name)] = .ok (.ret (.int k)) := r_ret (r_f1 rfl rfl)
  have h0 : sSet 4 (f1 gFlat (f2 gIx (fV 3) (fC (.int 0)))) [some L, some (nD es), some (.int k), some (kD x), o] = .ok (.nx [some L, some (nD es), some (.int k), some (kD x), some (.str x.name)]) := r_set (r_f1 (r_f2 rfl rfl (kD_0 x)) rfl)
  have hd : gDin (.str x.name) (nD es) = some (.bl (decide (x.name ∈ es))) := by
    show some (D.bl (dHas (es.map Sum.inr) (Sum.inr x.name))) = _
    rw [has_n]
  have hkk := is_kind_ok hx
  unfold l_fault_2
  refine Eq.trans (r_seq h0 rfl) ?_
  by_cases h1 : 8 ≤ k
  · rw [if_pos (Or.inl h1)]
    exact r_seqR (r_ifT (r_cOrT (r_cE (r_f2 rfl rfl (bl_t (p := (k : Int) ≥ 8) (by omega))))) hr)
  · have c1 : cE (f2 gGe (fV 2) (fC (.int 8))) [some L, some (nD es), some (.int k), some (kD x), some (.str x.name)] = .ok false := r_cE (r_f2 rfl rfl (bl_f (p := (k : Int) ≥ 8) (by omega)))
    by_cases h2 : x.name ∈ es
    · rw [if_pos (Or.inr (Or.inl h2))]
      exact r_seqR (r_ifT (r_cOrF c1 (r_cE (r_f2 rfl rfl (hd.trans (bl_t h2))))) hr)
    · refine Eq.trans (r_seq (r_ifF (r_cOrF c1 (r_cE (r_f2 rfl rfl (hd.trans (bl_f h2))))) rfl) rfl) ?_
      have cl : fCall F_is_kind (aCons (fV 4) (aCons (f2 gIx (fV 3) (fC (.int 1))) (aCons (f2 gIx (fV 3) (fC (.int 2))) (aCons (f2 gIx (fV 3) (fC (.int 3))) aNil)))) [some L, some (nD es), some (.int k), some (kD x), some (.str x.name)] = .ok (.bl (nmOk x.name && nrOk x)) :=
        r_call (r_cons rfl (r_cons (r_f2 rfl rfl (kD_1 x)) (r_cons (r_f2 rfl rfl (kD_2 x)) (r_cons (r_f2 rfl rfl (kD_3 x)) rfl)))) hkk
      cases e : (nmOk x.name && nrOk x) with
      | false =>
        rw [e] at cl
        rw [if_pos (Or.inr (Or.inr rfl))]
        exact r_seqR (r_ifT (r_cNot (b := false) (r_cE cl)) hr)
      | true =>
        rw [e] at cl
        rw [if_neg (by simp [h2]; omega)]
        refine r_seq (r_ifF (r_cNot (b := true) (r_cE cl)) rfl) ?_
        show (if flat (D.bl true) = true ∧ flatA (es.map fun _ => D.bl true) = true ∧ (es.map (Sum.inr : Str → Int ⊕ Str)).length < lim then _ else _) = _
        rw [if_pos ⟨rfl, flatA_map (fun _ => rfl) es, by rw [List.length_map]; exact Nat.lt_trans hk (by decide)⟩, put_n h2]
        rfl
theorem fault_loop : ∀ (ws : List Kd) (k : Nat) (L : D) (es : List Str) (a b o : Option D), (∀ x ∈ ws, nmIn x.name) → es.length = k → k + ws.length ≤ 1000 → match ff k es ws with
    | some j => forD (bTup (bCons (bName 2) (bCons (bName 3) bNil))) l_fault_2 (eK k ws) [some L, some (nD es), a, b, o] = .ok (.ret (.int (j : Int)))
    | none => ∃ ρ, forD (bTup (bCons (bName 2) (bCons (bName 3) bNil))) l_fault_2 (eK k ws) [some L, some (nD es), a, b, o] = .ok (.nx ρ)
  | [], _, _, _, a, b, o, _, _, _ => ⟨_, rfl⟩
  | w :: r, k, L, es, a, b, o, hn, he, h => by
    have hl : (w :: r).length = r.length + 1 := rfl
    have t := fault_turn (L := L) (k := k) (x := w) (es := es) (o := o) (hn w (.head _)) (by omega)
    rw [eK, forD_step (ρ1 := [some L, some (nD es), some (.int k), some (kD w), o]) rfl, t]
    unfold ff
    by_cases c : 8 ≤ k ∨ w.name ∈ es ∨ (nmOk w.name && nrOk w) = false
    · rw [if_pos c, if_pos c]
      rfl
    · rw [if_neg c, if_neg c]
      exact fault_loop r (k + 1) L _ _ _ _ (fun x hx => hn x (.tail _ hx)) (by rw [List.length_append, he]; rfl) (by omega)
noncomputable def rK (ks : List Kd) : D := match ff 0 [] ks with
  | some j => .int (j : Int)
  | none => .non
theorem fault_ok {ks : List Kd} (hn : ∀ x ∈ ks, nmIn x.name) (h : ks.length ≤ 1000) : F_fault [tD ks] = .ok (rK ks) := by
  have l := fault_loop ks 0 (tD ks) [] none none none hn rfl (by omega)
  have hj : jEnum (fV 0) [some (tD ks), some (nD []), none, none, none] = .ok (eK 0 ks) := by
    show (if (ks.map kD).length ≤ lim then R.ok (enumL (ks.map kD)) else .bad) = _
    rw [if_pos (by rw [List.length_map]; exact Nat.le_trans h (by decide)), enum_K]
  unfold rK
  cases e : ff 0 [] ks with
  | some j =>
    rw [e] at l
    exact r_run (r_seq (r_set rfl) (r_seqR (r_for hj l)))
  | none =>
    rw [e] at l
    obtain ⟨ρ, l⟩ := l
    exact r_run (r_seq (r_set rfl) (r_seq (r_for hj l) (r_ret rfl)))
theorem ff_none : ∀ (ks : List Kd) (k : Nat) (es : List Str), k + ks.length ≤ 8 → (∀ x ∈ ks, nmOk x.name = true ∧ nrOk x = true) → (ks.map (·.name)).Nodup → (∀ x ∈ ks, x.name ∉ es) → ff k es ks = none
  | [], _, _, _, _, _, _ => rfl
  | x :: r, k, es, hk, h, nd, hn => by
    obtain ⟨h1, h2⟩ := h x (.head _)
    rw [List.map_cons, List.nodup_cons] at nd
    rw [List.length_cons] at hk
    unfold ff
    rw [if_neg (by rw [h1, h2]; rintro (z | z | z); omega; exact hn x (.head _) z; cases z)]
    refine ff_none r (k + 1) _ (by omega) (fun y hy => h y (.tail _ hy)) nd.2 fun y hy z => ?_
    rcases List.mem_append.mp z with z | z
    · exact hn y (.tail _ hy) z
    · rw [List.mem_singleton] at z
      exact nd.1 (by rw [← z]; exact List.mem_map_of_mem hy)
end Dl

namespace Dl
open PySem
theorem join_okG {s : Str} {B : Nat} {ws : List Str} (hs : s.length ≤ 3) (hB : B ≤ 100) (hl : ws.length ≤ 1000) (h : ∀ w ∈ ws, w.length ≤ B) : gJoin (.str s) (.lst (ws.map D.str)) = some (.str (Str.join s ws)) := by
  unfold gJoin
  simp only []
  rw [strsOf_map, Option.bind_some]
  have h1 := sum_le ws h
  have h2 : ws.length * B ≤ 1000 * 100 := Nat.mul_le_mul hl hB
  have h3 : ws.length * s.length ≤ 1000 * 3 := Nat.mul_le_mul hl hs
  rw [if_pos (by show _ ≤ 1000000; omega)]
theorem join_lenG {s : Str} {B : Nat} (hs : s.length ≤ 3) : ∀ (ws : List Str), (∀ w ∈ ws, w.length ≤ B) → (Str.join s ws).length ≤ ws.length * (B + 3)
  | [], _ => Nat.zero_le _
  | [w], h => by
    have := h w (.head _)
    show w.length ≤ 1 * (B + 3)
    omega
  | w :: v :: r, h => by
    have h1 := h w (.head _)
    have h2 := join_lenG hs (v :: r) fun u hu => h u (.tail _ hu)
    have e : Str.join s (w :: v :: r) = w ++ s ++ Str.join s (v :: r) := rfl
    rw [e, len_app, len_app]
    simp only [List.length_cons] at h2 ⊢
    have e2 : (r.length + 1 + 1) * (B + 3) = (r.length + 1) * (B + 3) + (B + 3) := Nat.succ_mul _ _
    omega
theorem mi_1 : ("-" : Str).cps.toList = [45] := by decide +kernel
theorem intS_ne (i : Int) : ¬ intS i = ("-" : Str) := fun z => by
  have h := parse_intL i
  have : intL i = [45] := by
    have := congrArg (fun s : Str => s.cps.toList) z
    rw [mi_1] at this
    simpa [intS] using this
  rw [this] at h
  cases h
theorem int_no (i : Int) : 32 ∉ (intS i).cps.toList := fun z => by
  have := intL_all i 32 (by simpa [intS] using z)
  omega
noncomputable def nuS (is : List Int) : Str := match is with
  | [] => ("-" : Str)
  | is => Str.join (" " : Str) (is.map intS)
theorem num_line {k : Nat} {is : List Int} (hk0 : 0 < k) (hk : k ≤ 60) (hl : is.length ≤ 1000) (h : ∀ i ∈ is, i.natAbs < 10 ^ k) : F_show_numbers [iD is] = .ok (.str (nuS is)) := by
  have len : fA gLen (aCons (fV 0) aNil) [some (iD is)] = .ok (.int is.length) := len_ints rfl
  refine r_run ?_
  show q_show_numbers [some (iD is)] = _
  cases is with
  | nil => exact r_seqR (r_ifT (r_cE (r_f2 len rfl ((eq_ii _ _).trans (bl_t (by simp))))) (r_ret rfl))
  | cons i r =>
    refine r_seq (r_ifF (r_cE (r_f2 len rfl ((eq_ii _ _).trans (bl_f (by simp; omega))))) rfl) (r_ret ?_)
    have hc : fComp 1 1 (jList (fV 0)) (bName 1) cYes (fA gStr (aCons (fV 1) aNil)) [some (iD (i :: r))] = .ok (.lst (((i :: r).map intS).map D.str)) := by
      rw [List.map_map]
      refine r_comp rfl (r_jList (xs := (i :: r).map D.int) rfl (by rw [List.length_map]; exact Nat.le_trans hl (by decide))) (comp1' rfl fun j hj => r_fA (r_cons rfl rfl) ?_)
      show (if j.natAbs < 2 ^ 400 then some (D.str (intS j)) else none) = _
      rw [if_pos (pow_400 hk (h j hj))]
      rfl
    show (R.ok (D.str (" " : Str))).bind _ = _
    rw [bind_ok]
    show (fComp 1 1 (jList (fV 0)) (bName 1) cYes (fA gStr (aCons (fV 1) aNil)) [some (iD (i :: r))]).bind _ = _
    rw [hc, bind_ok, join_okG (B := 61) (by rw [sp_len]; decide) (by decide) (by rw [List.length_map]; exact hl) (fun w hw => by
      obtain ⟨j, hj, rfl⟩ := List.mem_map.mp hw
      exact int_len hk0 hk (h j hj))]
    rfl
theorem nu_ne (is : List Int) (h : is ≠ []) : ¬ nuS is = ("-" : Str) := by
  match is, h with
  | [], h => exact absurd rfl h
  | [i], _ => exact intS_ne i
  | i :: j :: r, _ =>
    intro z
    have e : (nuS (i :: j :: r)).cps.toList = _ := join_cons sp_1 (intS i) (intS j) (r.map intS)
    rw [z, mi_1] at e
    have := congrArg List.length e
    simp at this
    have h0 : (intS i).cps.toList ≠ [] := by
      intro q
      have hp := parse_intL i
      have : intL i = [] := by simpa [intS] using q
      rw [this] at hp
      cases hp
    have : 0 < (intS i).cps.toList.length := List.length_pos_iff.mpr h0
    simp at this
    omega
theorem split_words {ws : List Str} (hne : ws ≠ []) (hl : (Str.join (" " : Str) ws).length ≤ 100000) (h : ∀ w ∈ ws, 32 ∉ w.cps.toList) : gSplit (.str (Str.join (" " : Str) ws)) (.str (" " : Str)) = some (.lst (ws.map D.str)) := by
  have hsp := splitL_join sp_1 ws hne h
  show (match (" " : Str).cps.toList with | [c] => if c < 128 ∧ (Str.join (" " : Str) ws).length ≤ 100000 then some (D.lst ((splitL c (Str.join (" " : Str) ws).cps.toList).map strL)) else none | _ => none) = _
  rw [sp_1]
  show (if 32 < 128 ∧ (Str.join (" " : Str) ws).length ≤ 100000 then some (D.lst ((splitL 32 (Str.join (" " : Str) ws).cps.toList).map strL)) else none) = _
  rw [if_pos ⟨by decide, hl⟩, hsp, List.map_map]
  congr 2
theorem read_numbers_ok {is : List Int} (hl : is.length ≤ 1000) (h : ∀ i ∈ is, i.natAbs < 10 ^ 20) : F_read_numbers [.str (nuS is)] = .ok (iD is) := by
  cases is with
  | nil => exact r_run (r_seqR (r_ifT (r_cE (r_f2 rfl rfl ((eq_ss _ _).trans (bl_t rfl)))) (r_ret rfl)))
  | cons i r =>
    have hne := nu_ne (i :: r) (by simp)
    have hlen := join_lenG (B := 61) (s := (" " : Str)) (by rw [sp_len]; decide) ((i :: r).map intS) fun w hw => by
      obtain ⟨j, hj, rfl⟩ := List.mem_map.mp hw
      exact int_len (by decide) (by decide) (h j hj)
    rw [List.length_map] at hlen
    have hlen2 : (i :: r).length * (61 + 3) ≤ 1000 * 64 := Nat.mul_le_mul_right _ hl
    have hg : gSplit (.str (nuS (i :: r))) (.str (" " : Str)) = some (.lst ((i :: r).map fun j => .str (intS j))) := by
      have := split_words (ws := (i :: r).map intS) (by simp) (by omega) fun w hw => by
        obtain ⟨j, hj, rfl⟩ := List.mem_map.mp hw
        exact int_no j
      rw [List.map_map] at this
      exact this
    refine r_run (r_seq (r_ifF (r_cE (r_f2 rfl rfl ((eq_ss _ _).trans (bl_f hne)))) rfl) (r_ret (r_comp (xs := (i :: r).map fun j => .str (intS j)) (ys := (i :: r).map D.int) rfl (r_jList (show fSm gSplit (fV 0) (fC (.str (" " : Str))) [some (.str (nuS (i :: r)))] = .ok _ from by
        show oR (gSplit (.str (nuS (i :: r))) (.str (" " : Str))) = _
        rw [hg]
        rfl) (by rw [List.length_map]; exact Nat.le_trans hl (by decide))) (comp1' rfl fun j hj => r_call (r_cons rfl rfl) (read_number_ok (h j hj))))))
noncomputable def kdS (k : Kd) : Str := k.name ++ (" " : Str) ++ intS k.w ++ (" " : Str) ++ intS k.wo ++ (" " : Str) ++ intS k.al
structure KW (k : Kd) : Prop where
  nm : nmOk k.name = true
  nr : nrOk k = true
theorem KW.bd {k : Kd} (h : KW k) : k.w.natAbs < 10 ^ 20 ∧ k.wo.natAbs < 10 ^ 20 ∧ k.al.natAbs < 10 ^ 20 := by
  have e : (10 : Nat) ^ 20 = 100000000000000000000 := by decide
  have := of_decide_eq_true h.nr
  rw [e]
  omega
theorem kd_signs (k : Kd) : (kdS k).cps.toList = k.name.cps.toList ++ 32 :: (intL k.w ++ 32 :: (intL k.wo ++ 32 :: intL k.al)) := by
  unfold kdS
  rw [app_s, app_s, app_s, app_s, app_s, app_s, sp_1]
  simp [intS]
theorem kd_len {k : Kd} (h : KW k) : (kdS k).length ≤ 80 := by
  have b := h.bd
  have h1 := nm_len h.nm
  have h2 := intL_len (k := 20) (by decide) b.1
  have h3 := intL_len (k := 20) (by decide) b.2.1
  have h4 := intL_len (k := 20) (by decide) b.2.2
  unfold kdS
  rw [len_app, len_app, len_app, len_app, len_app, len_app, sp_len, intS_size, intS_size, intS_size]
  omega
theorem kd_no {k : Kd} (h : KW k) : 47 ∉ (kdS k).cps.toList := by
  rw [kd_signs]
  intro z
  have hi : ∀ i : Int, 47 ∈ intL i → False := fun i z => by
    unfold intL at z
    split at z
    · rcases List.mem_cons.mp z with z | z
      · omega
      · have := digL_all _ _ z
        omega
    · have := digL_all _ _ z
      omega
  rcases List.mem_append.mp z with z | z
  · have := nm_all h.nm _ z
    omega
  rcases List.mem_cons.mp z with z | z
  · omega
  rcases List.mem_append.mp z with z | z
  · exact hi _ z
  rcases List.mem_cons.mp z with z | z
  · omega
  rcases List.mem_append.mp z with z | z
  · exact hi _ z
  rcases List.mem_cons.mp z with z | z
  · omega
  · exact hi _ z
theorem read_kind_ok {k : Kd} (h : KW k) : F_read_kind [.str (kdS k)] = .ok (kD k) := by
  have b := h.bd
  have hl := kd_len h
  have n1 : 32 ∉ k.name.cps.toList := fun z => by
    have := nm_all h.nm _ z
    omega
  have ni : ∀ i : Int, 32 ∉ intL i := fun i z => by
    have := intL_all i _ z
    omega
  have hs : splitL 32 (kdS k).cps.toList = [k.name.cps.toList, intL k.w, intL k.wo, intL k.al] := by
    rw [kd_signs, splitL_app _ n1, splitL_app _ (ni _), splitL_app _ (ni _), splitL_free (ni _)]
  have hg : gSplit (.str (kdS k)) (.str (" " : Str)) = some (.lst [.str k.name, .str (intS k.w), .str (intS k.wo), .str (intS k.al)]) := by
    show (match (" " : Str).cps.toList with | [c] => if c < 128 ∧ (kdS k).length ≤ 100000 then some (D.lst ((splitL c (kdS k).cps.toList).map strL)) else none | _ => none) = _
    rw [sp_1]
    show (if 32 < 128 ∧ (kdS k).length ≤ 100000 then some (D.lst ((splitL 32 (kdS k).cps.toList).map strL)) else none) = _
    rw [if_pos ⟨by decide, by omega⟩, hs]
    have e2 : strL k.name.cps.toList = .str k.name := congrArg D.str (s_ext (by simp))
    show some (D.lst [strL k.name.cps.toList, _, _, _]) = _
    rw [e2]
    rfl
  refine r_run (r_seq (r_set (show fSm gSplit (fV 0) (fC (.str (" " : Str))) [some (.str (kdS k)), none] = .ok _ from by
      show oR (gSplit (.str (kdS k)) (.str (" " : Str))) = _
      rw [hg]
      rfl)) (r_seq (r_ifF (r_cE (r_f2 (r_fA (r_cons rfl rfl) rfl) rfl ((ne_ii _ _).trans rfl))) rfl) (r_ret ?_)))
  exact r_fA (r_cons (r_call (r_cons (r_f2 rfl rfl rfl) rfl) (read_name_ok h.nm)) (r_cons (r_call (r_cons (r_f2 rfl rfl rfl) rfl) (read_number_ok b.1)) (r_cons (r_call (r_cons (r_f2 rfl rfl rfl) rfl) (read_number_ok b.2.1)) (r_cons (r_call (r_cons (r_f2 rfl rfl rfl) rfl) (read_number_ok b.2.2)) rfl)))) rfl
noncomputable def tbS (ks : List Kd) : Str := match ks with
  | [] => ("-" : Str)
  | ks => Str.join (" / " : Str) (ks.map kdS)
theorem sl_1 : (" / " : Str).cps.toList = [32, 47, 32] := by decide +kernel
theorem sl_len : (" / " : Str).length = 3 := by decide +kernel
theorem join3 (w v : Str) (r : List Str) : (Str.join (" / " : Str) (w :: v :: r)).cps.toList = w.cps.toList ++ 32 :: 47 :: 32 :: (Str.join (" / " : Str) (v :: r)).cps.toList := by
  show (w ++ (" / " : Str) ++ Str.join (" / " : Str) (v :: r)).cps.toList = _
  rw [app_s, app_s, sl_1]
  simp
theorem splitL_hd {c x : Nat} {l p : List Nat} {r : List (List Nat)} (hx : ¬ x = c) (h : splitL c l = p :: r) : splitL c (x :: l) = (x :: p) :: r := by
  rw [splitL, if_neg hx, h]
theorem splitT_go : ∀ (ws : List Str), ws ≠ [] → (∀ w ∈ ws, 47 ∉ w.cps.toList) → ∃ p r, splitL 47 (Str.join (" / " : Str) ws).cps.toList = p :: r ∧ unP p r = some (ws.map (·.cps.toList))
  | [], h, _ => absurd rfl h
  | [w], _, h => ⟨w.cps.toList, [], splitL_free (h w (.head _)), rfl⟩
  | w :: v :: r, _, h => by
    obtain ⟨p, q, h1, h2⟩ := splitT_go (v :: r) (by simp) fun u hu => h u (.tail _ hu)
    have hw := h w (.head _)
    refine ⟨w.cps.toList ++ [32], (32 :: p) :: q, ?_, ?_⟩
    · rw [join3, show w.cps.toList ++ 32 :: 47 :: 32 :: (Str.join (" / " : Str) (v :: r)).cps.toList = (w.cps.toList ++ [32]) ++ 47 :: (32 :: (Str.join (" / " : Str) (v :: r)).cps.toList) by simp]
      rw [splitL_app _ (fun z => (List.mem_append.mp z).elim hw (fun z => by rw [List.mem_singleton] at z; omega)), splitL_hd (by decide) h1]
    · have u1 : unR (w.cps.toList ++ [32]) = some w.cps.toList := by
        unfold unR
        rw [if_pos (by simp)]
        simp
      show ((unR (w.cps.toList ++ [32])).bind fun w => (unL (32 :: p)).bind fun q' => (unP q' q).bind fun ws => some (w :: ws)) = _
      rw [u1]
      show (unP p q).bind _ = _
      rw [h2]
      rfl
theorem split_tab {ws : List Str} (hne : ws ≠ []) (hl : (Str.join (" / " : Str) ws).length ≤ 100000) (h : ∀ w ∈ ws, 47 ∉ w.cps.toList) : gSplit3 (.str (Str.join (" / " : Str) ws)) (.str (" / " : Str)) = some (.lst (ws.map D.str)) := by
  obtain ⟨p, r, h1, h2⟩ := splitT_go ws hne h
  have ht : splitT 47 (Str.join (" / " : Str) ws).cps.toList = some (ws.map (·.cps.toList)) := by
    unfold splitT
    rw [h1]
    exact h2
  show (match (" / " : Str).cps.toList with | [a, c, b] => if a = 32 ∧ b = 32 ∧ c ≠ 32 ∧ c < 128 ∧ (Str.join (" / " : Str) ws).length ≤ 100000 then (splitT c (Str.join (" / " : Str) ws).cps.toList).map fun (ws : List (List Nat)) => D.lst (ws.map strL) else none | _ => none) = _
  rw [sl_1]
  show (if 32 = 32 ∧ 32 = 32 ∧ 47 ≠ 32 ∧ 47 < 128 ∧ (Str.join (" / " : Str) ws).length ≤ 100000 then (splitT 47 (Str.join (" / " : Str) ws).cps.toList).map fun (ws : List (List Nat)) => D.lst (ws.map strL) else none) = _
  rw [if_pos ⟨rfl, rfl, by decide, by decide, hl⟩, ht, Option.map_some, List.map_map]
  congr 2
theorem tb_ne {k : Kd} {ks : List Kd} : ¬ tbS (k :: ks) = ("-" : Str) := fun z => by
  have hm : 32 ∈ (tbS (k :: ks)).cps.toList := by
    cases ks with
    | nil =>
      show 32 ∈ (kdS k).cps.toList
      rw [kd_signs]
      simp
    | cons q r =>
      show 32 ∈ (Str.join (" / " : Str) (kdS k :: kdS q :: r.map kdS)).cps.toList
      rw [join3]
      simp
  rw [z, mi_1] at hm
  simp at hm
theorem read_table_ok {ks : List Kd} (hl : ks.length ≤ 8) (h : ∀ k ∈ ks, KW k) (nd : (ks.map (·.name)).Nodup) : F_read_table [.str (tbS ks)] = .ok (tD ks) := by
  cases ks with
  | nil => exact r_run (r_seqR (r_ifT (r_cE (r_f2 rfl rfl ((eq_ss _ _).trans (bl_t rfl)))) (r_ret rfl)))
  | cons k r =>
    have hlen := join_lenG (B := 80) (s := (" / " : Str)) (by rw [sl_len]; decide) ((k :: r).map kdS) fun w hw => by
      obtain ⟨x, hx, rfl⟩ := List.mem_map.mp hw
      exact kd_len (h x hx)
    rw [List.length_map] at hlen
    have hlen2 : (k :: r).length * (80 + 3) ≤ 8 * 83 := Nat.mul_le_mul_right _ hl
    have hg : gSplit3 (.str (tbS (k :: r))) (.str (" / " : Str)) = some (.lst ((k :: r).map fun x => .str (kdS x))) := by
      have := split_tab (ws := (k :: r).map kdS) (by simp) (by omega) fun w hw => by
        obtain ⟨x, hx, rfl⟩ := List.mem_map.mp hw
        exact kd_no (h x hx)
      rw [List.map_map] at this
      exact this
    have hf := fault_ok (ks := k :: r) (fun x hx => by
      have := nm_len (h x hx).nm
      show x.name.length ≤ 1000
      omega) (by omega)
    have hff : rK (k :: r) = .non := by
      unfold rK
      rw [ff_none (k :: r) 0 [] (by omega) (fun x hx => ⟨(h x hx).nm, (h x hx).nr⟩) nd (fun _ _ z => nomatch z)]
    rw [hff] at hf
    have hc : fComp 2 1 (jList (fSm gSplit3 (fV 0) (fC (.str (" / " : Str))))) (bName 2) cYes (fCall F_read_kind (aCons (fV 2) aNil)) [some (.str (tbS (k :: r))), none] = .ok (tD (k :: r)) :=
      r_comp (xs := (k :: r).map fun x => .str (kdS x)) rfl (r_jList (show fSm gSplit3 (fV 0) (fC (.str (" / " : Str))) [some (.str (tbS (k :: r))), none] = .ok _ from by
        show oR (gSplit3 (.str (tbS (k :: r))) (.str (" / " : Str))) = _
        rw [hg]
        rfl) (by rw [List.length_map]; exact Nat.le_trans hl (by decide))) (comp1' rfl fun x hx => r_call (r_cons rfl rfl) (read_kind_ok (h x hx)))
    exact r_run (r_seq (r_ifF (r_cE (r_f2 rfl rfl ((eq_ss _ _).trans (bl_f tb_ne)))) rfl) (r_seq (r_set hc) (r_seq (r_ifF (r_cE (r_f2 (r_call (r_cons rfl rfl) hf) rfl rfl)) rfl) (r_ret rfl))))
theorem comp4' {n : Nat} {e : FE} {ρ : Env} {α : Type} {f g h l : α → D} {v : α → D} {xs : List α} (hn : ρ.length = n) (hh : ∀ x ∈ xs, e (ρ ++ [some (f x), some (g x), some (h x), some (l x)]) = .ok (v x)) :
    compN 4 (bTup (bCons (bName n) (bCons (bName (n + 1)) (bCons (bName (n + 2)) (bCons (bName (n + 3)) bNil))))) cYes e ρ (xs.map fun x => .tup [f x, g x, h x, l x]) = .ok (xs.map v) := by
  have := comp_eq (k := 4) (b := bTup (bCons (bName n) (bCons (bName (n + 1)) (bCons (bName (n + 2)) (bCons (bName (n + 3)) bNil))))) (c := cYes) (e := e) (ρ := ρ) (enc := fun x : α => D.tup [f x, g x, h x, l x]) (ρ1 := fun x => ρ ++ [some (f x), some (g x), some (h x), some (l x)]) (p := fun _ => true) (v := v) (xs := xs) fun x hx => ⟨by
    show R.ok (((((ρ ++ [none, none, none, none]).set n (some (f x))).set (n + 1) (some (g x))).set (n + 2) (some (h x))).set (n + 3) (some (l x))) = _
    rw [← hn, List.set_append_right _ _ (Nat.le_refl _), Nat.sub_self, List.set_append_right _ _ (by omega), List.set_append_right _ _ (by omega), List.set_append_right _ _ (by omega)]
    simp, rfl, fun _ => hh x hx⟩
  rw [this, List.filter_eq_self.mpr fun _ _ => rfl]
theorem show_table_ok {ks : List Kd} (hl : ks.length ≤ 8) (h : ∀ k ∈ ks, KW k) : F_show_table [tD ks] = .ok (.str (tbS ks)) := by
  have len : fA gLen (aCons (fV 0) aNil) [some (tD ks)] = .ok (.int ks.length) := r_fA (r_cons rfl rfl) (by simp [tD, gLen])
  refine r_run ?_
  show q_show_table [some (tD ks)] = _
  cases ks with
  | nil => exact r_seqR (r_ifT (r_cE (r_f2 len rfl ((eq_ii _ _).trans (bl_t (by simp))))) (r_ret rfl))
  | cons k r =>
    refine r_seq (r_ifF (r_cE (r_f2 len rfl ((eq_ii _ _).trans (bl_f (by simp; omega))))) rfl) (r_ret ?_)
    have hc : fComp 1 4 (jList (fV 0)) (bTup (bCons (bName 1) (bCons (bName 2) (bCons (bName 3) (bCons (bName 4) bNil))))) cYes (fJs (aCons (f1 gFx (fV 1)) (aCons (fC (.str (" " : Str))) (aCons (f1 gFx (fV 2)) (aCons (fC (.str (" " : Str))) (aCons (f1 gFx (fV 3)) (aCons (fC (.str (" " : Str))) (aCons (f1 gFx (fV 4)) aNil)))))))) [some (tD (k :: r))] = .ok (.lst (((k :: r).map kdS).map D.str)) := by
      rw [List.map_map]
      refine r_comp rfl (r_jList (xs := (k :: r).map kD) rfl (by rw [List.length_map]; exact Nat.le_trans hl (by decide))) (comp4' (f := fun x : Kd => D.str x.name) (g := fun x => D.int x.w) (h := fun x => D.int x.wo) (l := fun x => D.int x.al) rfl fun x hx => ?_)
      have hx := h x hx
      have b := hx.bd
      have l0 := nm_len hx.nm
      have l1 := int_len (k := 20) (by decide) (by decide) b.1
      have l2 := int_len (k := 20) (by decide) (by decide) b.2.1
      have l3 := int_len (k := 20) (by decide) (by decide) b.2.2
      have h3 : (" " : Str).length ≤ 2000 := by rw [sp_len]; decide
      have ha : aCons (f1 gFx (fV 1)) (aCons (fC (.str (" " : Str))) (aCons (f1 gFx (fV 2)) (aCons (fC (.str (" " : Str))) (aCons (f1 gFx (fV 3)) (aCons (fC (.str (" " : Str))) (aCons (f1 gFx (fV 4)) aNil)))))) [some (tD (k :: r)), some (.str x.name), some (.int x.w), some (.int x.wo), some (.int x.al)] = .ok [.str x.name, .str (" " : Str), .str (intS x.w), .str (" " : Str), .str (intS x.wo), .str (" " : Str), .str (intS x.al)] :=
        r_cons (r_f1 rfl (gFx_s (by omega))) (r_cons rfl (r_cons (r_f1 rfl (gFx_i (pow_400 (by decide) b.1))) (r_cons rfl (r_cons (r_f1 rfl (gFx_i (pow_400 (by decide) b.2.1))) (r_cons rfl (r_cons (r_f1 rfl (gFx_i (pow_400 (by decide) b.2.2))) rfl))))))
      show fJs _ [some (tD (k :: r)), some (.str x.name), some (.int x.w), some (.int x.wo), some (.int x.al)] = _
      unfold fJs
      rw [ha, bind_ok, catO, if_pos (by omega), catO, if_pos h3, catO, if_pos (by omega), catO, if_pos h3, catO, if_pos (by omega), catO, if_pos h3, catO, if_pos (by omega), catO, emp_app]
      rfl
    show (R.ok (D.str (" / " : Str))).bind _ = _
    rw [bind_ok]
    show (fComp 1 4 (jList (fV 0)) _ cYes _ [some (tD (k :: r))]).bind _ = _
    rw [hc, bind_ok, join_okG (B := 80) (by rw [sl_len]; decide) (by decide) (by rw [List.length_map]; omega) (fun w hw => by
      obtain ⟨x, hx, rfl⟩ := List.mem_map.mp hw
      exact kd_len (h x hx))]
    rfl
end Dl

namespace Dl
open PySem
noncomputable def l__law_table_line_4 : FS :=
  (sApp 1 (f2 gAdd (f2 gAdd (f2 gAdd (f2 gAdd (f2 gAdd (f2 gAdd (fV 2) (fC (.str (" " : Str)))) (fA gStr (aCons (fV 3) aNil))) (fC (.str (" " : Str)))) (fA gStr (aCons (fV 4) aNil))) (fC (.str (" " : Str)))) (fA gStr (aCons (fV 5) aNil))))
noncomputable def q__law_table_line : FS :=
  (sSeq (sIf (cE (f2 gEq (fA gLen (aCons (fV 0) aNil)) (fC (.int 0)))) (sRet (fC (.str ("-" : Str)))) sNx)
    (sSeq (sSet 1 (fA gLst aNil))
    (sSeq (sFor (jList (fV 0)) (bTup (bCons (bName 2) (bCons (bName 3) (bCons (bName 4) (bCons (bName 5) bNil))))) l__law_table_line_4)
    (sRet (fJoin (fC (.str (" / " : Str))) (fV 1))))))
noncomputable def F__law_table_line (ds : List D) : R D := (run 6 q__law_table_line ds).calm
noncomputable def q__law_is_list : FS :=
  (sSeq (sIf (cOr (cNot (cE (f1 (gIsI "list") (fV 0)))) (cE (f2 gNe (fV 0) (fV 1)))) (sRet (fC (.bl false))) sNx)
    (sRet (fA gAll (aCons (fComp 2 1 (jList (fV 0)) (bName 2) cYes (fCall F__law_is_whole (aCons (fV 2) aNil))) aNil))))
noncomputable def F__law_is_list (ds : List D) : R D := (run 2 q__law_is_list ds).calm
noncomputable def l__law_is_table_3 : FS :=
  (sIf (cOr (cNot (cE (f1 (gIsI "tuple") (fV 2)))) (cNot (cE (fA gAll (aCons (fComp 3 1 (jTup (fSl gSlT (fV 2) (oSome (fC (.int 1))) oNone)) (bName 3) cYes (fCall F__law_is_whole (aCons (fV 3) aNil))) aNil))))) (sRet (fC (.bl false))) sNx)
noncomputable def q__law_is_table : FS :=
  (sSeq (sIf (cOr (cNot (cE (f1 (gIsI "list") (fV 0)))) (cE (f2 gNe (fV 0) (fV 1)))) (sRet (fC (.bl false))) sNx)
    (sSeq (sFor (jList (fV 0)) (bName 2) l__law_is_table_3)
    (sRet (fC (.bl true)))))
noncomputable def F__law_is_table (ds : List D) : R D := (run 3 q__law_is_table ds).calm
noncomputable def m__law_table_7 : FS :=
  (sSeq (sSet 9 (f2 gAdd (f2 gMul (fC (.int 3)) (fV 8)) (fC (.int 6))))
    (sSeq (sSet 10 (f1 gFlat (f2 gIx (fA gLst (aCons (fC (.int 1)) (aCons (fC (.int 2)) (aCons (fC (.int 3)) (aCons (fC (.int 4)) (aCons (fC (.int 5)) (aCons (fC (.int 6)) (aCons (fC (.int 2)) (aCons (fC (.int 3)) (aCons (fC (.int 11)) (aCons (fC (.int 40)) (aCons (f2 gIx (fA gLst (aCons (fC (.int 150)) (aCons (fC (.int 200)) aNil))) (f2 gMod (fV 8) (fC (.int 2)))) aNil)))))))))))) (f2 gIx (fV 4) (fV 9)))))
    (sSeq (sSet 11 (f2 gAdd (fC (.int 1)) (f2 gIx (fV 4) (f2 gAdd (fV 9) (fC (.int 1))))))
    (sSeq (sIf (cE (f2 gEq (f2 gIx (fV 4) (fC (.int 3))) (fC (.int 1)))) (sSet 11 (f2 gAdd (f2 gMul (fC (.int 3)) (fV 10)) (f2 gMod (f2 gIx (fV 4) (f2 gAdd (fV 9) (fC (.int 1)))) (fC (.int 4))))) sNx)
    (sSeq (sIf (cE (f2 gEq (f2 gIx (fV 4) (fC (.int 3))) (fC (.int 2)))) (sSet 11 (f2 gAdd (fC (.int 1)) (f2 gMod (f2 gIx (fV 4) (f2 gAdd (fV 9) (fC (.int 1)))) (fC (.int 3))))) sNx)
    (sSeq (sIf (cE (f2 gEq (f2 gIx (fV 4) (fC (.int 3))) (fC (.int 3)))) (sSet 11 (f1 gFlat (fV 10))) sNx)
    (sSeq (sSet 12 (fA gMin (aCons (f2 gMul (f2 gIx (fA gLst (aCons (fC (.int 0)) (aCons (fC (.int 0)) (aCons (fC (.int 1)) (aCons (fC (.int 2)) (aCons (fC (.int 3)) (aCons (fC (.int 12)) aNil))))))) (f2 gIx (fV 4) (f2 gAdd (fV 9) (fC (.int 2))))) (fV 5)) (aCons (f2 gSub (f2 gPow (fC (.int 10)) (fC (.int 18))) (fC (.int 1))) aNil))))
    (sSeq (sSet 13 (f1 gFlat (f2 gIx (fV 3) (f2 gMod (f2 gAdd (f2 gIx (fV 4) (fC (.int 4))) (f2 gMul (f2 gAdd (f2 gMul (fC (.int 2)) (f2 gIx (fV 4) (fC (.int 5)))) (fC (.int 1))) (fV 8))) (fC (.int 16))))))
    (sApp 7 (fA gTup (aCons (f1 gFlat (fV 13)) (aCons (f1 gFlat (fV 10)) (aCons (fA gMin (aCons (f2 gMul (fV 11) (fV 6)) (aCons (f2 gPow (fC (.int 10)) (fC (.int 18))) aNil))) (aCons (f1 gFlat (fV 12)) aNil))))))))))))))
noncomputable def p__law_table : FS :=
  (sSeq (sSet 3 (fA gLst (aCons (fC (.str ("a" : Str))) (aCons (fC (.str ("ab" : Str))) (aCons (fC (.str ("abc" : Str))) (aCons (fC (.str ("b" : Str))) (aCons (fC (.str ("ba" : Str))) (aCons (fC (.str ("z" : Str))) (aCons (fC (.str ("zzzzzzzz" : Str))) (aCons (fC (.str ("roll" : Str))) (aCons (fC (.str ("cut" : Str))) (aCons (fC (.str ("by" : Str))) aNil))))))))))))
    (sSeq (sSet 3 (f2 gAdd (fV 3) (fA gLst (aCons (fC (.str ("aab" : Str))) (aCons (fC (.str ("zz" : Str))) (aCons (fC (.str ("kind" : Str))) (aCons (fC (.str ("qsvw" : Str))) (aCons (fC (.str ("fghjmp" : Str))) (aCons (fC (.str ("x" : Str))) aNil)))))))))
    (sSeq (sSet 4 (fCall F__law_row (aCons (fV 0) (aCons (fV 1) (aCons (f2 gAdd (fA gLst (aCons (f2 gAdd (fV 2) (fC (.int 1))) (aCons (fC (.int 4)) (aCons (fC (.int 4)) (aCons (fC (.int 4)) (aCons (fC (.int 16)) (aCons (fC (.int 4)) aNil))))))) (f2 gMul (fA gLst (aCons (fC (.int 11)) (aCons (fC (.int 40)) (aCons (fC (.int 6)) aNil)))) (fV 2))) aNil)))))
    (sSeq (sSet 5 (f1 gFlat (f2 gIx (fA gLst (aCons (fC (.int 1)) (aCons (fC (.int 1)) (aCons (fC (.int 7)) (aCons (f2 gPow (fC (.int 10)) (fC (.int 17))) aNil))))) (f2 gIx (fV 4) (fC (.int 1))))))
    (sSeq (sSet 6 (f1 gFlat (f2 gIx (fA gLst (aCons (fC (.int 1)) (aCons (fC (.int 1)) (aCons (f2 gPow (fC (.int 10)) (fC (.int 6))) (aCons (f2 gMul (fC (.int 25)) (f2 gPow (fC (.int 10)) (fC (.int 15)))) aNil))))) (f2 gIx (fV 4) (fC (.int 2))))))
    (sSeq (sSet 7 (fA gLst aNil))
    (sSeq (sFor (jRng1 (aCons (f2 gIx (fV 4) (fC (.int 0))) aNil)) (bName 8) m__law_table_7)
    (sRet (fV 7)))))))))
noncomputable def G__law_table (ds : List D) : R D := (run 14 p__law_table ds).calm
noncomputable def l__law_numbers_7 : FS :=
  (sSeq (sSet 7 (fSl gSl (fV 4) (oSome (f2 gMul (fC (.int 4)) (fV 6))) (oSome (f2 gAdd (f2 gMul (fC (.int 4)) (fV 6)) (fC (.int 4))))))
    (sSeq (sSet 8 (f1 gFlat (f2 gIx (fA gLst (aCons (fC (.int 0)) (aCons (f2 gIx (fV 7) (fC (.int 2))) (aCons (f2 gIx (fV 7) (fC (.int 3))) (aCons (f2 gAdd (f2 gMul (fC (.int 99)) (f2 gPow (fC (.int 10)) (fC (.int 18)))) (f2 gIx (fV 7) (fC (.int 3)))) aNil))))) (f2 gIx (fV 7) (fC (.int 1))))))
    (sApp 5 (f1 gFlat (f2 gIx (fA gLst (aCons (fV 8) (aCons (f1 gNeg (fV 8)) aNil))) (f2 gIx (fV 7) (fC (.int 0))))))))
noncomputable def q__law_numbers : FS :=
  (sSeq (sSet 2 (fCall F__law_row (aCons (fV 0) (aCons (fV 1) (aCons (fA gLst (aCons (fC (.int 13)) (aCons (fC (.int 8)) aNil))) aNil)))))
    (sSeq (sSet 3 (f1 gFlat (f2 gIx (fV 2) (fC (.int 0)))))
    (sSeq (sIf (cE (f2 gEq (f2 gIx (fV 2) (fC (.int 1))) (fC (.int 0)))) (sSet 3 (fC (.int 203))) sNx)
    (sSeq (sSet 4 (fCall F__law_row (aCons (fV 0) (aCons (f2 gAdd (fV 1) (fC (.int 1))) (aCons (f2 gMul (fA gLst (aCons (fC (.int 2)) (aCons (fC (.int 4)) (aCons (fC (.int 10)) (aCons (f2 gPow (fC (.int 10)) (fC (.int 18))) aNil))))) (fV 3)) aNil)))))
    (sSeq (sSet 5 (fA gLst aNil))
    (sSeq (sFor (jRng1 (aCons (fV 3) aNil)) (bName 6) l__law_numbers_7)
    (sRet (fV 5))))))))
noncomputable def F__law_numbers (ds : List D) : R D := (run 9 q__law_numbers ds).calm
noncomputable def l_law_4 : FS :=
  (sSeq (sSet 5 (fA gLst (aCons (fA gList (aCons (fV 1) aNil)) (aCons (fA gList (aCons (fV 2) aNil)) (aCons (fA gList (aCons (fV 3) aNil)) aNil)))))
    (sSeq (sIf (cOr (cE (f2 gNe (fCall F_show_numbers (aCons (f2 gIx (fV 5) (fC (.int 0))) aNil)) (fCall F__law_line (aCons (fV 1) aNil)))) (cE (f2 gNe (fCall F_show_numbers (aCons (f2 gIx (fV 5) (fC (.int 2))) aNil)) (fCall F__law_line (aCons (fV 3) aNil))))) (sRet (fC (.bl false))) sNx)
    (sSeq (sIf (cOr (cE (f2 gNe (fCall F_show_table (aCons (f2 gIx (fV 5) (fC (.int 1))) aNil)) (fCall F__law_table_line (aCons (fV 2) aNil)))) (cE (f2 gNe (fV 5) (fA gLst (aCons (fV 1) (aCons (fV 2) (aCons (fV 3) aNil))))))) (sRet (fC (.bl false))) sNx)
    (sSeq (sSet 6 (fCall F_read_numbers (aCons (fCall F__law_line (aCons (fV 1) aNil)) aNil)))
    (sSeq (sSet 7 (fCall F_read_table (aCons (fCall F__law_table_line (aCons (fV 2) aNil)) aNil)))
    (sSeq (sIf (cOr (cNot (cE (fCall F__law_is_list (aCons (fV 6) (aCons (fV 1) aNil))))) (cNot (cE (fCall F__law_is_table (aCons (fV 7) (aCons (fV 2) aNil)))))) (sRet (fC (.bl false))) sNx)
    (sSeq (sApp 6 (fC (.int 1)))
    (sClear 7))))))))
noncomputable def q_law : FS :=
  (sSeq (sSet 1 (fCall F__law_numbers (aCons (fV 0) (aCons (fC (.int 0)) aNil))))
    (sSeq (sSet 2 (fCall F__law_renamed (aCons (fV 0) (aCons (fC (.int 3)) (aCons (fCall G__law_table (aCons (fV 0) (aCons (fC (.int 2)) (aCons (fC (.int 8)) aNil)))) aNil)))))
    (sSeq (sSet 3 (fComp 8 1 (jList (fV 1)) (bName 8) cYes (f2 gSub (f2 gMulB (fV 8) (f2 gPow (fC (.int 10)) (fC (.int 38)))) (fC (.int 1)))))
    (sSeq (sFor (jRng1 (aCons (fC (.int 2)) aNil)) (bName 4) l_law_4)
    (sRet (fAnd (f2 gEq (fCall F_read_numbers (aCons (fC (.str ("-" : Str))) aNil)) (fA gLst aNil)) (f2 gEq (fCall F_read_table (aCons (fC (.str ("-" : Str))) aNil)) (fA gLst aNil))))))))
noncomputable def F_law (ds : List D) : R D := (run 8 q_law ds).calm
end Dl

namespace Dl
open PySem
theorem pow10_38 : gPow (.int 10) (.int 38) = some (.int 100000000000000000000000000000000000000) := by
  rw [pow_ii (by decide) (by decide) (by decide)]
  rfl
theorem table_line_ok {ks : List Kd} (hl : ks.length ≤ 8) (h : ∀ k ∈ ks, KW k) : F__law_table_line [tD ks] = .ok (.str (tbS ks)) := by
  have len : fA gLen (aCons (fV 0) aNil) [some (tD ks), none, none, none, none, none] = .ok (.int ks.length) := r_fA (r_cons rfl rfl) (by simp [tD, gLen])
  have turn : ∀ (T : D) (x : Kd) (ws : List Str), KW x → ws.length ≤ 1000 → l__law_table_line_4 [some T, some (.lst (ws.map D.str)), some (.str x.name), some (.int x.w), some (.int x.wo), some (.int x.al)] = .ok (.nx [some T, some (.lst ((ws ++ [kdS x]).map D.str)), some (.str x.name), some (.int x.w), some (.int x.wo), some (.int x.al)]) := fun T x ws hx hw => by
    have bd := hx.bd
    have l0 := nm_len hx.nm
    have l1 := int_len (k := 20) (by decide) (by decide) bd.1
    have l2 := int_len (k := 20) (by decide) (by decide) bd.2.1
    have l3 := int_len (k := 20) (by decide) (by decide) bd.2.2
    have gs : ∀ i : Int, i.natAbs < 10 ^ 20 → gStr [.int i] = some (.str (intS i)) := fun i hi => by
      unfold gStr
      simp only []
      rw [if_pos (pow_400 (by decide) hi)]
    have ad : ∀ a b : Str, a.length ≤ 1000 → b.length ≤ 100 → gAdd (.str a) (.str b) = some (.str (a ++ b)) := fun a b ha hb => by
      show (if a.length + b.length ≤ lim then _ else _) = _
      rw [if_pos (by show _ ≤ 1000000; omega)]
    have s1 : (" " : Str).length ≤ 100 := by rw [sp_len]; decide
    rw [List.map_append]
    refine r_app (xs := ws.map D.str) (d := .str (kdS x)) rfl ?_ (by rw [List.length_map]; exact Nat.lt_of_le_of_lt hw (by decide))
    refine r_f2 (r_f2 (r_f2 (r_f2 (r_f2 (r_f2 rfl rfl (ad _ _ (by omega) s1)) (r_fA (r_cons rfl rfl) (gs _ bd.1)) (ad _ _ ?_ (by omega))) rfl (ad _ _ ?_ s1)) (r_fA (r_cons rfl rfl) (gs _ bd.2.1)) (ad _ _ ?_ (by omega))) rfl (ad _ _ ?_ s1)) (r_fA (r_cons rfl rfl) (gs _ bd.2.2)) (ad _ _ ?_ (by omega)) <;> (simp only [len_app, sp_len]; omega)
  have loop : ∀ (T : D) (xs : List Kd) (ws : List Str) (a b c d : Option D), (∀ x ∈ xs, KW x) → ws.length + xs.length ≤ 1000 → ∃ a' b' c' d', forD (bTup (bCons (bName 2) (bCons (bName 3) (bCons (bName 4) (bCons (bName 5) bNil))))) l__law_table_line_4 (xs.map kD) [some T, some (.lst (ws.map D.str)), a, b, c, d] = .ok (.nx [some T, some (.lst ((ws ++ xs.map kdS).map D.str)), a', b', c', d']) := fun T xs => by
    induction xs with
    | nil => exact fun ws a b c d _ _ => ⟨a, b, c, d, by rw [List.map_nil, List.map_nil, List.append_nil]; rfl⟩
    | cons x r ih =>
      intro ws a b c d hx hw
      rw [List.length_cons] at hw
      have t := turn T x ws (hx x (.head _)) (by omega)
      obtain ⟨a', b', c', d', q⟩ := ih (ws ++ [kdS x]) (some (.str x.name)) (some (.int x.w)) (some (.int x.wo)) (some (.int x.al)) (fun y hy => hx y (.tail _ hy)) (by rw [List.length_append]; simp only [List.length_cons, List.length_nil]; omega)
      refine ⟨a', b', c', d', ?_⟩
      rw [List.map_cons, forD_step (ρ1 := [some T, some (.lst (ws.map D.str)), some (.str x.name), some (.int x.w), some (.int x.wo), some (.int x.al)]) rfl, t]
      show forD _ _ (r.map kD) _ = _
      rw [q, List.append_assoc]
      rfl
  refine r_run ?_
  show q__law_table_line [some (tD ks), none, none, none, none, none] = _
  cases ks with
  | nil => exact r_seqR (r_ifT (r_cE (r_f2 len rfl ((eq_ii _ _).trans (bl_t (by simp))))) (r_ret rfl))
  | cons k r =>
    obtain ⟨a', b', c', d', q⟩ := loop (tD (k :: r)) (k :: r) [] none none none none h (by simp only [List.length_nil]; omega)
    refine r_seq (r_ifF (r_cE (r_f2 len rfl ((eq_ii _ _).trans (bl_f (by simp; omega))))) rfl) (r_seq (r_set rfl) (r_seq (r_for (r_jList (xs := (k :: r).map kD) rfl (by rw [List.length_map]; exact Nat.le_trans hl (by decide))) q) (r_ret ?_)))
    show oR (gJoin (.str (" / " : Str)) (.lst (([] ++ (k :: r).map kdS).map D.str))) = _
    rw [List.nil_append, join_okG (B := 80) (by rw [sl_len]; decide) (by decide) (by rw [List.length_map]; omega) (fun w hw => by
      obtain ⟨x, hx, rfl⟩ := List.mem_map.mp hw
      exact kd_len (h x hx))]
    rfl
theorem is_list_ok {is : List Int} (hl : is.length ≤ 1000) : F__law_is_list [iD is, iD is] = .ok (.bl true) := by
  have ne := neX (depI is)
  have isL : gIsI "list" (iD is) = some (.bl true) := rfl
  refine r_run (r_seq (r_ifF (r_cOrF (r_cNot (b := true) (r_cE (r_f1 rfl isL))) (r_cE (r_f2 rfl rfl ne))) rfl) (r_ret ?_))
  refine r_fA (r_cons (r_comp rfl (r_jList (xs := is.map D.int) rfl (by rw [List.length_map]; exact Nat.le_trans hl (by decide))) (comp1' (v := fun _ => D.bl true) rfl fun x _ => r_call (r_cons rfl rfl) (whole_ok x))) rfl) ?_
  have := all_bools (is.map fun _ => true)
  rw [List.map_map] at this
  refine Eq.trans this ?_
  simp
theorem dep_tK : ∀ (ks : List Kd), depA (ks.map kD) ≤ 1
  | [] => by simp [depA]
  | k :: ks => by
    have := dep_kD k
    have := dep_tK ks
    simp only [List.map_cons, depA]
    omega
theorem depT (ks : List Kd) : dep (tD ks) ≤ 2 := by
  have := dep_tK ks
  simp only [tD, dep]
  omega
theorem is_table_ok {ks : List Kd} (hl : ks.length ≤ 8) : F__law_is_table [tD ks, tD ks] = .ok (.bl true) := by
  have ne := neX (d := tD ks) (by have := depT ks; omega)
  have isL : gIsI "list" (tD ks) = some (.bl true) := rfl
  have loop : ∀ (xs : List Kd) (T : D) (o : Option D), ∃ o', forD (bName 2) l__law_is_table_3 (xs.map kD) [some T, some T, o] = .ok (.nx [some T, some T, o']) := fun xs => by
    induction xs with
    | nil => exact fun T o => ⟨o, rfl⟩
    | cons x r ih =>
      intro T o
      obtain ⟨o', q⟩ := ih T (some (kD x))
      have al : l__law_is_table_3 [some T, some T, some (kD x)] = .ok (.nx [some T, some T, some (kD x)]) := by
        have al : fA gAll (aCons (fComp 3 1 (jTup (fSl gSlT (fV 2) (oSome (fC (.int 1))) oNone)) (bName 3) cYes (fCall F__law_is_whole (aCons (fV 3) aNil))) aNil) [some T, some T, some (kD x)] = .ok (.bl true) :=
          r_fA (r_cons (r_comp (xs := [x.w, x.wo, x.al].map D.int) rfl (r_jTup (r_sl rfl (r_oSome rfl) rfl (show gSlT (kD x) (some 1) none = some (.tup [.int x.w, .int x.wo, .int x.al]) from rfl)) (by show 3 ≤ 1000000; decide)) (comp1' (v := fun _ => D.bl true) rfl fun y _ => r_call (r_cons rfl rfl) (whole_ok y))) rfl) rfl
        exact r_ifF (r_cOrF (r_cNot (b := true) (r_cE (r_f1 rfl rfl))) (r_cNot (b := true) (r_cE al))) rfl
      refine ⟨o', ?_⟩
      rw [List.map_cons, forD_step (ρ1 := [some T, some T, some (kD x)]) rfl, al]
      exact q
  obtain ⟨o', q⟩ := loop ks (tD ks) none
  exact r_run (r_seq (r_ifF (r_cOrF (r_cNot (b := true) (r_cE (r_f1 rfl isL))) (r_cE (r_f2 rfl rfl ne))) rfl) (r_seq (r_for (r_jList (xs := ks.map kD) rfl (by rw [List.length_map]; exact Nat.le_trans hl (by decide))) q) (r_ret rfl)))
noncomputable def az : Str := "abcdefghijklmnopqrstuvwxyz"
theorem az_at {i : Int} (h0 : 0 ≤ i) (h1 : i < 26) : gIx (.str az) (.int i) = some (.str ⟨#[97 + i.toNat]⟩) := by
  have hl : az.cps.toList = List.range' 97 26 := by decide +kernel
  unfold gIx
  simp only []
  rw [if_pos (by show az.length ≤ 1000000; have : az.length = 26 := by decide +kernel
                 omega), atD_nat (xs := az.cps.toList) (k := i.toNat) (x := 97 + i.toNat) (by omega) (by rw [hl, List.getElem?_range' (by omega)]; simp)]
  rfl
theorem mul_s {c : Nat} {n : Nat} (h1 : 1 ≤ n) (h2 : n ≤ 10) : gMulS (.str ⟨#[c]⟩) (.int (n : Int)) = some (.str ⟨(List.replicate n c).toArray⟩) := by
  have e : (List.replicate n [c]).flatten = List.replicate n c := by
    induction n with
    | zero => rfl
    | succ n ih =>
      by_cases hn : n = 0
      · subst hn; rfl
      · rw [List.replicate_succ, List.flatten_cons, ih (by omega) (by omega)]; rfl
  show (if 1 ≤ (n : Int) ∧ (n : Int) ≤ 1000 ∧ (⟨#[c]⟩ : Str).length ≤ 1000 then some (D.str (repS ⟨#[c]⟩ (n : Int).toNat)) else none) = _
  rw [if_pos ⟨by omega, by omega, by show 1 ≤ 1000; decide⟩]
  unfold repS
  rw [Int.toNat_natCast]
  show some (D.str ⟨(List.replicate n [c]).flatten.toArray⟩) = _
  rw [e]
theorem rep4 (ws : List Int) (hw : ws.length = 4) : ∀ (n k j : Nat), k < n → j < 4 → (List.replicate n ws).flatten.getD (4 * k + j) 0 = ws.getD j 0
  | 0, k, j, h, _ => by omega
  | n + 1, 0, j, h, hj => by
    rw [List.replicate_succ, List.flatten_cons]
    simp [List.getD, List.getElem?_append_left (show j < ws.length by omega)]
  | n + 1, k + 1, j, h, hj => by
    rw [List.replicate_succ, List.flatten_cons]
    have := rep4 ws hw n k j (by omega) hj
    rw [← this]
    have e : 4 * (k + 1) + j = ws.length + (4 * k + j) := by omega
    rw [e, List.getD_eq_getElem?_getD, List.getD_eq_getElem?_getD, List.getElem?_append_right (by omega), Nat.add_sub_cancel_left]
theorem mul_rep3 {ws : List Int} {m : Int} (h0 : 0 ≤ m) (h1 : m ≤ 300) (hl : ws.length ≤ 1000) : gMul (.lst (ws.map D.int)) (.int m) = some (iD (List.replicate m.toNat ws).flatten) := by
  simp only [gMul]
  rw [if_pos ⟨by omega, by
    rw [List.length_map]
    show ws.length * m.toNat ≤ 1000000
    have : ws.length * m.toNat ≤ 1000 * 300 := Nat.mul_le_mul hl (by omega)
    omega, by omega, flatA_ints ws⟩, rep_map]
  rfl
theorem sl4 {os : List Int} {k a : Nat} (h : 4 * k + a + 4 ≤ os.length) : gSl (iD os) (some (4 * (k : Int) + (a : Int))) (some (4 * (k : Int) + (a : Int) + 4)) = some (iD ((os.drop (4 * k + a)).take 4)) ∧ ((os.drop (4 * k + a)).take 4).length = 4 ∧ ∀ j, j < 4 → ((os.drop (4 * k + a)).take 4).getD j 0 = os.getD (4 * k + a + j) 0 := by
  refine ⟨(sl_ints os _ _).trans ?_, ?_, fun j hj => ?_⟩
  · rw [cut_ab (by omega) (by omega) (by omega), show (4 * (k : Int) + (a : Int)).toNat = 4 * k + a by omega, show (4 * (k : Int) + (a : Int) + 4).toNat - (4 * k + a) = 4 by omega]
    rfl
  · rw [List.length_take, List.length_drop]
    omega
  · simp [List.getD, List.getElem?_take, hj]
theorem num_turn {d0 d1 d2 d3 o7 o8 : Option D} {O : D} {is : List Int} {k : Nat} {m : List Int} (hm : gSl O (some (4 * (k : Int))) (some (4 * (k : Int) + 4)) = some (iD m)) (hml : m.length = 4) (b0 : 0 ≤ m.getD 0 0 ∧ m.getD 0 0 < 2) (b1 : 0 ≤ m.getD 1 0 ∧ m.getD 1 0 < 4) (b2 : 0 ≤ m.getD 2 0 ∧ m.getD 2 0 < 10) (b3 : 0 ≤ m.getD 3 0 ∧ m.getD 3 0 < 1000000000000000000) (hl : is.length ≤ 1000) :
    ∃ (q : Int) (o7' o8' : Option D), q.natAbs < 10 ^ 20 ∧ l__law_numbers_7 [d0, d1, d2, d3, some O, some (iD is), some (.int (k : Int)), o7, o8] = .ok (.nx [d0, d1, d2, d3, some O, some (iD (is ++ [q])), some (.int (k : Int)), o7', o8']) := by
  have im : ∀ j : Nat, j < 4 → gIx (iD m) (.int (j : Int)) = some (.int (m.getD j 0)) := fun j hj => ix_ints rfl (by omega)
  have m8 : ∀ o7 o8 : Option D, f2 gMul (fC (.int 4)) (fV 6) [d0, d1, d2, d3, some O, some (iD is), some (.int (k : Int)), o7, o8] = .ok (.int (4 * (k : Int))) := fun _ _ => r_f2 rfl rfl (mulS (by decide) (by decide))
  have in_ := ix_lit [0, m.getD 2 0, m.getD 3 0, 99000000000000000000 + m.getD 3 0] (i := m.getD 1 0) b1.1 b1.2
  obtain ⟨n, hn⟩ : ∃ n, n = [0, m.getD 2 0, m.getD 3 0, 99000000000000000000 + m.getD 3 0].getD (m.getD 1 0).toNat 0 := ⟨_, rfl⟩
  rw [← hn] at in_
  have nb : 0 ≤ n ∧ n < 100000000000000000000 := by
    rw [hn]
    refine getD_all (P := fun n => 0 ≤ n ∧ n < 100000000000000000000) (fun w hw => ?_) (by show _ < 4; omega)
    simp only [List.mem_cons, List.not_mem_nil, or_false] at hw
    rcases hw with rfl | rfl | rfl | rfl
    · decide
    · omega
    · omega
    · omega
  have is_ := ix_lit [n, -n] (i := m.getD 0 0) b0.1 b0.2
  obtain ⟨q, hq⟩ : ∃ q, q = [n, -n].getD (m.getD 0 0).toNat 0 := ⟨_, rfl⟩
  rw [← hq] at is_
  have qb : q.natAbs < 10 ^ 20 := by
    rw [hq]
    refine getD_all (P := fun q => q.natAbs < 10 ^ 20) (fun w hw => ?_) (by show _ < 2; omega)
    simp only [List.mem_cons, List.not_mem_nil, or_false] at hw
    have e : (10 : Nat) ^ 20 = 100000000000000000000 := by decide
    rw [e]
    rcases hw with rfl | rfl <;> omega
  have p99 : ∀ ρ : Env, f2 gMul (fC (.int 99)) (f2 gPow (fC (.int 10)) (fC (.int 18))) ρ = .ok (.int 99000000000000000000) := fun ρ => r_f2 rfl (r_f2 rfl rfl pow10_18) ((mulS (by decide) (by decide)).trans rfl)
  refine ⟨q, some (iD m), some (.int n), qb, ?_⟩
  refine r_seq (r_set (r_sl rfl (r_oSome (m8 _ _)) (r_oSome (r_f2 (m8 _ _) rfl rfl)) hm)) ?_
  refine r_seq (r_set (r_f1 (r_f2 (r_fA (r_cons rfl (r_cons (r_f2 rfl rfl (im 2 (by decide))) (r_cons (r_f2 rfl rfl (im 3 (by decide))) (r_cons (r_f2 (p99 _) (r_f2 rfl rfl (im 3 (by decide))) rfl) rfl)))) rfl) (r_f2 rfl rfl (im 1 (by decide))) in_) rfl)) ?_
  refine Eq.trans (r_app (xs := is.map D.int) (d := .int q) rfl (r_f1 (r_f2 (r_fA (r_cons rfl (r_cons (r_f1 rfl rfl) rfl)) rfl) (r_f2 rfl rfl (im 0 (by decide))) is_) rfl) (by rw [List.length_map]; exact Nat.lt_of_le_of_lt hl (by decide))) ?_
  simp [iD]
theorem numbers_ok (ns : List Int) (hn : ns.length ≤ 63) : ∃ is : List Int, is.length ≤ 300 ∧ (∀ i ∈ is, i.natAbs < 10 ^ 20) ∧ F__law_numbers [.scr ns, .int 0] = .ok (iD is) := by
  obtain ⟨hs, hh, R⟩ := row_ok ns hn (i := 0) (by decide) (by decide) [13, 8] (by decide) (by decide)
  have hhl : hs.length = 2 := R.len
  have r0 : 0 ≤ hs.getD 0 0 ∧ hs.getD 0 0 < 13 := R.at_ 0 (by decide)
  have i0 : gIx (iD hs) (.int 0) = some (.int (hs.getD 0 0)) := ix_ints (k := 0) rfl (by omega)
  have i1 : gIx (iD hs) (.int 1) = some (.int (hs.getD 1 0)) := ix_ints (k := 1) rfl (by omega)
  have tail : ∀ (n : Nat), n ≤ 203 → ∃ is : List Int, is.length ≤ 300 ∧ (∀ i ∈ is, i.natAbs < 10 ^ 20) ∧ (sSeq (sSet 4 (fCall F__law_row (aCons (fV 0) (aCons (f2 gAdd (fV 1) (fC (.int 1))) (aCons (f2 gMul (fA gLst (aCons (fC (.int 2)) (aCons (fC (.int 4)) (aCons (fC (.int 10)) (aCons (f2 gPow (fC (.int 10)) (fC (.int 18))) aNil))))) (fV 3)) aNil)))))
    (sSeq (sSet 5 (fA gLst aNil))
    (sSeq (sFor (jRng1 (aCons (fV 3) aNil)) (bName 6) l__law_numbers_7)
    (sRet (fV 5))))) [some (.scr ns), some (.int 0), some (iD hs), some (.int (n : Int)), none, none, none, none, none] = .ok (.ret (iD is)) := fun n hn2 => by
    obtain ⟨os, hos, R2⟩ := row_okL ns hn (i := 0 + 1) (by decide) (by decide) (List.replicate n [2, 4, 10, 1000000000000000000]).flatten (by rw [rep_len]; show n * 4 ≤ 2000; omega) (fun m hm => by
      obtain ⟨l, h1, h2⟩ := List.mem_flatten.mp hm
      rw [List.eq_of_mem_replicate h1] at h2
      exact (by decide : ∀ m ∈ ([2, 4, 10, 1000000000000000000] : List Int), 0 < m ∧ m < 2 ^ 200) m h2)
    have hol : os.length = n * 4 := by rw [R2.len, rep_len]; rfl
    have bd : ∀ k j : Nat, k < n → j < 4 → 0 ≤ os.getD (4 * k + j) 0 ∧ os.getD (4 * k + j) 0 < ([2, 4, 10, 1000000000000000000] : List Int).getD j 0 := fun k j hk hj => by
      have := R2.at_ (4 * k + j) (by rw [rep_len]; show _ < n * 4; omega)
      rw [rep4 _ rfl n k j hk hj] at this
      exact this
    have key : V (forD (bName 6) l__law_numbers_7 (rngL 0 n) [some (.scr ns), some (.int 0), some (iD hs), some (.int (n : Int)), some (iD os), some (iD []), none, none, none]) (fun fl => ∃ (is : List Int) (b c d : Option D), is.length = n ∧ (∀ p ∈ is, p.natAbs < 10 ^ 20) ∧ fl = .nx [some (.scr ns), some (.int 0), some (iD hs), some (.int (n : Int)), some (iD os), some (iD is), b, c, d]) := by
      refine V_rng0 (P := fun k ρ => ∃ (is : List Int) (b c d : Option D), is.length = k ∧ (∀ p ∈ is, p.natAbs < 10 ^ 20) ∧ ρ = [some (.scr ns), some (.int 0), some (iD hs), some (.int (n : Int)), some (iD os), some (iD is), b, c, d]) ⟨[], none, none, none, rfl, (fun _ z => nomatch z), rfl⟩ (fun k ρ hk q => ?_) (fun ρ q => ?_)
      · obtain ⟨is, b, c, d, e1, e2, rfl⟩ := q
        obtain ⟨s1, s2, s3⟩ := sl4 (os := os) (k := k) (a := 0) (by omega)
        have s1 : gSl (iD os) (some (4 * (k : Int))) (some (4 * (k : Int) + 4)) = some (iD ((os.drop (4 * k)).take 4)) := by
          have := s1
          simp only [Nat.add_zero] at this
          rw [show 4 * (k : Int) + ((0 : Nat) : Int) = 4 * (k : Int) by omega] at this
          exact this
        obtain ⟨q, b', c', hq, t⟩ := num_turn (d0 := some (.scr ns)) (d1 := some (.int 0)) (d2 := some (iD hs)) (d3 := some (.int (n : Int))) (o7 := c) (o8 := d) (is := is) s1 s2 (by rw [show ((os.drop (4 * k)).take 4).getD 0 0 = os.getD (4 * k + 0) 0 from s3 0 (by decide)]; exact bd k 0 hk (by decide)) (by rw [show ((os.drop (4 * k)).take 4).getD 1 0 = os.getD (4 * k + 1) 0 from s3 1 (by decide)]; exact bd k 1 hk (by decide)) (by rw [show ((os.drop (4 * k)).take 4).getD 2 0 = os.getD (4 * k + 2) 0 from s3 2 (by decide)]; exact bd k 2 hk (by decide)) (by rw [show ((os.drop (4 * k)).take 4).getD 3 0 = os.getD (4 * k + 3) 0 from s3 3 (by decide)]; exact bd k 3 hk (by decide)) (by omega)
        refine V.of t ⟨is ++ [q], _, _, _, by rw [List.length_append, e1]; rfl, fun x hx => ?_, rfl⟩
        rcases List.mem_append.mp hx with z | z
        · exact e2 x z
        · rw [List.mem_singleton.mp z]; exact hq
      · obtain ⟨is, b, c, d, e1, e2, rfl⟩ := q
        exact ⟨is, b, c, d, e1, e2, rfl⟩
    obtain ⟨fl, h1, is, b, c, d, e1, e2, rfl⟩ := key.ex
    refine ⟨is, by omega, e2, ?_⟩
    exact r_seq (r_set (r_call (r_cons rfl (r_cons (r_f2 rfl rfl rfl) (r_cons (r_f2 (r_fA (xs := ([2, 4, 10, 1000000000000000000] : List Int).map D.int) (r_cons rfl (r_cons rfl (r_cons rfl (r_cons (r_f2 rfl rfl pow10_18) rfl)))) rfl) rfl (mul_rep3 (by omega) (by omega) (by decide))) rfl))) (by rw [Int.toNat_natCast]; exact hos))) (r_seq (r_set rfl) (r_seq (r_for ((r_rng (j := (n : Int)) rfl (by omega)).trans (by rw [Int.toNat_natCast])) h1) (r_ret rfl)))
  by_cases hz : hs.getD 1 0 = 0
  · obtain ⟨ps, p1, p2, p3⟩ := tail 203 (by decide)
    exact ⟨ps, p1, p2, r_run (r_seq (r_set (r_call (r_cons rfl (r_cons rfl (r_cons (r_fA (r_cons rfl (r_cons rfl rfl)) rfl) rfl))) hh)) (r_seq (r_set (r_f1 (r_f2 rfl rfl i0) rfl)) (r_seq (r_ifT (r_cE (r_f2 (r_f2 rfl rfl i1) rfl ((eq_ii _ _).trans (bl_t hz)))) (r_set rfl)) p3)))⟩
  · obtain ⟨n, hn0⟩ := Int.eq_ofNat_of_zero_le r0.1
    obtain ⟨ps, p1, p2, p3⟩ := tail n (by omega)
    rw [hn0] at i0
    exact ⟨ps, p1, p2, r_run (r_seq (r_set (r_call (r_cons rfl (r_cons rfl (r_cons (r_fA (r_cons rfl (r_cons rfl rfl)) rfl) rfl))) hh)) (r_seq (r_set (r_f1 (r_f2 rfl rfl i0) rfl)) (r_seq (r_ifF (r_cE (r_f2 (r_f2 rfl rfl i1) rfl ((eq_ii _ _).trans (bl_f hz)))) rfl) p3)))⟩
noncomputable def lastS (z : Str) : Option Nat := z.cps.toList.getLast?
theorem ren_turn {d0 d1 o7 o8 : Option D} {O : D} {ks ks' : List Kd} {k : Nat} {s0 : Int} {m : List Int} {x : Kd} (hx : ks[k]? = some x) (h0 : gIx O (.int 0) = some (.int s0)) (hm : gSl O (some (4 * (k : Int) + 1)) (some (4 * (k : Int) + 5)) = some (iD m)) (hml : m.length = 4)
    (b0 : 0 ≤ m.getD 0 0 ∧ m.getD 0 0 < 8) (b1 : 0 ≤ m.getD 1 0 ∧ m.getD 1 0 < 26) (b2 : 0 ≤ m.getD 2 0 ∧ m.getD 2 0 < 26) (b3 : 0 ≤ m.getD 3 0 ∧ m.getD 3 0 < 26) (hl : ks'.length ≤ 1000) :
    ∃ (z : Str) (o7' o8' : Option D), nmOk z = true ∧ lastS z = some (97 + ((s0 + 3 * (k : Int)) % 26).toNat) ∧ l__law_renamed_4 [d0, d1, some (tD ks), some (.str az), some O, some (tD ks'), some (.int (k : Int)), o7, o8] = .ok (.nx [d0, d1, some (tD ks), some (.str az), some O, some (tD (ks' ++ [⟨z, x.w, x.wo, x.al⟩])), some (.int (k : Int)), o7', o8']) := by
  have im : ∀ j : Nat, j < 4 → gIx (iD m) (.int (j : Int)) = some (.int (m.getD j 0)) := fun j hj => ix_ints rfl (by omega)
  have m4 : ∀ o7 o8 : Option D, f2 gMul (fC (.int 4)) (fV 6) [d0, d1, some (tD ks), some (.str az), some O, some (tD ks'), some (.int (k : Int)), o7, o8] = .ok (.int (4 * (k : Int))) := fun _ _ => r_f2 rfl rfl (mulS (by decide) (by decide))
  have i1 := az_at b1.1 b1.2
  have i2 := az_at b2.1 b2.2
  have i3 := az_at b3.1 b3.2
  have me := mod_bd (x := s0 + 3 * (k : Int)) (m := 26) (by decide)
  have ie := az_at me.1 me.2
  obtain ⟨c1, hc1⟩ : ∃ c, c = 97 + (m.getD 1 0).toNat := ⟨_, rfl⟩
  obtain ⟨c2, hc2⟩ : ∃ c, c = 97 + (m.getD 2 0).toNat := ⟨_, rfl⟩
  obtain ⟨c3, hc3⟩ : ∃ c, c = 97 + (m.getD 3 0).toNat := ⟨_, rfl⟩
  obtain ⟨ce, hce⟩ : ∃ c, c = 97 + ((s0 + 3 * (k : Int)) % 26).toNat := ⟨_, rfl⟩
  rw [← hc1] at i1
  rw [← hc2] at i2
  rw [← hc3] at i3
  rw [← hce] at ie ⊢
  obtain ⟨b, hb⟩ := Int.eq_ofNat_of_zero_le b0.1
  obtain ⟨W, hW⟩ : ∃ W : Str, W = (⟨#[c1]⟩ : Str) ++ ⟨(List.replicate 2 c2).toArray⟩ ++ ⟨(List.replicate 4 c3).toArray⟩ := ⟨_, rfl⟩
  have hWl : W.cps.toList = c1 :: (List.replicate 2 c2 ++ List.replicate 4 c3) := by rw [hW, app_s, app_s]; simp
  have hWa : ∀ c ∈ W.cps.toList, 97 ≤ c ∧ c ≤ 122 := fun c hc => by
    rw [hWl] at hc
    rcases List.mem_cons.mp hc with rfl | hc
    · omega
    · rcases List.mem_append.mp hc with hc | hc
      · rw [List.eq_of_mem_replicate hc]; omega
      · rw [List.eq_of_mem_replicate hc]; omega
  have pW : plain 1000 W = true := by
    have e : W = ⟨W.cps.toList.toArray⟩ := s_ext (by simp)
    rw [e]
    refine plain_of (by rw [hWl]; simp) fun c hc => ?_
    have := hWa c hc
    omega
  have hcut : (strCut W none (some (b : Int))).cps.toList = W.cps.toList.take b := cut_to_s W b
  have hcl : (strCut W none (some (b : Int))).length ≤ 7 := by
    have : (strCut W none (some (b : Int))).cps.toList.length ≤ 7 := by rw [hcut, List.length_take, hWl]; simp; omega
    simpa [Str.length] using this
  have hcs : (strCut W none (some (b : Int)) ++ (⟨#[ce]⟩ : Str)).cps.toList = W.cps.toList.take b ++ [ce] := by rw [app_s, hcut]
  have hnm : nmOk (strCut W none (some (b : Int)) ++ (⟨#[ce]⟩ : Str)) = true := by
    unfold nmOk
    rw [Bool.and_eq_true]
    have e1 : (⟨#[ce]⟩ : Str).length = 1 := rfl
    refine ⟨decide_eq_true (by rw [len_app, e1]; omega), List.all_eq_true.mpr fun c hc => decide_eq_true ?_⟩
    rw [hcs] at hc
    rcases List.mem_append.mp hc with hc | hc
    · exact hWa c (List.mem_of_mem_take hc)
    · rw [List.mem_singleton.mp hc]
      omega
  have ad : ∀ a b : Str, a.length ≤ 100 → b.length ≤ 100 → gAdd (.str a) (.str b) = some (.str (a ++ b)) := fun a b ha hb => by
    show (if a.length + b.length ≤ lim then _ else _) = _
    rw [if_pos (by show _ ≤ 1000000; omega)]
  have gx : gIx (tD ks) (.int (k : Int)) = some (kD x) := ix_l (k := k) rfl (by rw [List.getElem?_map, hx]; rfl)
  refine ⟨strCut W none (some (b : Int)) ++ (⟨#[ce]⟩ : Str), some (iD m), some (.str (strCut W none (some (b : Int)) ++ (⟨#[ce]⟩ : Str))), hnm, ?_, ?_⟩
  · unfold lastS
    rw [hcs]
    simp
  refine r_seq (r_set (r_sl rfl (r_oSome (r_f2 (m4 _ _) rfl rfl)) (r_oSome (r_f2 (m4 _ _) rfl rfl)) hm)) ?_
  refine r_seq (r_set (d := .str W) (r_f2 (r_f2 (r_f2 rfl (r_f2 rfl rfl (im 1 (by decide))) i1) (r_f2 (r_f2 rfl (r_f2 rfl rfl (im 2 (by decide))) i2) rfl (mul_s (n := 2) (by decide) (by decide))) (ad _ _ (by show 1 ≤ 100; decide) (by show 2 ≤ 100; decide))) (r_f2 (r_f2 rfl (r_f2 rfl rfl (im 3 (by decide))) i3) rfl (mul_s (n := 4) (by decide) (by decide))) ((ad _ _ (by rw [len_app]; show 1 + 2 ≤ 100; decide) (by show 4 ≤ 100; decide)).trans (by rw [hW])))) ?_
  refine r_seq (r_set (r_f2 (r_sl rfl rfl (r_oSome (r_f2 rfl rfl ((im 0 (by decide)).trans (by rw [hb])))) (sl_str _ _ pW (by decide))) (r_f2 rfl (r_f2 (r_f2 (r_f2 rfl rfl h0) (r_f2 rfl rfl (mulS (by decide) (by decide))) rfl) rfl (mod_ii (by decide))) ie) (ad _ _ (by omega) (by show 1 ≤ 100; decide)))) ?_
  refine Eq.trans (r_app (xs := ks'.map kD) (d := kD ⟨strCut W none (some (b : Int)) ++ (⟨#[ce]⟩ : Str), x.w, x.wo, x.al⟩) rfl (r_fA (r_cons (r_f1 rfl rfl) (r_cons (r_f1 (r_f2 (r_f2 rfl rfl gx) rfl (kD_1 x)) rfl) (r_cons (r_f1 (r_f2 (r_f2 rfl rfl gx) rfl (kD_2 x)) rfl) (r_cons (r_f1 (r_f2 (r_f2 rfl rfl gx) rfl (kD_3 x)) rfl) rfl)))) rfl) (by rw [List.length_map]; exact Nat.lt_of_le_of_lt hl (by decide))) ?_
  simp [tD]
theorem renamed_ok (ns : List Int) (hn : ns.length ≤ 63) {ks : List Kd} (hl : ks.length ≤ 8) (hk : ∀ k ∈ ks, KindOk k) : ∃ ks' : List Kd, ks'.length ≤ 8 ∧ (∀ k ∈ ks', KW k) ∧ (ks'.map (·.name)).Nodup ∧ F__law_renamed [.scr ns, .int 3, tD ks] = .ok (tD ks') := by
  obtain ⟨os, hos, R⟩ := row_ok ns hn (i := 3) (by decide) (by decide) ([26] ++ (List.replicate 8 [8, 26, 26, 26]).flatten) (by decide) (by decide)
  have hol : os.length = 33 := R.len
  have h0 : gIx (iD os) (.int 0) = some (.int (os.getD 0 0)) := ix_ints (k := 0) rfl (by omega)
  have bm : ∀ k, k < 8 → ∀ j, j < 4 → ([26] ++ (List.replicate 8 ([8, 26, 26, 26] : List Int)).flatten).getD (4 * k + 1 + j) 0 = ([8, 26, 26, 26] : List Int).getD j 0 := by decide
  have bd : ∀ k j : Nat, k < 8 → j < 4 → 0 ≤ os.getD (4 * k + 1 + j) 0 ∧ os.getD (4 * k + 1 + j) 0 < ([8, 26, 26, 26] : List Int).getD j 0 := fun k j hk hj => by
    have := R.at_ (4 * k + 1 + j) (by show _ < 33; omega)
    rw [bm k hk j hj] at this
    exact this
  have key : V (forD (bName 6) l__law_renamed_4 (rngL 0 ks.length) [some (.scr ns), some (.int 3), some (tD ks), some (.str az), some (iD os), some (tD []), none, none, none]) (fun fl => ∃ (ks' : List Kd) (b c d : Option D), ks'.length = ks.length ∧ (∀ x ∈ ks', KW x) ∧ (∀ (j : Nat) (x : Kd), ks'[j]? = some x → lastS x.name = some (97 + ((os.getD 0 0 + 3 * (j : Int)) % 26).toNat)) ∧ fl = .nx [some (.scr ns), some (.int 3), some (tD ks), some (.str az), some (iD os), some (tD ks'), b, c, d]) := by
    refine V_rng0 (P := fun k ρ => ∃ (ks' : List Kd) (b c d : Option D), ks'.length = k ∧ (∀ x ∈ ks', KW x) ∧ (∀ (j : Nat) (x : Kd), ks'[j]? = some x → lastS x.name = some (97 + ((os.getD 0 0 + 3 * (j : Int)) % 26).toNat)) ∧ ρ = [some (.scr ns), some (.int 3), some (tD ks), some (.str az), some (iD os), some (tD ks'), b, c, d]) ⟨[], none, none, none, rfl, (fun _ z => nomatch z), (fun j x z => by simp at z), rfl⟩ (fun k ρ hk' q => ?_) (fun ρ q => ?_)
    · obtain ⟨ks', b, c, d, e1, e2, e3, rfl⟩ := q
      obtain ⟨s1, s2, s3⟩ := sl4 (os := os) (k := k) (a := 1) (by omega)
      have s1 : gSl (iD os) (some (4 * (k : Int) + 1)) (some (4 * (k : Int) + 5)) = some (iD ((os.drop (4 * k + 1)).take 4)) := by
        have := s1
        rw [show 4 * (k : Int) + ((1 : Nat) : Int) + 4 = 4 * (k : Int) + 5 by omega] at this
        exact this
      have hx : ks[k]? = some ks[k] := List.getElem?_eq_getElem hk'
      have ko := hk ks[k] (List.getElem_mem hk')
      obtain ⟨z, b', c', hz, hlast, t⟩ := ren_turn (d0 := some (.scr ns)) (d1 := some (.int 3)) (o7 := c) (o8 := d) (ks' := ks') hx h0 s1 s2 (by rw [s3 0 (by decide)]; exact bd k 0 (by omega) (by decide)) (by rw [s3 1 (by decide)]; exact bd k 1 (by omega) (by decide)) (by rw [s3 2 (by decide)]; exact bd k 2 (by omega) (by decide)) (by rw [s3 3 (by decide)]; exact bd k 3 (by omega) (by decide)) (by omega)
      refine V.of t ⟨ks' ++ [⟨z, ks[k].w, ks[k].wo, ks[k].al⟩], _, _, _, by rw [List.length_append, e1]; rfl, fun x hx => ?_, fun j x hj => ?_, rfl⟩
      · rcases List.mem_append.mp hx with q | q
        · exact e2 x q
        · rw [List.mem_singleton.mp q]
          exact ⟨hz, decide_eq_true ⟨⟨ko.w1, ko.w2⟩, ⟨ko.o1, ko.o2⟩, ko.a1, by have := ko.a2; show ks[k].al ≤ _; omega⟩⟩
      · by_cases hjk : j < k
        · rw [List.getElem?_append_left (by omega)] at hj
          exact e3 j x hj
        · rw [List.getElem?_append_right (by omega)] at hj
          have : j - ks'.length = 0 := by
            have := (List.getElem?_eq_some_iff.mp hj).1
            simpa using this
          have hjk2 : j = k := by omega
          rw [this] at hj
          have hx2 : (⟨z, ks[k].w, ks[k].wo, ks[k].al⟩ : Kd) = x := by simpa using hj
          rw [← hx2, hjk2]
          exact hlast
    · obtain ⟨ks', b, c, d, e1, e2, e3, rfl⟩ := q
      exact ⟨ks', b, c, d, e1, e2, e3, rfl⟩
  obtain ⟨fl, h1, ks', b, c, d, e1, e2, e3, rfl⟩ := key.ex
  refine ⟨ks', by omega, e2, ?_, ?_⟩
  · refine List.pairwise_iff_getElem.mpr fun i j hi hj hij => ?_
    rw [List.length_map] at hi hj
    rw [List.getElem_map, List.getElem_map]
    intro z
    have li := e3 i _ (List.getElem?_eq_getElem (show i < ks'.length by omega))
    have lj := e3 j _ (List.getElem?_eq_getElem hj)
    rw [z, lj] at li
    have := Option.some.inj li
    omega
  · exact r_run (r_seq (r_set rfl) (r_seq (r_set (r_call (r_cons rfl (r_cons rfl (r_cons (r_f2 (r_fA (r_cons rfl rfl) rfl) (r_f2 (r_fA (xs := ([8, 26, 26, 26] : List Int).map D.int) (r_cons rfl (r_cons rfl (r_cons rfl (r_cons rfl rfl)))) rfl) rfl (mul_rep3 (by decide) (by decide) (by decide))) (add_ints (xs := [26]) (by decide))) rfl))) hos)) (r_seq (r_set rfl) (r_seq (r_for ((r_rng (j := (ks.length : Int)) (r_cons (r_fA (r_cons rfl rfl) (show gLen [tD ks] = some (.int ks.length) by simp [tD, gLen])) rfl) (by omega)).trans (by rw [Int.toNat_natCast])) h1) (r_ret rfl)))))
theorem tab_same : G__law_table = F__law_table := rfl
theorem line_same : F__law_line = F_show_numbers := rfl
theorem law_turn {S : D} {is fs : List Int} {ks : List Kd} {o4 o5 o6 o7 : Option D} (hl : is.length ≤ 300) (hi : ∀ i ∈ is, i.natAbs < 10 ^ 20) (hfl : fs.length ≤ 300) (hf : ∀ i ∈ fs, i.natAbs < 10 ^ 60) (hkl : ks.length ≤ 8) (hk : ∀ k ∈ ks, KW k) (nd : (ks.map (·.name)).Nodup) :
    ∃ o5' o6' o7', l_law_4 [some S, some (iD is), some (tD ks), some (iD fs), o4, o5, o6, o7] = .ok (.nx [some S, some (iD is), some (tD ks), some (iD fs), o4, o5', o6', o7']) := by
  have n1 := num_line (k := 20) (is := is) (by decide) (by decide) (by omega) hi
  have n2 := num_line (k := 60) (is := fs) (by decide) (by decide) (by omega) hf
  have t1 := show_table_ok hkl hk
  have t2 := table_line_ok hkl hk
  have r1 := read_numbers_ok (is := is) (by omega) hi
  have r2 := read_table_ok hkl hk nd
  have q1 := is_list_ok (is := is) (by omega)
  have q2 := is_table_ok hkl
  have l1 := list_ints is
  have l2 : gList [tD ks] = some (tD ks) := by simp [tD, gList]
  have l3 := list_ints fs
  have m1 : F__law_line [iD is] = .ok (.str (nuS is)) := by rw [line_same]; exact n1
  have m2 : F__law_line [iD fs] = .ok (.str (nuS fs)) := by rw [line_same]; exact n2
  have ne : gNe (.lst [iD is, tD ks, iD fs]) (.lst [iD is, tD ks, iD fs]) = some (.bl false) := neX (by
    have := dep_iD is
    have := dep_iD fs
    have := depT ks
    simp only [dep, depA]
    omega)
  have nsS : ∀ z : Str, gNe (.str z) (.str z) = some (.bl false) := fun z => (ne_ss _ _).trans (by simp)
  have app : ∀ o4 o5 o7 : Option D, sApp 6 (fC (.int 1)) [some S, some (iD is), some (tD ks), some (iD fs), o4, o5, some (iD is), o7] = .ok (.nx [some S, some (iD is), some (tD ks), some (iD fs), o4, o5, some (.lst (is.map D.int ++ [.int 1])), o7]) := fun _ _ _ => r_app (xs := is.map D.int) rfl rfl (by rw [List.length_map]; exact Nat.lt_of_le_of_lt hl (by decide))
  have clr : ∀ o4 o5 o6 : Option D, sClear 7 [some S, some (iD is), some (tD ks), some (iD fs), o4, o5, o6, some (tD ks)] = .ok (.nx [some S, some (iD is), some (tD ks), some (iD fs), o4, o5, o6, some (.lst [])]) := fun _ _ _ => rfl
  obtain ⟨P, hP⟩ : ∃ P, P = iD is := ⟨_, rfl⟩
  obtain ⟨Q, hQ⟩ : ∃ Q, Q = iD fs := ⟨_, rfl⟩
  obtain ⟨T, hT⟩ : ∃ T, T = tD ks := ⟨_, rfl⟩
  rw [← hP] at n1 r1 q1 l1 m1 ne app clr ⊢
  rw [← hQ] at n2 l3 m2 ne app clr ⊢
  rw [← hT] at t1 t2 r2 q2 l2 ne app clr ⊢
  refine ⟨some (.lst [P, T, Q]), some (.lst (is.map D.int ++ [.int 1])), some (.lst []), ?_⟩
  refine r_seq (r_set (r_fA (r_cons (r_fA (r_cons rfl rfl) l1) (r_cons (r_fA (r_cons rfl rfl) l2) (r_cons (r_fA (r_cons rfl rfl) l3) rfl))) rfl)) ?_
  refine r_seq (r_ifF (r_cOrF (r_cE (r_f2 (r_call (r_cons (r_f2 rfl rfl rfl) rfl) n1) (r_call (r_cons rfl rfl) m1) (nsS _))) (r_cE (r_f2 (r_call (r_cons (r_f2 rfl rfl rfl) rfl) n2) (r_call (r_cons rfl rfl) m2) (nsS _)))) rfl) ?_
  refine r_seq (r_ifF (r_cOrF (r_cE (r_f2 (r_call (r_cons (r_f2 rfl rfl rfl) rfl) t1) (r_call (r_cons rfl rfl) t2) (nsS _))) (r_cE (r_f2 rfl (r_fA (r_cons rfl (r_cons rfl (r_cons rfl rfl))) rfl) ne))) rfl) ?_
  refine r_seq (r_set (r_call (r_cons (r_call (r_cons rfl rfl) m1) rfl) r1)) (r_seq (r_set (r_call (r_cons (r_call (r_cons rfl rfl) t2) rfl) r2)) ?_)
  exact r_seq (r_ifF (r_cOrF (r_cNot (b := true) (r_cE (r_call (r_cons rfl (r_cons rfl rfl)) q1))) (r_cNot (b := true) (r_cE (r_call (r_cons rfl (r_cons rfl rfl)) q2)))) rfl) (r_seq (app _ _ _) (clr _ _ _))
theorem law91_true (ns : List Int) (hn : ns.length ≤ 63) : F_law [.scr ns] = .ok (.bl true) := by
  obtain ⟨is, hl, hi, his⟩ := numbers_ok ns hn
  obtain ⟨k0, hk0, hk1, ht⟩ := table_ok ns hn (i := 2) (m := 8) (by decide) (by decide) (by decide) (by decide)
  rw [← tab_same] at hk0
  obtain ⟨ks, hkl, hk, nd, hks⟩ := renamed_ok ns hn (ks := k0) (by omega) ht.ok
  have hff : ∀ i ∈ is.map (fun i => i * 100000000000000000000000000000000000000 - 1), i.natAbs < 10 ^ 60 := fun q hq => by
    obtain ⟨i, hi', rfl⟩ := List.mem_map.mp hq
    have h1 := hi i hi'
    have e20 : (10 : Nat) ^ 20 = 100000000000000000000 := by decide
    have e60 : (10 : Nat) ^ 60 = 1000000000000000000000000000000000000000000000000000000000000 := by decide
    rw [e20] at h1
    rw [e60]
    omega
  obtain ⟨fs, hfs⟩ : ∃ fs, fs = is.map fun i => i * 100000000000000000000000000000000000000 - 1 := ⟨_, rfl⟩
  have hfl : fs.length ≤ 300 := by rw [hfs, List.length_map]; exact hl
  rw [← hfs] at hff
  have far : fComp 8 1 (jList (fV 1)) (bName 8) cYes (f2 gSub (f2 gMulB (fV 8) (f2 gPow (fC (.int 10)) (fC (.int 38)))) (fC (.int 1))) [some (.scr ns), some (iD is), some (tD ks), none, none, none, none, none] = .ok (iD fs) := by
    have e : iD fs = .lst (is.map fun i => .int (i * 100000000000000000000000000000000000000 - 1)) := by
      rw [hfs, iD, List.map_map]
      rfl
    rw [e]
    refine r_comp rfl (r_jList (xs := is.map D.int) rfl (by rw [List.length_map]; exact Nat.le_trans hl (by decide))) (comp1' rfl fun i hi' => ?_)
    have h1 := hi i hi'
    have mb : gMulB (.int i) (.int 100000000000000000000000000000000000000) = some (.int (i * 100000000000000000000000000000000000000)) := by
      show (if i.natAbs < 2 ^ 4000 ∧ (100000000000000000000000000000000000000 : Int).natAbs < 2 ^ 4000 then _ else _) = _
      rw [if_pos ⟨Nat.lt_of_lt_of_le h1 (Nat.le_trans (show 10 ^ 20 ≤ 2 ^ 100 by decide) (Nat.pow_le_pow_right (by decide) (by decide))), Nat.lt_of_lt_of_le (show (100000000000000000000000000000000000000 : Int).natAbs < 2 ^ 200 by decide) (Nat.pow_le_pow_right (by decide) (by decide))⟩]
    exact r_f2 (r_f2 rfl (r_f2 rfl rfl pow10_38) mb) rfl rfl
  obtain ⟨a5, a6, a7, t1⟩ := law_turn (S := .scr ns) (is := is) (fs := fs) (ks := ks) (o4 := some (.int (0 + ((0 : Nat) : Int)))) (o5 := none) (o6 := none) (o7 := none) hl hi hfl hff hkl hk nd
  obtain ⟨b5, b6, b7, t2⟩ := law_turn (S := .scr ns) (is := is) (fs := fs) (ks := ks) (o4 := some (.int (0 + ((1 : Nat) : Int)))) (o5 := a5) (o6 := a6) (o7 := a7) hl hi hfl hff hkl hk nd
  have lp : forD (bName 4) l_law_4 (rngL 0 2) [some (.scr ns), some (iD is), some (tD ks), some (iD fs), none, none, none, none] = .ok (.nx [some (.scr ns), some (iD is), some (tD ks), some (iD fs), some (.int (0 + ((1 : Nat) : Int))), b5, b6, b7]) := by
    rw [rg_of, rg_cons, forD_step (ρ1 := [some (.scr ns), some (iD is), some (tD ks), some (iD fs), some (.int (0 + ((0 : Nat) : Int))), none, none, none]) rfl, t1]
    show forD (bName 4) l_law_4 (rg (0 + 1) 1) [some (.scr ns), some (iD is), some (tD ks), some (iD fs), some (.int (0 + ((0 : Nat) : Int))), a5, a6, a7] = _
    rw [rg_cons, forD_step (ρ1 := [some (.scr ns), some (iD is), some (tD ks), some (iD fs), some (.int (0 + ((1 : Nat) : Int))), a5, a6, a7]) rfl, t2]
    rfl
  have r0 := read_numbers_ok (is := []) (by decide) (fun _ z => nomatch z)
  have r1 := read_table_ok (ks := []) (by decide) (fun _ z => nomatch z) List.nodup_nil
  have e0 : gEq (iD []) (.lst []) = some (.bl true) := gEq_self (by decide)
  have e1 : gEq (tD []) (.lst []) = some (.bl true) := gEq_self (by decide)
  exact r_run (r_seq (r_set (r_call (r_cons rfl (r_cons rfl rfl)) his)) (r_seq (r_set (r_call (r_cons rfl (r_cons rfl (r_cons (r_call (r_cons rfl (r_cons rfl (r_cons rfl rfl))) hk0) rfl))) hks)) (r_seq (r_set far) (r_seq (r_for (r_rng (j := 2) rfl (by decide)) lp) (r_ret (r_fAndT (r_f2 (r_call (r_cons rfl rfl) r0) rfl e0) (r_f2 (r_call (r_cons rfl rfl) r1) rfl e1)))))))
end Dl

set_option maxHeartbeats 4000000
namespace K91
open PySem PySem.Spec PyProof.Rows L2
open Dl (D R FE FT FA FO FS FI FB Fl)
noncomputable def top (i : Nat) : Stmt := PySem.Challenge.pw_selvage_k91_numbers_and_tables.main.body.getD i (.Pass ⟨0, 0, 0, 0⟩)
noncomputable abbrev sis_name : Stmt := top 9
noncomputable abbrev sis_kind : Stmt := top 10
noncomputable abbrev sfault : Stmt := top 11
noncomputable abbrev sshow_numbers : Stmt := top 15
noncomputable abbrev sshow_table : Stmt := top 16
noncomputable abbrev sis_number : Stmt := top 17
noncomputable abbrev sread_number : Stmt := top 18
noncomputable abbrev sread_name : Stmt := top 19
noncomputable abbrev sread_numbers : Stmt := top 20
noncomputable abbrev sread_kind : Stmt := top 21
noncomputable abbrev sread_table : Stmt := top 22
noncomputable abbrev s_law_cell : Stmt := top 24
noncomputable abbrev s_law_mix : Stmt := top 25
noncomputable abbrev s_law_row : Stmt := top 26
noncomputable abbrev s_law_table : Stmt := top 27
noncomputable abbrev s_law_is_whole : Stmt := top 28
noncomputable abbrev s_law_line : Stmt := top 29
noncomputable abbrev s_law_table_line : Stmt := top 30
noncomputable abbrev s_law_renamed : Stmt := top 31
noncomputable abbrev s_law_numbers : Stmt := top 32
noncomputable abbrev s_law_is_list : Stmt := top 33
noncomputable abbrev s_law_is_table : Stmt := top 34
noncomputable abbrev slaw : Stmt := top 35
theorem scis_name : FnScope ["text"] ["text"] (defScope sis_name) := ⟨rfl, rfl, rfl, by decide +kernel, rfl, by decide +kernel, by decide +kernel⟩
theorem scis_kind : FnScope ["name", "width", "worth", "allowed"] ["name", "width", "worth", "allowed"] (defScope sis_kind) := ⟨rfl, rfl, rfl, by decide +kernel, rfl, by decide +kernel, by decide +kernel⟩
theorem scfault : FnScope ["table", "earlier", "place", "kind", "name"] ["table"] (defScope sfault) := ⟨rfl, rfl, rfl, by decide +kernel, rfl, by decide +kernel, by decide +kernel⟩
theorem scshow_numbers : FnScope ["some"] ["some"] (defScope sshow_numbers) := ⟨rfl, rfl, rfl, by decide +kernel, rfl, by decide +kernel, by decide +kernel⟩
theorem scshow_table : FnScope ["table"] ["table"] (defScope sshow_table) := ⟨rfl, rfl, rfl, by decide +kernel, rfl, by decide +kernel, by decide +kernel⟩
theorem scis_number : FnScope ["word", "figures"] ["word"] (defScope sis_number) := ⟨rfl, rfl, rfl, by decide +kernel, rfl, by decide +kernel, by decide +kernel⟩
theorem scread_number : FnScope ["word"] ["word"] (defScope sread_number) := ⟨rfl, rfl, rfl, by decide +kernel, rfl, by decide +kernel, by decide +kernel⟩
theorem scread_name : FnScope ["word"] ["word"] (defScope sread_name) := ⟨rfl, rfl, rfl, by decide +kernel, rfl, by decide +kernel, by decide +kernel⟩
theorem scread_numbers : FnScope ["line"] ["line"] (defScope sread_numbers) := ⟨rfl, rfl, rfl, by decide +kernel, rfl, by decide +kernel, by decide +kernel⟩
theorem scread_kind : FnScope ["text", "words"] ["text"] (defScope sread_kind) := ⟨rfl, rfl, rfl, by decide +kernel, rfl, by decide +kernel, by decide +kernel⟩
theorem scread_table : FnScope ["line", "table"] ["line"] (defScope sread_table) := ⟨rfl, rfl, rfl, by decide +kernel, rfl, by decide +kernel, by decide +kernel⟩
theorem sc_law_cell : FnScope ["_law_script", "_law_place", "_law_seed", "_law_cell_here"] ["_law_script", "_law_place"] (defScope s_law_cell) := ⟨rfl, rfl, rfl, by decide +kernel, rfl, by decide +kernel, by decide +kernel⟩
theorem sc_law_mix : FnScope ["_law_cell_here", "_law_k", "_law_one", "_law_two"] ["_law_cell_here", "_law_k"] (defScope s_law_mix) := ⟨rfl, rfl, rfl, by decide +kernel, rfl, by decide +kernel, by decide +kernel⟩
theorem sc_law_row : FnScope ["_law_script", "_law_place", "_law_sizes", "_law_cell_here", "_law_left", "_law_some", "_law_k", "_law_other"] ["_law_script", "_law_place", "_law_sizes"] (defScope s_law_row) := ⟨rfl, rfl, rfl, by decide +kernel, rfl, by decide +kernel, by decide +kernel⟩
theorem sc_law_table : FnScope ["_law_script", "_law_place", "_law_most", "_law_pool", "_law_some", "_law_flaw", "_law_gain", "_law_table_here", "_law_k", "_law_at", "_law_width", "_law_worth", "_law_allowed", "_law_name"] ["_law_script", "_law_place", "_law_most"] (defScope s_law_table) := ⟨rfl, rfl, rfl, by decide +kernel, rfl, by decide +kernel, by decide +kernel⟩
theorem sc_law_is_whole : FnScope ["_law_one"] ["_law_one"] (defScope s_law_is_whole) := ⟨rfl, rfl, rfl, by decide +kernel, rfl, by decide +kernel, by decide +kernel⟩
theorem sc_law_line : FnScope ["_law_some"] ["_law_some"] (defScope s_law_line) := ⟨rfl, rfl, rfl, by decide +kernel, rfl, by decide +kernel, by decide +kernel⟩
theorem sc_law_table_line : FnScope ["_law_table_here", "_law_parts", "_law_name", "_law_width", "_law_worth", "_law_allowed"] ["_law_table_here"] (defScope s_law_table_line) := ⟨rfl, rfl, rfl, by decide +kernel, rfl, by decide +kernel, by decide +kernel⟩
theorem sc_law_renamed : FnScope ["_law_script", "_law_place", "_law_table_here", "_law_letters", "_law_some", "_law_found", "_law_k", "_law_mine", "_law_name"] ["_law_script", "_law_place", "_law_table_here"] (defScope s_law_renamed) := ⟨rfl, rfl, rfl, by decide +kernel, rfl, by decide +kernel, by decide +kernel⟩
theorem sc_law_numbers : FnScope ["_law_script", "_law_place", "_law_head", "_law_count", "_law_some", "_law_found", "_law_k", "_law_mine", "_law_number"] ["_law_script", "_law_place"] (defScope s_law_numbers) := ⟨rfl, rfl, rfl, by decide +kernel, rfl, by decide +kernel, by decide +kernel⟩
theorem sc_law_is_list : FnScope ["_law_found", "_law_due"] ["_law_found", "_law_due"] (defScope s_law_is_list) := ⟨rfl, rfl, rfl, by decide +kernel, rfl, by decide +kernel, by decide +kernel⟩
theorem sc_law_is_table : FnScope ["_law_found", "_law_due", "_law_kind"] ["_law_found", "_law_due"] (defScope s_law_is_table) := ⟨rfl, rfl, rfl, by decide +kernel, rfl, by decide +kernel, by decide +kernel⟩
theorem sclaw : FnScope ["_law_script", "_law_some", "_law_table_here", "_law_far", "_law_turn", "_law_handed", "_law_found", "_law_kinds"] ["_law_script"] (defScope slaw) := ⟨rfl, rfl, rfl, by decide +kernel, rfl, by decide +kernel, by decide +kernel⟩
structure Txt (mg : Str → Option Value) : Prop where
  all : mg "all" = none
  len : mg "len" = none
  enumerate : mg "enumerate" = none
  str : mg "str" = none
  any : mg "any" = none
  int : mg "int" = none
  range : mg "range" = none
  min : mg "min" = none
  isinstance : mg "isinstance" = none
  bool : mg "bool" = none
  list : mg "list" = none
  tuple : mg "tuple" = none
  MOST_KINDS : ∃ t, mg "MOST_KINDS" = some (.int 8 t)
  LONGEST_NAME : ∃ t, mg "LONGEST_NAME" = some (.int 8 t)
  GREATEST_WIDTH : ∃ t, mg "GREATEST_WIDTH" = some (.int 200 t)
  GREATEST_WORTH : ∃ t, mg "GREATEST_WORTH" = some (.int 1000000000000000000 t)
  GREATEST_ALLOWED : ∃ t, mg "GREATEST_ALLOWED" = some (.int 999999999999999999 t)
  NONE : ∃ t, mg "NONE" = some (.str ("-" : Str) t)
  MOST_FIGURES : ∃ t, mg "MOST_FIGURES" = some (.int 20 t)

section
variable {P : Program} {w : World} {K : PySem.W.Frag} {C : String → Addr} {mg : Str → Option Value} {base : Heap} {f : Addr} {fd : FuncData}
theorem okis_name (F : Fun K "is_name" "is_name" sis_name f fd) (T : Txt mg) : FnOk P w K mg base CX0 7 f fd ["text"] (spD K C 1 2 Dl.F_is_name) := by
  refine F.okC scis_name (Γ' := []) (Δ' := []) rfl fun cdv A outer s H E hr => ?_
  have sc := scis_name
  have hu : _ + 64 < cLine := hr.units
  exact ⟨_, (css_one (cs_ret (ce_and (ce_chain op_le op_le gok_le gok_le bl_le ce_int (ce_callB (r := rLenA K) call_lenA gak_len rfl T.len PySem.boot_len (ca_cons (ce_v 0) ca_nil star_name) (he := star_name)) (ce_glob rfl T.LONGEST_NAME.choose_spec ⟨_, rfl⟩)) (ce_one (ce_callB (r := rAllL K) (call_allL rfl) gak_all rfl T.all PyProof.Rows.boot_all (ca_cons (ce_comp (n := 1) (defScope sis_name) ["text"] ["text"] ["sign"] ⟨rfl, by decide +kernel, by decide +kernel, by decide +kernel, by decide +kernel, by decide +kernel, rfl, by decide +kernel⟩ (ci_str (ce_v 0)) (fun _ _ _ _ _ => (cb_name 1 (hN := (by decide +kernel : List.Nodup (["text", "sign"] : List Str))))) (fun _ _ _ _ _ => cif_nil) (fun _ _ _ _ _ => (ce_chain op_leS op_leS gok_leS gok_leS bl_leS ce_str (ce_v 1 (hv := Or.inl rfl)) ce_str))) ca_nil star_comp) (he := star_comp))))))⟩
theorem okshow_numbers (F : Fun K "show_numbers" "show_numbers" sshow_numbers f fd) (T : Txt mg) : FnOk P w K mg base CX0 7 f fd ["some"] (spD K C 1 2 Dl.F_show_numbers) := by
  refine F.okC scshow_numbers (Γ' := []) (Δ' := []) rfl fun cdv A outer s H E hr => ?_
  have sc := scshow_numbers
  have hu : _ + 64 < cLine := hr.units
  exact ⟨_, (css_cons [] [] (cs_if (ct_cmp (r := rEqA K) (op_eqA hu) gok_eq (ce_callB (r := rLenA K) call_lenA gak_len rfl T.len PySem.boot_len (ca_cons (ce_v 0) ca_nil star_name) (he := star_name)) ce_int (nomark _)) (css_one (cs_ret (ce_globS rfl T.NONE.choose_spec ⟨_, rfl⟩))) css_nil)
      (css_one (cs_ret (ce_join K ce_str (ce_comp (n := 1) (defScope sshow_numbers) ["some"] ["some"] ["number"] ⟨rfl, by decide +kernel, by decide +kernel, by decide +kernel, by decide +kernel, by decide +kernel, rfl, by decide +kernel⟩ (ci_list (ce_v 0)) (fun _ _ _ _ _ => (cb_name 1 (hN := (by decide +kernel : List.Nodup (["some", "number"] : List Str))))) (fun _ _ _ _ _ => cif_nil) (fun _ _ _ _ _ => (ce_callTy call_strI gak_str rfl T.str PyProof.Rows.boot_str (ca_cons (ce_v 1 (hv := Or.inl rfl)) ca_nil star_name) (he := star_name)))) star_comp))))⟩
theorem okshow_table (F : Fun K "show_table" "show_table" sshow_table f fd) (T : Txt mg) : FnOk P w K mg base CX0 7 f fd ["table"] (spD K C 1 2 Dl.F_show_table) := by
  refine F.okC scshow_table (Γ' := []) (Δ' := []) rfl fun cdv A outer s H E hr => ?_
  have sc := scshow_table
  have hu : _ + 64 < cLine := hr.units
  exact ⟨_, (css_cons [] [] (cs_if (ct_cmp (r := rEqA K) (op_eqA hu) gok_eq (ce_callB (r := rLenA K) call_lenA gak_len rfl T.len PySem.boot_len (ca_cons (ce_v 0) ca_nil star_name) (he := star_name)) ce_int (nomark _)) (css_one (cs_ret (ce_globS rfl T.NONE.choose_spec ⟨_, rfl⟩))) css_nil)
      (css_one (cs_ret (ce_join K ce_str (ce_comp (n := 1) (defScope sshow_table) ["table"] ["table"] ["name", "width", "worth", "allowed"] ⟨rfl, by decide +kernel, by decide +kernel, by decide +kernel, by decide +kernel, by decide +kernel, rfl, by decide +kernel⟩ (ci_list (ce_v 0)) (fun _ _ _ _ _ => (cb_tup K (cbs_cons (cb_name 1 (hN := (by decide +kernel : List.Nodup (["table", "name", "width", "worth", "allowed"] : List Str)))) (cbs_cons (cb_name 2 (hN := (by decide +kernel : List.Nodup (["table", "name", "width", "worth", "allowed"] : List Str)))) (cbs_cons (cb_name 3 (hN := (by decide +kernel : List.Nodup (["table", "name", "width", "worth", "allowed"] : List Str)))) (cbs_cons (cb_name 4 (hN := (by decide +kernel : List.Nodup (["table", "name", "width", "worth", "allowed"] : List Str)))) cbs_nil)))))) (fun _ _ _ _ _ => cif_nil) (fun _ _ _ _ _ => (ce_js (cx_fv (ce_v 1 (hv := Or.inl rfl)) (cx_str (cx_fv (ce_v 2 (hv := Or.inl rfl)) (cx_str (cx_fv (ce_v 3 (hv := Or.inl rfl)) (cx_str (cx_fv (ce_v 4 (hv := Or.inl rfl)) cx_nil)))))))))) star_comp))))⟩
theorem okis_number (F : Fun K "is_number" "is_number" sis_number f fd) (T : Txt mg) : FnOk P w K mg base CX0 7 f fd ["word"] (spD K C 1 2 Dl.F_is_number) := by
  refine F.okC scis_number (Γ' := []) (Δ' := []) rfl fun cdv A outer s H E hr => ?_
  have sc := scis_number
  have hu : _ + 64 < cLine := hr.units
  exact ⟨_, (css_cons [1] [1] (cs_set (i := 1) sc.nd rfl (Or.inl rfl) (ce_if (ct_val (ce_start K (ce_v 0) ce_str star_const)) (ce_slS (ce_v 0) (co_some ce_int) co_none) (ce_flat (ce_v 0))))
      (css_cons [1] [1] (cs_if (ct_not (ct_chain op_le op_le gok_le gok_le bl_le ce_int (ce_callB (r := rLenA K) call_lenA gak_len rfl T.len PySem.boot_len (ca_cons (ce_v 1) ca_nil star_name) (he := star_name)) (ce_glob rfl T.MOST_FIGURES.choose_spec ⟨_, rfl⟩))) (css_one (cs_ret ce_bl)) css_nil)
      (css_cons [1] [1] (cs_if (ct_val (ce_callB (r := rAnyL K) (call_anyL rfl) gak_any rfl T.any PyProof.Rows.boot_any (ca_cons (ce_comp (n := 2) (defScope sis_number) ["word", "figures"] ["word", "figures"] ["figure"] ⟨rfl, by decide +kernel, by decide +kernel, by decide +kernel, by decide +kernel, by decide +kernel, rfl, by decide +kernel⟩ (ci_str (ce_v 1)) (fun _ _ _ _ _ => (cb_name 2 (hN := (by decide +kernel : List.Nodup (["word", "figures", "figure"] : List Str))))) (fun _ _ _ _ _ => cif_nil) (fun _ _ _ _ _ => (ce_not (ce_chain op_leS op_leS gok_leS gok_leS bl_leS ce_str (ce_v 2 (hv := Or.inl rfl)) ce_str)))) ca_nil star_comp) (he := star_comp))) (css_one (cs_ret ce_bl)) css_nil)
      (css_one (cs_ret (ce_or (ce_cmp (r := rEqA K) (op_eqA hu) gok_eq (ce_v 0) ce_str (nomark _)) (ce_one (ce_cmp (r := rNeA K) (op_neA hu) gok_ne (ce_ix K (ce_v 1) ce_int plain_const) ce_str (nomark _)))))))))⟩
theorem ok_law_cell (F : Fun K "_law_cell" "_law_cell" s_law_cell f fd) (T : Txt mg) : FnOk P w K mg base CX0 7 f fd ["_law_script", "_law_place"] (spD K C 2 2 Dl.F__law_cell) := by
  refine F.okC sc_law_cell (Γ' := []) (Δ' := []) rfl fun cdv A outer s H E hr => ?_
  have sc := sc_law_cell
  have hu : _ + 64 < cLine := hr.units
  exact ⟨_, (css_cons [] [] (cs_if (ct_cmp op_lt gok_lt (ce_v 1) (ce_callB (r := rLenA K) call_lenA gak_len rfl T.len PySem.boot_len (ca_cons (ce_v 0) ca_nil star_name) (he := star_name)) (nomark _)) (css_one (cs_ret (ce_flat (ce_ix K (ce_v 0) (ce_v 1) plain_name)))) css_nil)
      (css_cons [2] [2] (cs_set (i := 2) sc.nd rfl (Or.inl rfl) ce_int)
      (css_cons [2] [2] (cs_for [2] [2] PassesOwn.never rfl (ci_list (ce_sl K (ce_v 0) co_none (co_some ce_int))) (cg_name (i := 3) (hN := sc.nd) (hi := rfl) (hx := Or.inl rfl)) (css_one (cs_set (i := 2) sc.nd rfl (Or.inl rfl) (ce_op op_mod gok_mod (ce_op op_addA gok_add (ce_op op_addA gok_add (ce_op op_mulA gok_mul (ce_v 2) ce_int) (ce_op op_mod gok_mod (ce_v 3) ce_int)) ce_int) ce_int))))
      (css_one (cs_ret (ce_op op_mod gok_mod (ce_op op_addA gok_add (ce_v 2) (ce_op op_mulA gok_mul ce_int (ce_v 1))) ce_int))))))⟩
theorem ok_law_mix (F : Fun K "_law_mix" "_law_mix" s_law_mix f fd) (T : Txt mg) : FnOk P w K mg base CX0 7 f fd ["_law_cell_here", "_law_k"] (spD K C 2 2 Dl.F__law_mix) := by
  refine F.okC sc_law_mix (Γ' := []) (Δ' := []) rfl fun cdv A outer s H E hr => ?_
  have sc := sc_law_mix
  have hu : _ + 64 < cLine := hr.units
  exact ⟨_, (css_cons [2] [2] (cs_set (i := 2) sc.nd rfl (Or.inl rfl) (ce_op op_mod gok_mod (ce_op op_pow gok_pow (ce_op op_addA gok_add (ce_op op_addA gok_add (ce_op op_mod gok_mod (ce_v 0) ce_int) (ce_op op_mulA gok_mul ce_int (ce_v 1))) ce_int) ce_int) ce_int))
      (css_cons [2, 3] [2, 3] (cs_set (i := 3) sc.nd rfl (Or.inl rfl) (ce_op op_mod gok_mod (ce_op op_addA gok_add (ce_op op_addA gok_add (ce_op op_mulA gok_mul (ce_v 2) ce_int) (ce_op op_mulA gok_mul (ce_op op_mulA gok_mul ce_int (ce_v 1)) (ce_v 1))) ce_int) ce_int))
      (css_one (cs_ret (ce_op op_fdivL gok_div (ce_v 3) ce_int)))))⟩
theorem ok_law_is_whole (F : Fun K "_law_is_whole" "_law_is_whole" s_law_is_whole f fd) (T : Txt mg) : FnOk P w K mg base CX0 7 f fd ["_law_one"] (spD K C 1 2 Dl.F__law_is_whole) := by
  refine F.okC sc_law_is_whole (Γ' := []) (Δ' := []) rfl fun cdv A outer s H E hr => ?_
  have sc := sc_law_is_whole
  have hu : _ + 64 < cLine := hr.units
  exact ⟨_, (css_one (cs_ret (ce_and (ce_isI K (ty := "int") kit_int rfl T.isinstance rfl T.int PyProof.Rows.boot_int (ce_v 0) star_name) (ce_one (ce_not (ce_isI K (ty := "bool") kit_bool rfl T.isinstance rfl T.bool PyProof.Rows.boot_bool (ce_v 0) star_name))))))⟩
theorem ok_law_line (F : Fun K "_law_line" "_law_line" s_law_line f fd) (T : Txt mg) : FnOk P w K mg base CX0 7 f fd ["_law_some"] (spD K C 1 2 Dl.F__law_line) := by
  refine F.okC sc_law_line (Γ' := []) (Δ' := []) rfl fun cdv A outer s H E hr => ?_
  have sc := sc_law_line
  have hu : _ + 64 < cLine := hr.units
  exact ⟨_, (css_cons [] [] (cs_if (ct_cmp (r := rEqA K) (op_eqA hu) gok_eq (ce_callB (r := rLenA K) call_lenA gak_len rfl T.len PySem.boot_len (ca_cons (ce_v 0) ca_nil star_name) (he := star_name)) ce_int (nomark _)) (css_one (cs_ret ce_str)) css_nil)
      (css_one (cs_ret (ce_join K ce_str (ce_comp (n := 1) (defScope s_law_line) ["_law_some"] ["_law_some"] ["_law_one"] ⟨rfl, by decide +kernel, by decide +kernel, by decide +kernel, by decide +kernel, by decide +kernel, rfl, by decide +kernel⟩ (ci_list (ce_v 0)) (fun _ _ _ _ _ => (cb_name 1 (hN := (by decide +kernel : List.Nodup (["_law_some", "_law_one"] : List Str))))) (fun _ _ _ _ _ => cif_nil) (fun _ _ _ _ _ => (ce_callTy call_strI gak_str rfl T.str PyProof.Rows.boot_str (ca_cons (ce_v 1 (hv := Or.inl rfl)) ca_nil star_name) (he := star_name)))) star_comp))))⟩
theorem ok_law_table_line (F : Fun K "_law_table_line" "_law_table_line" s_law_table_line f fd) (T : Txt mg) : FnOk P w K mg base CX0 7 f fd ["_law_table_here"] (spD K C 1 2 Dl.F__law_table_line) := by
  refine F.okC sc_law_table_line (Γ' := []) (Δ' := []) rfl fun cdv A outer s H E hr => ?_
  have sc := sc_law_table_line
  have hu : _ + 64 < cLine := hr.units
  exact ⟨_, (css_cons [] [] (cs_if (ct_cmp (r := rEqA K) (op_eqA hu) gok_eq (ce_callB (r := rLenA K) call_lenA gak_len rfl T.len PySem.boot_len (ca_cons (ce_v 0) ca_nil star_name) (he := star_name)) ce_int (nomark _)) (css_one (cs_ret ce_str)) css_nil)
      (css_cons [1] [1] (cs_set (i := 1) sc.nd rfl (Or.inl rfl) (ce_lst ca_nil))
      (css_cons [1] [1] (cs_for [1] [1] PassesOwn.never rfl (ci_list (ce_v 0)) (cg_tup rfl (cgs_cons (cg_name (i := 2) (hN := sc.nd) (hi := rfl) (hx := Or.inl rfl)) (cgs_cons (cg_name (i := 3) (hN := sc.nd) (hi := rfl) (hx := Or.inl rfl)) (cgs_cons (cg_name (i := 4) (hN := sc.nd) (hi := rfl) (hx := Or.inl rfl)) (cgs_cons (cg_name (i := 5) (hN := sc.nd) (hi := rfl) (hx := Or.inl rfl)) cgs_nil))))) (css_one (cs_app (i := 1) (he := (ce_op op_addA gok_add (ce_op op_addA gok_add (ce_op op_addA gok_add (ce_op op_addA gok_add (ce_op op_addA gok_add (ce_op op_addA gok_add (ce_v 2) ce_str) (ce_callTy call_strI gak_str rfl T.str PyProof.Rows.boot_str (ca_cons (ce_v 3) ca_nil star_name) (he := star_name))) ce_str) (ce_callTy call_strI gak_str rfl T.str PyProof.Rows.boot_str (ca_cons (ce_v 4) ca_nil star_name) (he := star_name))) ce_str) (ce_callTy call_strI gak_str rfl T.str PyProof.Rows.boot_str (ca_cons (ce_v 5) ca_nil star_name) (he := star_name)))) (hse := star_bin))))
      (css_one (cs_ret (ce_join K ce_str (ce_v 1) star_name))))))⟩
theorem okis_kind (F : Fun K "is_kind" "is_kind" sis_kind f fd) (T : Txt mg) (Dis_name : Def P w K mg base CX0 7 "is_name" ["text"] (spD K C 1 2 Dl.F_is_name)) : FnOk P w K mg base CX0 8 f fd ["name", "width", "worth", "allowed"] (spD K C 4 2 Dl.F_is_kind) := by
  refine F.okC scis_kind (Γ' := []) (Δ' := []) rfl fun cdv A outer s H E hr => ?_
  have sc := scis_kind
  have hu : _ + 64 < cLine := hr.units
  exact ⟨_, (css_cons [] [] (cs_if (ct_not (ct_val (ce_call Dis_name (hr.mono (by decide)) rfl pass0 (ca_cons (ce_v 0) ca_nil star_name) (he := star_name)))) (css_one (cs_ret ce_bl)) css_nil)
      (css_cons [] [] (cs_if (ct_not (ct_chain op_le op_le gok_le gok_le bl_le ce_int (ce_v 1) (ce_glob rfl T.GREATEST_WIDTH.choose_spec ⟨_, rfl⟩))) (css_one (cs_ret ce_bl)) css_nil)
      (css_one (cs_ret (ce_and (ce_chain op_le op_le gok_le gok_le bl_le ce_int (ce_v 2) (ce_glob rfl T.GREATEST_WORTH.choose_spec ⟨_, rfl⟩)) (ce_one (ce_chain op_le op_le gok_le gok_le bl_le ce_int (ce_v 3) (ce_glob rfl T.GREATEST_ALLOWED.choose_spec ⟨_, rfl⟩))))))))⟩
theorem okread_number (F : Fun K "read_number" "read_number" sread_number f fd) (T : Txt mg) (Dis_number : Def P w K mg base CX0 7 "is_number" ["word"] (spD K C 1 2 Dl.F_is_number)) : FnOk P w K mg base CX0 8 f fd ["word"] (spD K C 1 2 Dl.F_read_number) := by
  refine F.okC scread_number (Γ' := []) (Δ' := []) rfl fun cdv A outer s H E hr => ?_
  have sc := scread_number
  have hu : _ + 64 < cLine := hr.units
  exact ⟨_, (css_cons [] [] (cs_if (ct_not (ct_val (ce_call Dis_number (hr.mono (by decide)) rfl pass0 (ca_cons (ce_v 0) ca_nil star_name) (he := star_name)))) (css_one cs_never) css_nil)
      (css_one (cs_ret (ce_callTy call_intS gak_intS rfl T.int PyProof.Rows.boot_int (ca_cons (ce_v 0) ca_nil star_name) (he := star_name)))))⟩
theorem okread_name (F : Fun K "read_name" "read_name" sread_name f fd) (T : Txt mg) (Dis_name : Def P w K mg base CX0 7 "is_name" ["text"] (spD K C 1 2 Dl.F_is_name)) : FnOk P w K mg base CX0 8 f fd ["word"] (spD K C 1 2 Dl.F_read_name) := by
  refine F.okC scread_name (Γ' := []) (Δ' := []) rfl fun cdv A outer s H E hr => ?_
  have sc := scread_name
  have hu : _ + 64 < cLine := hr.units
  exact ⟨_, (css_cons [] [] (cs_if (ct_not (ct_val (ce_call Dis_name (hr.mono (by decide)) rfl pass0 (ca_cons (ce_v 0) ca_nil star_name) (he := star_name)))) (css_one cs_never) css_nil)
      (css_one (cs_ret (ce_flat (ce_v 0)))))⟩
theorem ok_law_row (F : Fun K "_law_row" "_law_row" s_law_row f fd) (T : Txt mg) (D_law_cell : Def P w K mg base CX0 7 "_law_cell" ["_law_script", "_law_place"] (spD K C 2 2 Dl.F__law_cell)) (D_law_mix : Def P w K mg base CX0 7 "_law_mix" ["_law_cell_here", "_law_k"] (spD K C 2 2 Dl.F__law_mix)) : FnOk P w K mg base CX0 8 f fd ["_law_script", "_law_place", "_law_sizes"] (spD K C 3 2 Dl.F__law_row) := by
  refine F.okC sc_law_row (Γ' := []) (Δ' := []) rfl fun cdv A outer s H E hr => ?_
  have sc := sc_law_row
  have hu : _ + 64 < cLine := hr.units
  exact ⟨_, (css_cons [3] [3] (cs_set (i := 3) sc.nd rfl (Or.inl rfl) (ce_call D_law_cell (hr.mono (by decide)) rfl pass0 (ca_cons (ce_v 0) (ca_cons (ce_v 1) ca_nil star_name) star_name) (he := star_name)))
      (css_cons [3, 4] [3, 4] (cs_set (i := 4) sc.nd rfl (Or.inl rfl) (ce_flat (ce_v 3)))
      (css_cons [3, 4, 5] [3, 4, 5] (cs_set (i := 5) sc.nd rfl (Or.inl rfl) (ce_lst ca_nil))
      (css_cons [3, 4, 5] [3, 4, 5] (cs_for [3, 4, 5] [3, 4, 5] PassesOwn.never rfl (ci_rng1 rfl T.range (ca_cons (ce_callB (r := rLenA K) call_lenA gak_len rfl T.len PySem.boot_len (ca_cons (ce_v 2) ca_nil star_name) (he := star_name)) ca_nil star_call)) (cg_name (i := 6) (hN := sc.nd) (hi := rfl) (hx := Or.inl rfl)) (css_one (cs_if (ct_cmp op_lt gok_lt (ce_v 3) (ce_op op_pow gok_pow ce_int ce_int) (nomark _)) (css_one (cs_app (i := 5) (he := (ce_op op_mod gok_mod (ce_call D_law_mix (hr.mono (by decide)) rfl pass0 (ca_cons (ce_v 3) (ca_cons (ce_v 6) ca_nil star_name) star_name) (he := star_name)) (ce_ix K (ce_v 2) (ce_v 6) plain_name))) (hse := star_bin))) (css_one (cs_if (ct_cmp op_gt gok_gt (ce_v 4) ce_int (nomark _)) (css_cons [3, 4, 5] [3, 4, 5] (cs_app (i := 5) (he := (ce_op op_mod gok_mod (ce_v 4) (ce_ix K (ce_v 2) (ce_v 6) plain_name))) (hse := star_bin))
      (css_one (cs_set (i := 4) sc.nd rfl (Or.inl rfl) (ce_op op_fdivL gok_div (ce_v 4) (ce_ix K (ce_v 2) (ce_v 6) plain_name))))) (css_weak [3, 4, 5, 7] [3, 4, 5, 7] (css_cons [3, 4, 5, 7] [3, 4, 5, 7] (cs_set (i := 7) sc.nd rfl (Or.inl rfl) (ce_call D_law_cell (hr.mono (by decide)) rfl pass0 (ca_cons (ce_v 0) (ca_cons (ce_op op_mod gok_mod (ce_op op_addA gok_add (ce_op op_addA gok_add (ce_v 1) ce_int) (ce_v 6)) ce_int) ca_nil star_bin) star_name) (he := star_name)))
      (css_one (cs_app (i := 5) (he := (ce_op op_mod gok_mod (ce_call D_law_mix (hr.mono (by decide)) rfl pass0 (ca_cons (ce_v 7) (ca_cons (ce_v 6) ca_nil star_name) star_name) (he := star_name)) (ce_ix K (ce_v 2) (ce_v 6) plain_name))) (hse := star_bin))))))))))
      (css_one (cs_ret (ce_vd 5)))))))⟩
theorem ok_law_is_list (F : Fun K "_law_is_list" "_law_is_list" s_law_is_list f fd) (T : Txt mg) (D_law_is_whole : Def P w K mg base CX0 7 "_law_is_whole" ["_law_one"] (spD K C 1 2 Dl.F__law_is_whole)) : FnOk P w K mg base CX0 8 f fd ["_law_found", "_law_due"] (spD K C 2 2 Dl.F__law_is_list) := by
  refine F.okC sc_law_is_list (Γ' := []) (Δ' := []) rfl fun cdv A outer s H E hr => ?_
  have sc := sc_law_is_list
  have hu : _ + 64 < cLine := hr.units
  exact ⟨_, (css_cons [] [] (cs_if (ct_w (cw_or (ct_not (ct_val (ce_isI K (ty := "list") kit_list rfl T.isinstance rfl T.list PyProof.Rows.boot_list (ce_v 0) star_name))) (cw_or1 (ct_cmp (r := rNeA K) (op_neA hu) gok_ne (ce_v 0) (ce_v 1) (nomark _))))) (css_one (cs_ret ce_bl)) css_nil)
      (css_one (cs_ret (ce_callB (r := rAllL K) (call_allL rfl) gak_all rfl T.all PyProof.Rows.boot_all (ca_cons (ce_comp (n := 2) (defScope s_law_is_list) ["_law_found", "_law_due"] ["_law_found", "_law_due"] ["_law_one"] ⟨rfl, by decide +kernel, by decide +kernel, by decide +kernel, by decide +kernel, by decide +kernel, rfl, by decide +kernel⟩ (ci_list (ce_v 0)) (fun _ _ _ _ _ => (cb_name 2 (hN := (by decide +kernel : List.Nodup (["_law_found", "_law_due", "_law_one"] : List Str))))) (fun _ _ _ _ _ => cif_nil) (fun _ _ _ _ _ => (ce_call D_law_is_whole (hr.mono (by decide)) rfl pass0 (ca_cons (ce_v 2 (hv := Or.inl rfl)) ca_nil star_name) (he := star_name)))) ca_nil star_comp) (he := star_comp)))))⟩
theorem ok_law_is_table (F : Fun K "_law_is_table" "_law_is_table" s_law_is_table f fd) (T : Txt mg) (D_law_is_whole : Def P w K mg base CX0 7 "_law_is_whole" ["_law_one"] (spD K C 1 2 Dl.F__law_is_whole)) : FnOk P w K mg base CX0 8 f fd ["_law_found", "_law_due"] (spD K C 2 2 Dl.F__law_is_table) := by
  refine F.okC sc_law_is_table (Γ' := []) (Δ' := []) rfl fun cdv A outer s H E hr => ?_
  have sc := sc_law_is_table
  have hu : _ + 64 < cLine := hr.units
  exact ⟨_, (css_cons [] [] (cs_if (ct_w (cw_or (ct_not (ct_val (ce_isI K (ty := "list") kit_list rfl T.isinstance rfl T.list PyProof.Rows.boot_list (ce_v 0) star_name))) (cw_or1 (ct_cmp (r := rNeA K) (op_neA hu) gok_ne (ce_v 0) (ce_v 1) (nomark _))))) (css_one (cs_ret ce_bl)) css_nil)
      (css_cons [] [] (cs_for [] [] PassesOwn.never rfl (ci_list (ce_v 0)) (cg_name (i := 2) (hN := sc.nd) (hi := rfl) (hx := Or.inl rfl)) (css_one (cs_if (ct_w (cw_or (ct_not (ct_val (ce_isI K (ty := "tuple") kit_tuple rfl T.isinstance rfl T.tuple PyProof.Rows.boot_tuple (ce_v 2) star_name))) (cw_or1 (ct_not (ct_val (ce_callB (r := rAllL K) (call_allL rfl) gak_all rfl T.all PyProof.Rows.boot_all (ca_cons (ce_comp (n := 3) (defScope s_law_is_table) ["_law_found", "_law_due", "_law_kind"] ["_law_found", "_law_due", "_law_kind"] ["_law_one"] ⟨rfl, by decide +kernel, by decide +kernel, by decide +kernel, by decide +kernel, by decide +kernel, rfl, by decide +kernel⟩ (ci_tup (ce_slT K (ce_v 2) (co_some ce_int) co_none)) (fun _ _ _ _ _ => (cb_name 3 (hN := (by decide +kernel : List.Nodup (["_law_found", "_law_due", "_law_kind", "_law_one"] : List Str))))) (fun _ _ _ _ _ => cif_nil) (fun _ _ _ _ _ => (ce_call D_law_is_whole (hr.mono (by decide)) rfl pass0 (ca_cons (ce_v 3 (hv := Or.inl rfl)) ca_nil star_name) (he := star_name)))) ca_nil star_comp) (he := star_comp))))))) (css_one (cs_ret ce_bl)) css_nil)))
      (css_one (cs_ret ce_bl))))⟩
theorem okfault (F : Fun K "fault" "fault" sfault f fd) (T : Txt mg) (Dis_kind : Def P w K mg base CX0 8 "is_kind" ["name", "width", "worth", "allowed"] (spD K C 4 2 Dl.F_is_kind)) : FnOk P w K mg base CX0 9 f fd ["table"] (spD K C 1 2 Dl.F_fault) := by
  refine F.okC scfault (Γ' := []) (Δ' := []) rfl fun cdv A outer s H E hr => ?_
  have sc := scfault
  have hu : _ + 64 < cLine := hr.units
  exact ⟨_, (css_cons [1] [1] (cs_set (i := 1) sc.nd rfl (Or.inl rfl) ce_dnew)
      (css_cons [1] [1] (cs_for [1] [1] PassesOwn.never rfl (ci_enum rfl T.enumerate (ce_v 0) star_name) (cg_tup rfl (cgs_cons (cg_name (i := 2) (hN := sc.nd) (hi := rfl) (hx := Or.inl rfl)) (cgs_cons (cg_name (i := 3) (hN := sc.nd) (hi := rfl) (hx := Or.inl rfl)) cgs_nil))) (css_weak [1, 4] [1, 4] (css_cons [1, 4] [1, 4] (cs_set (i := 4) sc.nd rfl (Or.inl rfl) (ce_flat (ce_ix K (ce_v 3) ce_int plain_const)))
      (css_cons [1, 4] [1, 4] (cs_if (ct_w (cw_or (ct_cmp op_ge gok_ge (ce_v 2) (ce_glob rfl T.MOST_KINDS.choose_spec ⟨_, rfl⟩) (nomark _)) (cw_or1 (ct_cmp (op_din hu) gok_din (ce_v 4) (ce_v 1) rfl)))) (css_one (cs_ret (ce_flat (ce_v 2)))) css_nil)
      (css_cons [1, 4] [1, 4] (cs_if (ct_not (ct_val (ce_call Dis_kind (hr.mono (by decide)) rfl pass0 (ca_cons (ce_v 4) (ca_cons (ce_ix K (ce_v 3) ce_int plain_const) (ca_cons (ce_ix K (ce_v 3) ce_int plain_const) (ca_cons (ce_ix K (ce_v 3) ce_int plain_const) ca_nil star_sub) star_sub) star_sub) star_name) (he := star_name)))) (css_one (cs_ret (ce_flat (ce_v 2)))) css_nil)
      (css_one (cs_dput (i := 1) (he := ce_bl) (hk := (ce_v 4)) (hu := hu))))))))
      (css_one (cs_ret ce_non))))⟩
theorem okread_numbers (F : Fun K "read_numbers" "read_numbers" sread_numbers f fd) (T : Txt mg) (Dread_number : Def P w K mg base CX0 8 "read_number" ["word"] (spD K C 1 2 Dl.F_read_number)) : FnOk P w K mg base CX0 9 f fd ["line"] (spD K C 1 2 Dl.F_read_numbers) := by
  refine F.okC scread_numbers (Γ' := []) (Δ' := []) rfl fun cdv A outer s H E hr => ?_
  have sc := scread_numbers
  have hu : _ + 64 < cLine := hr.units
  exact ⟨_, (css_cons [] [] (cs_if (ct_cmp (r := rEqA K) (op_eqA hu) gok_eq (ce_v 0) (ce_globS rfl T.NONE.choose_spec ⟨_, rfl⟩) (nomark _)) (css_one (cs_ret (ce_lst ca_nil))) css_nil)
      (css_one (cs_ret (ce_comp (n := 1) (defScope sread_numbers) ["line"] ["line"] ["word"] ⟨rfl, by decide +kernel, by decide +kernel, by decide +kernel, by decide +kernel, by decide +kernel, rfl, by decide +kernel⟩ (ci_list (ce_split K (ce_v 0) ce_str star_const)) (fun _ _ _ _ _ => (cb_name 1 (hN := (by decide +kernel : List.Nodup (["line", "word"] : List Str))))) (fun _ _ _ _ _ => cif_nil) (fun _ _ _ _ _ => (ce_call Dread_number (hr.mono (by decide)) rfl pass0 (ca_cons (ce_v 1 (hv := Or.inl rfl)) ca_nil star_name) (he := star_name)))))))⟩
theorem okread_kind (F : Fun K "read_kind" "read_kind" sread_kind f fd) (T : Txt mg) (Dread_name : Def P w K mg base CX0 8 "read_name" ["word"] (spD K C 1 2 Dl.F_read_name)) (Dread_number : Def P w K mg base CX0 8 "read_number" ["word"] (spD K C 1 2 Dl.F_read_number)) : FnOk P w K mg base CX0 9 f fd ["text"] (spD K C 1 2 Dl.F_read_kind) := by
  refine F.okC scread_kind (Γ' := []) (Δ' := []) rfl fun cdv A outer s H E hr => ?_
  have sc := scread_kind
  have hu : _ + 64 < cLine := hr.units
  exact ⟨_, (css_cons [1] [1] (cs_set (i := 1) sc.nd rfl (Or.inl rfl) (ce_split K (ce_v 0) ce_str star_const))
      (css_cons [1] [1] (cs_if (ct_cmp (r := rNeA K) (op_neA hu) gok_ne (ce_callB (r := rLenA K) call_lenA gak_len rfl T.len PySem.boot_len (ca_cons (ce_v 1) ca_nil star_name) (he := star_name)) ce_int (nomark _)) (css_one cs_never) css_nil)
      (css_one (cs_ret (ce_tup (ca_cons2 (ce_call Dread_name (hr.mono (by decide)) rfl pass0 (ca_cons (ce_ix K (ce_v 1) ce_int plain_const) ca_nil star_sub) (he := star_sub)) (ca_cons2 (ce_call Dread_number (hr.mono (by decide)) rfl pass0 (ca_cons (ce_ix K (ce_v 1) ce_int plain_const) ca_nil star_sub) (he := star_sub)) (ca_cons2 (ce_call Dread_number (hr.mono (by decide)) rfl pass0 (ca_cons (ce_ix K (ce_v 1) ce_int plain_const) ca_nil star_sub) (he := star_sub)) (ca_cons2 (ce_call Dread_number (hr.mono (by decide)) rfl pass0 (ca_cons (ce_ix K (ce_v 1) ce_int plain_const) ca_nil star_sub) (he := star_sub)) ca_nil star_call) star_call) star_call) star_call))))))⟩
theorem ok_law_table (F : Fun K "_law_table" "_law_table" s_law_table f fd) (T : Txt mg) (D_law_row : Def P w K mg base CX0 8 "_law_row" ["_law_script", "_law_place", "_law_sizes"] (spD K C 3 2 Dl.F__law_row)) : FnOk P w K mg base CX0 9 f fd ["_law_script", "_law_place", "_law_most"] (spD K C 3 2 Dl.G__law_table) := by
  refine F.okC sc_law_table (Γ' := []) (Δ' := []) rfl fun cdv A outer s H E hr => ?_
  have sc := sc_law_table
  have hu : _ + 64 < cLine := hr.units
  exact ⟨_, (css_cons [3] [3] (cs_set (i := 3) sc.nd rfl (Or.inl rfl) (ce_lst (ca_cons2 ce_str (ca_cons2 ce_str (ca_cons2 ce_str (ca_cons2 ce_str (ca_cons2 ce_str (ca_cons2 ce_str (ca_cons2 ce_str (ca_cons2 ce_str (ca_cons2 ce_str (ca_cons2 ce_str ca_nil star_const) star_const) star_const) star_const) star_const) star_const) star_const) star_const) star_const) star_const)))
      (css_cons [3] [3] (cs_set (i := 3) sc.nd rfl (Or.inl rfl) (ce_op op_addA gok_add (ce_v 3) (ce_lst (ca_cons2 ce_str (ca_cons2 ce_str (ca_cons2 ce_str (ca_cons2 ce_str (ca_cons2 ce_str (ca_cons2 ce_str ca_nil star_const) star_const) star_const) star_const) star_const) star_const))))
      (css_cons [3, 4] [3, 4] (cs_set (i := 4) sc.nd rfl (Or.inl rfl) (ce_call D_law_row (hr.mono (by decide)) rfl pass0 (ca_cons (ce_v 0) (ca_cons (ce_v 1) (ca_cons (ce_op op_addA gok_add (ce_lst (ca_cons2 (ce_op op_addA gok_add (ce_v 2) ce_int) (ca_cons2 ce_int (ca_cons2 ce_int (ca_cons2 ce_int (ca_cons2 ce_int (ca_cons2 ce_int ca_nil star_const) star_const) star_const) star_const) star_const) star_bin)) (ce_op op_mulA gok_mul (ce_lst (ca_cons2 ce_int (ca_cons2 ce_int (ca_cons2 ce_int ca_nil star_const) star_const) star_const)) (ce_v 2))) ca_nil star_bin) star_name) star_name) (he := star_name)))
      (css_cons [3, 4, 5] [3, 4, 5] (cs_set (i := 5) sc.nd rfl (Or.inl rfl) (ce_flat (ce_ix K (ce_lst (ca_cons2 ce_int (ca_cons2 ce_int (ca_cons2 ce_int (ca_cons2 (ce_op op_pow gok_pow ce_int ce_int) ca_nil star_bin) star_const) star_const) star_const)) (ce_ix K (ce_v 4) ce_int plain_const) plain_sub)))
      (css_cons [3, 4, 5, 6] [3, 4, 5, 6] (cs_set (i := 6) sc.nd rfl (Or.inl rfl) (ce_flat (ce_ix K (ce_lst (ca_cons2 ce_int (ca_cons2 ce_int (ca_cons2 (ce_op op_pow gok_pow ce_int ce_int) (ca_cons2 (ce_op op_mulA gok_mul ce_int (ce_op op_pow gok_pow ce_int ce_int)) ca_nil star_bin) star_bin) star_const) star_const)) (ce_ix K (ce_v 4) ce_int plain_const) plain_sub)))
      (css_cons [3, 4, 5, 6, 7] [3, 4, 5, 6, 7] (cs_set (i := 7) sc.nd rfl (Or.inl rfl) (ce_lst ca_nil))
      (css_cons [3, 4, 5, 6, 7] [3, 4, 5, 6, 7] (cs_for [3, 4, 5, 6, 7] [3, 4, 5, 6, 7] PassesOwn.never rfl (ci_rng1 rfl T.range (ca_cons (ce_ix K (ce_v 4) ce_int plain_const) ca_nil star_sub)) (cg_name (i := 8) (hN := sc.nd) (hi := rfl) (hx := Or.inl rfl)) (css_weak [3, 4, 5, 6, 7, 9, 10, 11, 12, 13] [3, 4, 5, 6, 7, 9, 10, 11, 12, 13] (css_cons [3, 4, 5, 6, 7, 9] [3, 4, 5, 6, 7, 9] (cs_set (i := 9) sc.nd rfl (Or.inl rfl) (ce_op op_addA gok_add (ce_op op_mulA gok_mul ce_int (ce_v 8)) ce_int))
      (css_cons [3, 4, 5, 6, 7, 9, 10] [3, 4, 5, 6, 7, 9, 10] (cs_set (i := 10) sc.nd rfl (Or.inl rfl) (ce_flat (ce_ix K (ce_lst1 (ca_cons ce_int (ca_cons ce_int (ca_cons ce_int (ca_cons ce_int (ca_cons ce_int (ca_cons ce_int (ca_cons ce_int (ca_cons ce_int (ca_cons ce_int (ca_cons ce_int (ca_cons (ce_ix K (ce_lst (ca_cons2 ce_int (ca_cons2 ce_int ca_nil star_const) star_const)) (ce_op op_mod gok_mod (ce_v 8) ce_int) plain_bin) ca_nil star_sub) star_const) star_const) star_const) star_const) star_const) star_const) star_const) star_const) star_const) star_const)) (ce_ix K (ce_v 4) (ce_v 9) plain_name) plain_sub)))
      (css_cons [3, 4, 5, 6, 7, 9, 10, 11] [3, 4, 5, 6, 7, 9, 10, 11] (cs_set (i := 11) sc.nd rfl (Or.inl rfl) (ce_op op_addA gok_add ce_int (ce_ix K (ce_v 4) (ce_op op_addA gok_add (ce_v 9) ce_int) plain_bin)))
      (css_cons [3, 4, 5, 6, 7, 9, 10, 11] [3, 4, 5, 6, 7, 9, 10, 11] (cs_if (ct_cmp (r := rEqA K) (op_eqA hu) gok_eq (ce_ix K (ce_v 4) ce_int plain_const) ce_int (nomark _)) (css_one (cs_set (i := 11) sc.nd rfl (Or.inl rfl) (ce_op op_addA gok_add (ce_op op_mulA gok_mul ce_int (ce_v 10)) (ce_op op_mod gok_mod (ce_ix K (ce_v 4) (ce_op op_addA gok_add (ce_v 9) ce_int) plain_bin) ce_int)))) css_nil)
      (css_cons [3, 4, 5, 6, 7, 9, 10, 11] [3, 4, 5, 6, 7, 9, 10, 11] (cs_if (ct_cmp (r := rEqA K) (op_eqA hu) gok_eq (ce_ix K (ce_v 4) ce_int plain_const) ce_int (nomark _)) (css_one (cs_set (i := 11) sc.nd rfl (Or.inl rfl) (ce_op op_addA gok_add ce_int (ce_op op_mod gok_mod (ce_ix K (ce_v 4) (ce_op op_addA gok_add (ce_v 9) ce_int) plain_bin) ce_int)))) css_nil)
      (css_cons [3, 4, 5, 6, 7, 9, 10, 11] [3, 4, 5, 6, 7, 9, 10, 11] (cs_if (ct_cmp (r := rEqA K) (op_eqA hu) gok_eq (ce_ix K (ce_v 4) ce_int plain_const) ce_int (nomark _)) (css_one (cs_set (i := 11) sc.nd rfl (Or.inl rfl) (ce_flat (ce_v 10)))) css_nil)
      (css_cons [3, 4, 5, 6, 7, 9, 10, 11, 12] [3, 4, 5, 6, 7, 9, 10, 11, 12] (cs_set (i := 12) sc.nd rfl (Or.inl rfl) (ce_callB (r := rMin2) (call_minR rfl) gak_min rfl T.min PyProof.Rows.boot_min (ca_cons (ce_op op_mulA gok_mul (ce_ix K (ce_lst (ca_cons2 ce_int (ca_cons2 ce_int (ca_cons2 ce_int (ca_cons2 ce_int (ca_cons2 ce_int (ca_cons2 ce_int ca_nil star_const) star_const) star_const) star_const) star_const) star_const)) (ce_ix K (ce_v 4) (ce_op op_addA gok_add (ce_v 9) ce_int) plain_bin) plain_sub) (ce_v 5)) (ca_cons (ce_op op_sub gok_sub (ce_op op_pow gok_pow ce_int ce_int) ce_int) ca_nil star_bin) star_bin) (he := star_bin)))
      (css_cons [3, 4, 5, 6, 7, 9, 10, 11, 12, 13] [3, 4, 5, 6, 7, 9, 10, 11, 12, 13] (cs_set (i := 13) sc.nd rfl (Or.inl rfl) (ce_flat (ce_ix K (ce_v 3) (ce_op op_mod gok_mod (ce_op op_addA gok_add (ce_ix K (ce_v 4) ce_int plain_const) (ce_op op_mulA gok_mul (ce_op op_addA gok_add (ce_op op_mulA gok_mul ce_int (ce_ix K (ce_v 4) ce_int plain_const)) ce_int) (ce_v 8))) ce_int) plain_bin)))
      (css_one (cs_app (i := 7) (he := (ce_tup (ca_cons2 (ce_flat (ce_v 13)) (ca_cons2 (ce_flat (ce_v 10)) (ca_cons2 (ce_callB (r := rMin2) (call_minR rfl) gak_min rfl T.min PyProof.Rows.boot_min (ca_cons (ce_op op_mulA gok_mul (ce_v 11) (ce_v 6)) (ca_cons (ce_op op_pow gok_pow ce_int ce_int) ca_nil star_bin) star_bin) (he := star_bin)) (ca_cons2 (ce_flat (ce_v 12)) ca_nil star_name) star_call) star_name) star_name))) (hse := star_tup)))))))))))))
      (css_one (cs_ret (ce_vd 7))))))))))⟩
theorem ok_law_renamed (F : Fun K "_law_renamed" "_law_renamed" s_law_renamed f fd) (T : Txt mg) (D_law_row : Def P w K mg base CX0 8 "_law_row" ["_law_script", "_law_place", "_law_sizes"] (spD K C 3 2 Dl.F__law_row)) : FnOk P w K mg base CX0 9 f fd ["_law_script", "_law_place", "_law_table_here"] (spD K C 3 2 Dl.F__law_renamed) := by
  refine F.okC sc_law_renamed (Γ' := []) (Δ' := []) rfl fun cdv A outer s H E hr => ?_
  have sc := sc_law_renamed
  have hu : _ + 64 < cLine := hr.units
  exact ⟨_, (css_cons [3] [3] (cs_set (i := 3) sc.nd rfl (Or.inl rfl) ce_str)
      (css_cons [3, 4] [3, 4] (cs_set (i := 4) sc.nd rfl (Or.inl rfl) (ce_call D_law_row (hr.mono (by decide)) rfl pass0 (ca_cons (ce_v 0) (ca_cons (ce_v 1) (ca_cons (ce_op op_addA gok_add (ce_lst (ca_cons2 ce_int ca_nil star_const)) (ce_op op_mulA gok_mul (ce_lst (ca_cons2 ce_int (ca_cons2 ce_int (ca_cons2 ce_int (ca_cons2 ce_int ca_nil star_const) star_const) star_const) star_const)) ce_int)) ca_nil star_bin) star_name) star_name) (he := star_name)))
      (css_cons [3, 4, 5] [3, 4, 5] (cs_set (i := 5) sc.nd rfl (Or.inl rfl) (ce_lst ca_nil))
      (css_cons [3, 4, 5] [3, 4, 5] (cs_for [3, 4, 5] [3, 4, 5] PassesOwn.never rfl (ci_rng1 rfl T.range (ca_cons (ce_callB (r := rLenA K) call_lenA gak_len rfl T.len PySem.boot_len (ca_cons (ce_v 2) ca_nil star_name) (he := star_name)) ca_nil star_call)) (cg_name (i := 6) (hN := sc.nd) (hi := rfl) (hx := Or.inl rfl)) (css_weak [3, 4, 5, 7, 8] [3, 4, 5, 7, 8] (css_cons [3, 4, 5, 7] [3, 4, 5, 7] (cs_set (i := 7) sc.nd rfl (Or.inl rfl) (ce_sl K (ce_v 4) (co_some (ce_op op_addA gok_add (ce_op op_mulA gok_mul ce_int (ce_v 6)) ce_int)) (co_some (ce_op op_addA gok_add (ce_op op_mulA gok_mul ce_int (ce_v 6)) ce_int))))
      (css_cons [3, 4, 5, 7, 8] [3, 4, 5, 7, 8] (cs_set (i := 8) sc.nd rfl (Or.inl rfl) (ce_op op_addA gok_add (ce_op op_addA gok_add (ce_ix K (ce_v 3) (ce_ix K (ce_v 7) ce_int plain_const) plain_sub) (ce_op op_mulS gok_mulS (ce_ix K (ce_v 3) (ce_ix K (ce_v 7) ce_int plain_const) plain_sub) ce_int)) (ce_op op_mulS gok_mulS (ce_ix K (ce_v 3) (ce_ix K (ce_v 7) ce_int plain_const) plain_sub) ce_int)))
      (css_cons [3, 4, 5, 7, 8] [3, 4, 5, 7, 8] (cs_set (i := 8) sc.nd rfl (Or.inl rfl) (ce_op op_addA gok_add (ce_slS (ce_v 8) co_none (co_some (ce_ix K (ce_v 7) ce_int plain_const))) (ce_ix K (ce_v 3) (ce_op op_mod gok_mod (ce_op op_addA gok_add (ce_ix K (ce_v 4) ce_int plain_const) (ce_op op_mulA gok_mul ce_int (ce_v 6))) ce_int) plain_bin)))
      (css_one (cs_app (i := 5) (he := (ce_tup (ca_cons2 (ce_flat (ce_v 8)) (ca_cons2 (ce_flat (ce_ix K (ce_ix K (ce_v 2) (ce_v 6) plain_name) ce_int plain_const)) (ca_cons2 (ce_flat (ce_ix K (ce_ix K (ce_v 2) (ce_v 6) plain_name) ce_int plain_const)) (ca_cons2 (ce_flat (ce_ix K (ce_ix K (ce_v 2) (ce_v 6) plain_name) ce_int plain_const)) ca_nil star_sub) star_sub) star_sub) star_name))) (hse := star_tup))))))))
      (css_one (cs_ret (ce_vd 5)))))))⟩
theorem ok_law_numbers (F : Fun K "_law_numbers" "_law_numbers" s_law_numbers f fd) (T : Txt mg) (D_law_row : Def P w K mg base CX0 8 "_law_row" ["_law_script", "_law_place", "_law_sizes"] (spD K C 3 2 Dl.F__law_row)) : FnOk P w K mg base CX0 9 f fd ["_law_script", "_law_place"] (spD K C 2 2 Dl.F__law_numbers) := by
  refine F.okC sc_law_numbers (Γ' := []) (Δ' := []) rfl fun cdv A outer s H E hr => ?_
  have sc := sc_law_numbers
  have hu : _ + 64 < cLine := hr.units
  exact ⟨_, (css_cons [2] [2] (cs_set (i := 2) sc.nd rfl (Or.inl rfl) (ce_call D_law_row (hr.mono (by decide)) rfl pass0 (ca_cons (ce_v 0) (ca_cons (ce_v 1) (ca_cons (ce_lst (ca_cons2 ce_int (ca_cons2 ce_int ca_nil star_const) star_const)) ca_nil star_list) star_name) star_name) (he := star_name)))
      (css_cons [2, 3] [2, 3] (cs_set (i := 3) sc.nd rfl (Or.inl rfl) (ce_flat (ce_ix K (ce_v 2) ce_int plain_const)))
      (css_cons [2, 3] [2, 3] (cs_if (ct_cmp (r := rEqA K) (op_eqA hu) gok_eq (ce_ix K (ce_v 2) ce_int plain_const) ce_int (nomark _)) (css_one (cs_set (i := 3) sc.nd rfl (Or.inl rfl) ce_int)) css_nil)
      (css_cons [2, 3, 4] [2, 3, 4] (cs_set (i := 4) sc.nd rfl (Or.inl rfl) (ce_call D_law_row (hr.mono (by decide)) rfl pass0 (ca_cons (ce_v 0) (ca_cons (ce_op op_addA gok_add (ce_v 1) ce_int) (ca_cons (ce_op op_mulA gok_mul (ce_lst (ca_cons2 ce_int (ca_cons2 ce_int (ca_cons2 ce_int (ca_cons2 (ce_op op_pow gok_pow ce_int ce_int) ca_nil star_bin) star_const) star_const) star_const)) (ce_v 3)) ca_nil star_bin) star_bin) star_name) (he := star_name)))
      (css_cons [2, 3, 4, 5] [2, 3, 4, 5] (cs_set (i := 5) sc.nd rfl (Or.inl rfl) (ce_lst ca_nil))
      (css_cons [2, 3, 4, 5] [2, 3, 4, 5] (cs_for [2, 3, 4, 5] [2, 3, 4, 5] PassesOwn.never rfl (ci_rng1 rfl T.range (ca_cons (ce_v 3) ca_nil star_name)) (cg_name (i := 6) (hN := sc.nd) (hi := rfl) (hx := Or.inl rfl)) (css_weak [2, 3, 4, 5, 7, 8] [2, 3, 4, 5, 7, 8] (css_cons [2, 3, 4, 5, 7] [2, 3, 4, 5, 7] (cs_set (i := 7) sc.nd rfl (Or.inl rfl) (ce_sl K (ce_v 4) (co_some (ce_op op_mulA gok_mul ce_int (ce_v 6))) (co_some (ce_op op_addA gok_add (ce_op op_mulA gok_mul ce_int (ce_v 6)) ce_int))))
      (css_cons [2, 3, 4, 5, 7, 8] [2, 3, 4, 5, 7, 8] (cs_set (i := 8) sc.nd rfl (Or.inl rfl) (ce_flat (ce_ix K (ce_lst1 (ca_cons ce_int (ca_cons (ce_ix K (ce_v 7) ce_int plain_const) (ca_cons (ce_ix K (ce_v 7) ce_int plain_const) (ca_cons (ce_op op_addA gok_add (ce_op op_mulA gok_mul ce_int (ce_op op_pow gok_pow ce_int ce_int)) (ce_ix K (ce_v 7) ce_int plain_const)) ca_nil star_bin) star_sub) star_sub) star_const)) (ce_ix K (ce_v 7) ce_int plain_const) plain_sub)))
      (css_one (cs_app (i := 5) (he := (ce_flat (ce_ix K (ce_lst1 (ca_cons (ce_v 8) (ca_cons (ce_neg (ce_v 8)) ca_nil star_un) star_name)) (ce_ix K (ce_v 7) ce_int plain_const) plain_sub))) (hse := star_sub)))))))
      (css_one (cs_ret (ce_vd 5)))))))))⟩
theorem okread_table (F : Fun K "read_table" "read_table" sread_table f fd) (T : Txt mg) (Dread_kind : Def P w K mg base CX0 9 "read_kind" ["text"] (spD K C 1 2 Dl.F_read_kind)) (Dfault : Def P w K mg base CX0 9 "fault" ["table"] (spD K C 1 2 Dl.F_fault)) : FnOk P w K mg base CX0 10 f fd ["line"] (spD K C 1 2 Dl.F_read_table) := by
  refine F.okC scread_table (Γ' := []) (Δ' := []) rfl fun cdv A outer s H E hr => ?_
  have sc := scread_table
  have hu : _ + 64 < cLine := hr.units
  exact ⟨_, (css_cons [] [] (cs_if (ct_cmp (r := rEqA K) (op_eqA hu) gok_eq (ce_v 0) (ce_globS rfl T.NONE.choose_spec ⟨_, rfl⟩) (nomark _)) (css_one (cs_ret (ce_lst ca_nil))) css_nil)
      (css_cons [1] [1] (cs_setC (i := 1) (n := 2) (defScope sread_table) ["line", "table"] ["line", "table"] ["text"] ⟨rfl, by decide +kernel, by decide +kernel, by decide +kernel, by decide +kernel, by decide +kernel, rfl, by decide +kernel⟩ rfl rfl (ci_list (ce_split3 K (ce_v 0) ce_str star_const)) (fun _ _ _ _ _ => (cb_name 2 (hN := (by decide +kernel : List.Nodup (["line", "table", "text"] : List Str))))) (fun _ _ _ _ _ => cif_nil) (fun _ _ _ _ _ => (ce_call Dread_kind (hr.mono (by decide)) rfl pass0 (ca_cons (ce_v 2 (hv := Or.inl rfl)) ca_nil star_name) (he := star_name))))
      (css_cons [1] [1] (cs_if (ct_cmp op_notA gok_isNot (ce_call Dfault (hr.mono (by decide)) rfl pass0 (ca_cons (ce_v 1) ca_nil star_name) (he := star_name)) ce_non (nomark _)) (css_one cs_never) css_nil)
      (css_one (cs_ret (ce_vd 1))))))⟩
theorem oklaw (F : Fun K "law" "law" slaw f fd) (T : Txt mg) (D_law_numbers : Def P w K mg base CX0 9 "_law_numbers" ["_law_script", "_law_place"] (spD K C 2 2 Dl.F__law_numbers)) (D_law_renamed : Def P w K mg base CX0 9 "_law_renamed" ["_law_script", "_law_place", "_law_table_here"] (spD K C 3 2 Dl.F__law_renamed)) (D_law_table : Def P w K mg base CX0 9 "_law_table" ["_law_script", "_law_place", "_law_most"] (spD K C 3 2 Dl.G__law_table)) (Dread_numbers : Def P w K mg base CX0 9 "read_numbers" ["line"] (spD K C 1 2 Dl.F_read_numbers)) (Dread_table : Def P w K mg base CX0 10 "read_table" ["line"] (spD K C 1 2 Dl.F_read_table)) (D_law_line : Def P w K mg base CX0 7 "_law_line" ["_law_some"] (spD K C 1 2 Dl.F__law_line)) (D_law_table_line : Def P w K mg base CX0 7 "_law_table_line" ["_law_table_here"] (spD K C 1 2 Dl.F__law_table_line)) (Dshow_numbers : Def P w K mg base CX0 7 "show_numbers" ["some"] (spD K C 1 2 Dl.F_show_numbers)) (Dshow_table : Def P w K mg base CX0 7 "show_table" ["table"] (spD K C 1 2 Dl.F_show_table)) (D_law_is_list : Def P w K mg base CX0 8 "_law_is_list" ["_law_found", "_law_due"] (spD K C 2 2 Dl.F__law_is_list)) (D_law_is_table : Def P w K mg base CX0 8 "_law_is_table" ["_law_found", "_law_due"] (spD K C 2 2 Dl.F__law_is_table)) : FnOk P w K mg base CX0 11 f fd ["_law_script"] (spD K C 1 2 Dl.F_law) := by
  refine F.okC sclaw (Γ' := []) (Δ' := []) rfl fun cdv A outer s H E hr => ?_
  have sc := sclaw
  have hu : _ + 64 < cLine := hr.units
  exact ⟨_, (css_cons [1] [1] (cs_set (i := 1) sc.nd rfl (Or.inl rfl) (ce_call D_law_numbers (hr.mono (by decide)) rfl pass0 (ca_cons (ce_v 0) (ca_cons ce_int ca_nil star_const) star_name) (he := star_name)))
      (css_cons [1, 2] [1, 2] (cs_set (i := 2) sc.nd rfl (Or.inl rfl) (ce_call D_law_renamed (hr.mono (by decide)) rfl pass0 (ca_cons (ce_v 0) (ca_cons ce_int (ca_cons (ce_call D_law_table (hr.mono (by decide)) rfl pass0 (ca_cons (ce_v 0) (ca_cons ce_int (ca_cons ce_int ca_nil star_const) star_const) star_name) (he := star_name)) ca_nil star_call) star_const) star_name) (he := star_name)))
      (css_cons [1, 2, 3] [1, 2, 3] (cs_setC (i := 3) (n := 8) (defScope slaw) ["_law_script", "_law_some", "_law_table_here", "_law_far", "_law_turn", "_law_handed", "_law_found", "_law_kinds"] ["_law_script", "_law_some", "_law_table_here", "_law_far", "_law_turn", "_law_handed", "_law_found", "_law_kinds"] ["_law_one"] ⟨rfl, by decide +kernel, by decide +kernel, by decide +kernel, by decide +kernel, by decide +kernel, rfl, by decide +kernel⟩ rfl rfl (ci_list (ce_v 1)) (fun _ _ _ _ _ => (cb_name 8 (hN := (by decide +kernel : List.Nodup (["_law_script", "_law_some", "_law_table_here", "_law_far", "_law_turn", "_law_handed", "_law_found", "_law_kinds", "_law_one"] : List Str))))) (fun _ _ _ _ _ => cif_nil) (fun _ _ _ _ _ => (ce_op op_sub gok_sub (ce_op op_mulB gok_mulB (ce_v 8 (hv := Or.inl rfl)) (ce_op op_pow gok_pow ce_int ce_int)) ce_int)))
      (css_cons [1, 2, 3] [1, 2, 3] (cs_for [1, 2, 3] [1, 2, 3] PassesOwn.never rfl (ci_rng1 rfl T.range (ca_cons ce_int ca_nil star_const)) (cg_name (i := 4) (hN := sc.nd) (hi := rfl) (hx := Or.inl rfl)) (css_weak [1, 2, 3, 5, 6, 7] [1, 2, 3, 5, 6, 7] (css_cons [1, 2, 3, 5] [1, 2, 3, 5] (cs_set (i := 5) sc.nd rfl (Or.inl rfl) (ce_lst (ca_cons2 (ce_callTy (r := rList K) (call_listA rfl) gak_list rfl T.list PyProof.Rows.boot_list (ca_cons (ce_v 1) ca_nil star_name) (he := star_name)) (ca_cons2 (ce_callTy (r := rList K) (call_listA rfl) gak_list rfl T.list PyProof.Rows.boot_list (ca_cons (ce_v 2) ca_nil star_name) (he := star_name)) (ca_cons2 (ce_callTy (r := rList K) (call_listA rfl) gak_list rfl T.list PyProof.Rows.boot_list (ca_cons (ce_v 3) ca_nil star_name) (he := star_name)) ca_nil star_call) star_call) star_call)))
      (css_cons [1, 2, 3, 5] [1, 2, 3, 5] (cs_if (ct_w (cw_or (ct_cmp (r := rNeA K) (op_neA hu) gok_ne (ce_call Dshow_numbers (hr.mono (by decide)) rfl pass0 (ca_cons (ce_ix K (ce_v 5) ce_int plain_const) ca_nil star_sub) (he := star_sub)) (ce_call D_law_line (hr.mono (by decide)) rfl pass0 (ca_cons (ce_v 1) ca_nil star_name) (he := star_name)) (nomark _)) (cw_or1 (ct_cmp (r := rNeA K) (op_neA hu) gok_ne (ce_call Dshow_numbers (hr.mono (by decide)) rfl pass0 (ca_cons (ce_ix K (ce_v 5) ce_int plain_const) ca_nil star_sub) (he := star_sub)) (ce_call D_law_line (hr.mono (by decide)) rfl pass0 (ca_cons (ce_v 3) ca_nil star_name) (he := star_name)) (nomark _))))) (css_one (cs_ret ce_bl)) css_nil)
      (css_cons [1, 2, 3, 5] [1, 2, 3, 5] (cs_if (ct_w (cw_or (ct_cmp (r := rNeA K) (op_neA hu) gok_ne (ce_call Dshow_table (hr.mono (by decide)) rfl pass0 (ca_cons (ce_ix K (ce_v 5) ce_int plain_const) ca_nil star_sub) (he := star_sub)) (ce_call D_law_table_line (hr.mono (by decide)) rfl pass0 (ca_cons (ce_v 2) ca_nil star_name) (he := star_name)) (nomark _)) (cw_or1 (ct_cmp (r := rNeA K) (op_neA hu) gok_ne (ce_v 5) (ce_lst1 (ca_cons (ce_v 1) (ca_cons (ce_v 2) (ca_cons (ce_v 3) ca_nil star_name) star_name) star_name)) (nomark _))))) (css_one (cs_ret ce_bl)) css_nil)
      (css_cons [1, 2, 3, 5, 6] [1, 2, 3, 5, 6] (cs_set (i := 6) sc.nd rfl (Or.inl rfl) (ce_call Dread_numbers (hr.mono (by decide)) rfl pass0 (ca_cons (ce_call D_law_line (hr.mono (by decide)) rfl pass0 (ca_cons (ce_v 1) ca_nil star_name) (he := star_name)) ca_nil star_call) (he := star_call)))
      (css_cons [1, 2, 3, 5, 6, 7] [1, 2, 3, 5, 6, 7] (cs_set (i := 7) sc.nd rfl (Or.inl rfl) (ce_call Dread_table (hr.mono (by decide)) rfl pass0 (ca_cons (ce_call D_law_table_line (hr.mono (by decide)) rfl pass0 (ca_cons (ce_v 2) ca_nil star_name) (he := star_name)) ca_nil star_call) (he := star_call)))
      (css_cons [1, 2, 3, 5, 6, 7] [1, 2, 3, 5, 6, 7] (cs_if (ct_w (cw_or (ct_not (ct_val (ce_call D_law_is_list (hr.mono (by decide)) rfl pass0 (ca_cons (ce_v 6) (ca_cons (ce_v 1) ca_nil star_name) star_name) (he := star_name)))) (cw_or1 (ct_not (ct_val (ce_call D_law_is_table (hr.mono (by decide)) rfl pass0 (ca_cons (ce_v 7) (ca_cons (ce_v 2) ca_nil star_name) star_name) (he := star_name))))))) (css_one (cs_ret ce_bl)) css_nil)
      (css_cons [1, 2, 3, 5, 6, 7] [1, 2, 3, 5, 6, 7] (cs_app (i := 6) (he := ce_int) (hse := star_const))
      (css_one (cs_clear (i := 7))))))))))))
      (css_one (cs_ret (ce_and (ce_cmp (r := rEqA K) (op_eqA hu) gok_eq (ce_call Dread_numbers (hr.mono (by decide)) rfl pass0 (ca_cons ce_str ca_nil star_const) (he := star_const)) (ce_lst ca_nil) (nomark _)) (ce_one (ce_cmp (r := rEqA K) (op_eqA hu) gok_eq (ce_call Dread_table (hr.mono (by decide)) rfl pass0 (ca_cons ce_str ca_nil star_const) (he := star_const)) (ce_lst ca_nil) (nomark _))))))))))⟩
end
noncomputable def spLaw (K : PySem.W.Frag) : Sp := fun vs H Q _ => ∃ (a : Addr) (ns : List Int), vs = [.ref a] ∧ FzL K H a (ns.map V.int) ∧ ns.length ≤ 63 ∧ ∀ H', Q (.bl true) H'
theorem fz_of {K : PySem.W.Frag} {H : Hp} {a : Addr} {xs : List V} (hO : Only H) (h : SqL K H a xs) : FzL K H a xs := by
  rcases h with (h | h) | h
  · rcases hO a with z | ⟨o, ys, z⟩
    · rw [h] at z; cases z
    · rw [h] at z; cases z
  · exact .inl h
  · exact .inr h
theorem law_true (ns : List Int) (h : ns.length ≤ 63) : Dl.F_law [.scr ns] = .ok (.bl true) := Dl.law91_true ns h
theorem all_mk {l : PySem.W.OpenLaw} {w : World} {K : PySem.W.Frag} {h : Heap} {mg : Str → Option Value} {fa f1 f2 f3 f4 f5 f6 f7 f8 f9 f10 f11 f12 f13 f14 f15 f16 f17 f18 f19 f20 f21 f22 f23 : Addr} (X : K.In h) (G : h.Ns mainGlobals mg) (hfa : mg "law" = some (.ref fa))
    {fd1 fd2 fd3 fd4 fd5 fd6 fd7 fd8 fd9 fd10 fd11 fd12 fd13 fd14 fd15 fd16 fd17 fd18 fd19 fd20 fd21 fd22 fd23 : FuncData}
    (a1 : PySem.W.nsIn K mainGlobals "is_name" = some (some (.ref f1))) (F1 : Fun K "is_name" "is_name" sis_name f1 fd1)
    (a2 : PySem.W.nsIn K mainGlobals "is_kind" = some (some (.ref f2))) (F2 : Fun K "is_kind" "is_kind" sis_kind f2 fd2)
    (a3 : PySem.W.nsIn K mainGlobals "fault" = some (some (.ref f3))) (F3 : Fun K "fault" "fault" sfault f3 fd3)
    (a4 : PySem.W.nsIn K mainGlobals "show_numbers" = some (some (.ref f4))) (F4 : Fun K "show_numbers" "show_numbers" sshow_numbers f4 fd4)
    (a5 : PySem.W.nsIn K mainGlobals "show_table" = some (some (.ref f5))) (F5 : Fun K "show_table" "show_table" sshow_table f5 fd5)
    (a6 : PySem.W.nsIn K mainGlobals "is_number" = some (some (.ref f6))) (F6 : Fun K "is_number" "is_number" sis_number f6 fd6)
    (a7 : PySem.W.nsIn K mainGlobals "read_number" = some (some (.ref f7))) (F7 : Fun K "read_number" "read_number" sread_number f7 fd7)
    (a8 : PySem.W.nsIn K mainGlobals "read_name" = some (some (.ref f8))) (F8 : Fun K "read_name" "read_name" sread_name f8 fd8)
    (a9 : PySem.W.nsIn K mainGlobals "read_numbers" = some (some (.ref f9))) (F9 : Fun K "read_numbers" "read_numbers" sread_numbers f9 fd9)
    (a10 : PySem.W.nsIn K mainGlobals "read_kind" = some (some (.ref f10))) (F10 : Fun K "read_kind" "read_kind" sread_kind f10 fd10)
    (a11 : PySem.W.nsIn K mainGlobals "read_table" = some (some (.ref f11))) (F11 : Fun K "read_table" "read_table" sread_table f11 fd11)
    (a12 : PySem.W.nsIn K mainGlobals "_law_cell" = some (some (.ref f12))) (F12 : Fun K "_law_cell" "_law_cell" s_law_cell f12 fd12)
    (a13 : PySem.W.nsIn K mainGlobals "_law_mix" = some (some (.ref f13))) (F13 : Fun K "_law_mix" "_law_mix" s_law_mix f13 fd13)
    (a14 : PySem.W.nsIn K mainGlobals "_law_row" = some (some (.ref f14))) (F14 : Fun K "_law_row" "_law_row" s_law_row f14 fd14)
    (a15 : PySem.W.nsIn K mainGlobals "_law_table" = some (some (.ref f15))) (F15 : Fun K "_law_table" "_law_table" s_law_table f15 fd15)
    (a16 : PySem.W.nsIn K mainGlobals "_law_is_whole" = some (some (.ref f16))) (F16 : Fun K "_law_is_whole" "_law_is_whole" s_law_is_whole f16 fd16)
    (a17 : PySem.W.nsIn K mainGlobals "_law_line" = some (some (.ref f17))) (F17 : Fun K "_law_line" "_law_line" s_law_line f17 fd17)
    (a18 : PySem.W.nsIn K mainGlobals "_law_table_line" = some (some (.ref f18))) (F18 : Fun K "_law_table_line" "_law_table_line" s_law_table_line f18 fd18)
    (a19 : PySem.W.nsIn K mainGlobals "_law_renamed" = some (some (.ref f19))) (F19 : Fun K "_law_renamed" "_law_renamed" s_law_renamed f19 fd19)
    (a20 : PySem.W.nsIn K mainGlobals "_law_numbers" = some (some (.ref f20))) (F20 : Fun K "_law_numbers" "_law_numbers" s_law_numbers f20 fd20)
    (a21 : PySem.W.nsIn K mainGlobals "_law_is_list" = some (some (.ref f21))) (F21 : Fun K "_law_is_list" "_law_is_list" s_law_is_list f21 fd21)
    (a22 : PySem.W.nsIn K mainGlobals "_law_is_table" = some (some (.ref f22))) (F22 : Fun K "_law_is_table" "_law_is_table" s_law_is_table f22 fd22)
    (a23 : PySem.W.nsIn K mainGlobals "law" = some (some (.ref f23))) (F23 : Fun K "law" "law" slaw f23 fd23)
    (z1 : PySem.W.nsIn K mainGlobals "all" = some none)
    (z2 : PySem.W.nsIn K mainGlobals "len" = some none)
    (z3 : PySem.W.nsIn K mainGlobals "enumerate" = some none)
    (z4 : PySem.W.nsIn K mainGlobals "str" = some none)
    (z5 : PySem.W.nsIn K mainGlobals "any" = some none)
    (z6 : PySem.W.nsIn K mainGlobals "int" = some none)
    (z7 : PySem.W.nsIn K mainGlobals "range" = some none)
    (z8 : PySem.W.nsIn K mainGlobals "min" = some none)
    (z9 : PySem.W.nsIn K mainGlobals "isinstance" = some none)
    (z10 : PySem.W.nsIn K mainGlobals "bool" = some none)
    (z11 : PySem.W.nsIn K mainGlobals "list" = some none)
    (z12 : PySem.W.nsIn K mainGlobals "tuple" = some none)
    {tv1 : Tok} (v1 : PySem.W.nsIn K mainGlobals "MOST_KINDS" = some (some (.int 8 tv1)))
    {tv2 : Tok} (v2 : PySem.W.nsIn K mainGlobals "LONGEST_NAME" = some (some (.int 8 tv2)))
    {tv3 : Tok} (v3 : PySem.W.nsIn K mainGlobals "GREATEST_WIDTH" = some (some (.int 200 tv3)))
    {tv4 : Tok} (v4 : PySem.W.nsIn K mainGlobals "GREATEST_WORTH" = some (some (.int 1000000000000000000 tv4)))
    {tv5 : Tok} (v5 : PySem.W.nsIn K mainGlobals "GREATEST_ALLOWED" = some (some (.int 999999999999999999 tv5)))
    {tv6 : Tok} (v6 : PySem.W.nsIn K mainGlobals "NONE" = some (some (.str ("-" : Str) tv6)))
    {tv7 : Tok} (v7 : PySem.W.nsIn K mainGlobals "MOST_FIGURES" = some (some (.int 20 tv7)))
    : ∃ fd : FuncData, (∀ (s : Shared) (v : Value), BindsTo s fd ⟨[v], []⟩ [("_law_script", v)]) ∧ ∀ base : Heap, K.In base → base.Ns mainGlobals mg → FnOk l.prog w K mg base CX0 11 fa fd ["_law_script"] (spLaw K) := by
  have e := hfa.symm.trans (PySem.W.mg_of X G a23)
  cases e
  have T : Txt mg := ⟨PySem.W.mg_none_of X G z1, PySem.W.mg_none_of X G z2, PySem.W.mg_none_of X G z3, PySem.W.mg_none_of X G z4, PySem.W.mg_none_of X G z5, PySem.W.mg_none_of X G z6, PySem.W.mg_none_of X G z7, PySem.W.mg_none_of X G z8, PySem.W.mg_none_of X G z9, PySem.W.mg_none_of X G z10, PySem.W.mg_none_of X G z11, PySem.W.mg_none_of X G z12, ⟨tv1, PySem.W.mg_of X G v1⟩, ⟨tv2, PySem.W.mg_of X G v2⟩, ⟨tv3, PySem.W.mg_of X G v3⟩, ⟨tv4, PySem.W.mg_of X G v4⟩, ⟨tv5, PySem.W.mg_of X G v5⟩, ⟨tv6, PySem.W.mg_of X G v6⟩, ⟨tv7, PySem.W.mg_of X G v7⟩⟩
  obtain ⟨oc, od, kV, doc, pm, an, cdv, ct, osl, rfl, lk, hcd⟩ := F23.ex
  refine ⟨PySem.W.fnOf "law" "law" (defArgs slaw) (defBody slaw) (defScope slaw) .none kV doc pm an cdv ct, fun s v => .of_eq rfl, fun base _ _ => ?_⟩
  have b1 := F1.binds (ps := ["text"]) fun _ _ _ _ _ _ => allN1 (fun _ => rfl)
  have Dis_name : Def l.prog w K mg base CX0 7 "is_name" ["text"] (spD K (fun _ => 0) 1 2 Dl.F_is_name) := ⟨f1, _, PySem.W.mg_of X G a1, F1.kp, b1, okis_name F1 T⟩
  have b4 := F4.binds (ps := ["some"]) fun _ _ _ _ _ _ => allN1 (fun _ => rfl)
  have Dshow_numbers : Def l.prog w K mg base CX0 7 "show_numbers" ["some"] (spD K (fun _ => 0) 1 2 Dl.F_show_numbers) := ⟨f4, _, PySem.W.mg_of X G a4, F4.kp, b4, okshow_numbers F4 T⟩
  have b5 := F5.binds (ps := ["table"]) fun _ _ _ _ _ _ => allN1 (fun _ => rfl)
  have Dshow_table : Def l.prog w K mg base CX0 7 "show_table" ["table"] (spD K (fun _ => 0) 1 2 Dl.F_show_table) := ⟨f5, _, PySem.W.mg_of X G a5, F5.kp, b5, okshow_table F5 T⟩
  have b6 := F6.binds (ps := ["word"]) fun _ _ _ _ _ _ => allN1 (fun _ => rfl)
  have Dis_number : Def l.prog w K mg base CX0 7 "is_number" ["word"] (spD K (fun _ => 0) 1 2 Dl.F_is_number) := ⟨f6, _, PySem.W.mg_of X G a6, F6.kp, b6, okis_number F6 T⟩
  have b12 := F12.binds (ps := ["_law_script", "_law_place"]) fun _ _ _ _ _ _ => allN2 (fun _ _ => rfl)
  have D_law_cell : Def l.prog w K mg base CX0 7 "_law_cell" ["_law_script", "_law_place"] (spD K (fun _ => 0) 2 2 Dl.F__law_cell) := ⟨f12, _, PySem.W.mg_of X G a12, F12.kp, b12, ok_law_cell F12 T⟩
  have b13 := F13.binds (ps := ["_law_cell_here", "_law_k"]) fun _ _ _ _ _ _ => allN2 (fun _ _ => rfl)
  have D_law_mix : Def l.prog w K mg base CX0 7 "_law_mix" ["_law_cell_here", "_law_k"] (spD K (fun _ => 0) 2 2 Dl.F__law_mix) := ⟨f13, _, PySem.W.mg_of X G a13, F13.kp, b13, ok_law_mix F13 T⟩
  have b16 := F16.binds (ps := ["_law_one"]) fun _ _ _ _ _ _ => allN1 (fun _ => rfl)
  have D_law_is_whole : Def l.prog w K mg base CX0 7 "_law_is_whole" ["_law_one"] (spD K (fun _ => 0) 1 2 Dl.F__law_is_whole) := ⟨f16, _, PySem.W.mg_of X G a16, F16.kp, b16, ok_law_is_whole F16 T⟩
  have b17 := F17.binds (ps := ["_law_some"]) fun _ _ _ _ _ _ => allN1 (fun _ => rfl)
  have D_law_line : Def l.prog w K mg base CX0 7 "_law_line" ["_law_some"] (spD K (fun _ => 0) 1 2 Dl.F__law_line) := ⟨f17, _, PySem.W.mg_of X G a17, F17.kp, b17, ok_law_line F17 T⟩
  have b18 := F18.binds (ps := ["_law_table_here"]) fun _ _ _ _ _ _ => allN1 (fun _ => rfl)
  have D_law_table_line : Def l.prog w K mg base CX0 7 "_law_table_line" ["_law_table_here"] (spD K (fun _ => 0) 1 2 Dl.F__law_table_line) := ⟨f18, _, PySem.W.mg_of X G a18, F18.kp, b18, ok_law_table_line F18 T⟩
  have b2 := F2.binds (ps := ["name", "width", "worth", "allowed"]) fun _ _ _ _ _ _ => allN4 (fun _ _ _ _ => rfl)
  have Dis_kind : Def l.prog w K mg base CX0 8 "is_kind" ["name", "width", "worth", "allowed"] (spD K (fun _ => 0) 4 2 Dl.F_is_kind) := ⟨f2, _, PySem.W.mg_of X G a2, F2.kp, b2, okis_kind F2 T Dis_name⟩
  have b7 := F7.binds (ps := ["word"]) fun _ _ _ _ _ _ => allN1 (fun _ => rfl)
  have Dread_number : Def l.prog w K mg base CX0 8 "read_number" ["word"] (spD K (fun _ => 0) 1 2 Dl.F_read_number) := ⟨f7, _, PySem.W.mg_of X G a7, F7.kp, b7, okread_number F7 T Dis_number⟩
  have b8 := F8.binds (ps := ["word"]) fun _ _ _ _ _ _ => allN1 (fun _ => rfl)
  have Dread_name : Def l.prog w K mg base CX0 8 "read_name" ["word"] (spD K (fun _ => 0) 1 2 Dl.F_read_name) := ⟨f8, _, PySem.W.mg_of X G a8, F8.kp, b8, okread_name F8 T Dis_name⟩
  have b14 := F14.binds (ps := ["_law_script", "_law_place", "_law_sizes"]) fun _ _ _ _ _ _ => allN3 (fun _ _ _ => rfl)
  have D_law_row : Def l.prog w K mg base CX0 8 "_law_row" ["_law_script", "_law_place", "_law_sizes"] (spD K (fun _ => 0) 3 2 Dl.F__law_row) := ⟨f14, _, PySem.W.mg_of X G a14, F14.kp, b14, ok_law_row F14 T D_law_cell D_law_mix⟩
  have b21 := F21.binds (ps := ["_law_found", "_law_due"]) fun _ _ _ _ _ _ => allN2 (fun _ _ => rfl)
  have D_law_is_list : Def l.prog w K mg base CX0 8 "_law_is_list" ["_law_found", "_law_due"] (spD K (fun _ => 0) 2 2 Dl.F__law_is_list) := ⟨f21, _, PySem.W.mg_of X G a21, F21.kp, b21, ok_law_is_list F21 T D_law_is_whole⟩
  have b22 := F22.binds (ps := ["_law_found", "_law_due"]) fun _ _ _ _ _ _ => allN2 (fun _ _ => rfl)
  have D_law_is_table : Def l.prog w K mg base CX0 8 "_law_is_table" ["_law_found", "_law_due"] (spD K (fun _ => 0) 2 2 Dl.F__law_is_table) := ⟨f22, _, PySem.W.mg_of X G a22, F22.kp, b22, ok_law_is_table F22 T D_law_is_whole⟩
  have b3 := F3.binds (ps := ["table"]) fun _ _ _ _ _ _ => allN1 (fun _ => rfl)
  have Dfault : Def l.prog w K mg base CX0 9 "fault" ["table"] (spD K (fun _ => 0) 1 2 Dl.F_fault) := ⟨f3, _, PySem.W.mg_of X G a3, F3.kp, b3, okfault F3 T Dis_kind⟩
  have b9 := F9.binds (ps := ["line"]) fun _ _ _ _ _ _ => allN1 (fun _ => rfl)
  have Dread_numbers : Def l.prog w K mg base CX0 9 "read_numbers" ["line"] (spD K (fun _ => 0) 1 2 Dl.F_read_numbers) := ⟨f9, _, PySem.W.mg_of X G a9, F9.kp, b9, okread_numbers F9 T Dread_number⟩
  have b10 := F10.binds (ps := ["text"]) fun _ _ _ _ _ _ => allN1 (fun _ => rfl)
  have Dread_kind : Def l.prog w K mg base CX0 9 "read_kind" ["text"] (spD K (fun _ => 0) 1 2 Dl.F_read_kind) := ⟨f10, _, PySem.W.mg_of X G a10, F10.kp, b10, okread_kind F10 T Dread_name Dread_number⟩
  have b15 := F15.binds (ps := ["_law_script", "_law_place", "_law_most"]) fun _ _ _ _ _ _ => allN3 (fun _ _ _ => rfl)
  have D_law_table : Def l.prog w K mg base CX0 9 "_law_table" ["_law_script", "_law_place", "_law_most"] (spD K (fun _ => 0) 3 2 Dl.G__law_table) := ⟨f15, _, PySem.W.mg_of X G a15, F15.kp, b15, ok_law_table F15 T D_law_row⟩
  have b19 := F19.binds (ps := ["_law_script", "_law_place", "_law_table_here"]) fun _ _ _ _ _ _ => allN3 (fun _ _ _ => rfl)
  have D_law_renamed : Def l.prog w K mg base CX0 9 "_law_renamed" ["_law_script", "_law_place", "_law_table_here"] (spD K (fun _ => 0) 3 2 Dl.F__law_renamed) := ⟨f19, _, PySem.W.mg_of X G a19, F19.kp, b19, ok_law_renamed F19 T D_law_row⟩
  have b20 := F20.binds (ps := ["_law_script", "_law_place"]) fun _ _ _ _ _ _ => allN2 (fun _ _ => rfl)
  have D_law_numbers : Def l.prog w K mg base CX0 9 "_law_numbers" ["_law_script", "_law_place"] (spD K (fun _ => 0) 2 2 Dl.F__law_numbers) := ⟨f20, _, PySem.W.mg_of X G a20, F20.kp, b20, ok_law_numbers F20 T D_law_row⟩
  have b11 := F11.binds (ps := ["line"]) fun _ _ _ _ _ _ => allN1 (fun _ => rfl)
  have Dread_table : Def l.prog w K mg base CX0 10 "read_table" ["line"] (spD K (fun _ => 0) 1 2 Dl.F_read_table) := ⟨f11, _, PySem.W.mg_of X G a11, F11.kp, b11, okread_table F11 T Dread_kind Dfault⟩
  exact (oklaw (C := fun _ => 0) F23 T D_law_numbers D_law_renamed D_law_table Dread_numbers Dread_table D_law_line D_law_table_line Dshow_numbers Dshow_table D_law_is_list D_law_is_table).imp fun vs H Q E h => by
    obtain ⟨a, ns, rfl, hz, hl, q⟩ := h
    refine ⟨[.scr ns], [], rfl, ⟨.ref a, [], [], [], rfl, ⟨a, rfl, hz, rfl⟩, ⟨rfl, rfl⟩, rfl⟩, ?_⟩
    rw [law_true ns hl]
    rintro v H' _ ⟨B, r, _⟩
    obtain ⟨rfl, _⟩ := r
    exact q H'
theorem walk {l : PySem.W.OpenLaw} {q : Program} {loose : List Str} {XP : (Str → Option Value) → Heap → Prop} {YP : World → Heap → Prop} {d : DefRec} {K : Params → PySem.W.Frag} (hn : l.most = some 63) (hdf : d.params.defaults = [])
    (hY : ∀ (w : World) (h : Heap), YP w h → (K w.params).In h)
    (F : ∀ (w : World) (mg : Str → Option Value) (fa : Addr) (h : Heap), (K w.params).In h → h.Ns mainGlobals mg → mg d.name = some (.ref fa) →
      ∃ fd : FuncData, (∀ (s : Shared) (u : Value), BindsTo s fd ⟨[u], []⟩ [("_law_script", u)]) ∧ ∀ base : Heap, (K w.params).In base → base.Ns mainGlobals mg → FnOk l.prog w (K w.params) mg base CX0 11 fa fd ["_law_script"] (spLaw (K w.params))) :
    PySem.W.WalkO q loose XP YP l.row.toRowW d [] (fun f vs => PySem.call f vs) :=
  L2.walk_of (n := 63) (k := 11) (x := "_law_script") (CX := fun _ => CX0) (sp := fun w => spLaw (K w.params)) hn (by decide) hdf ⟨rfl, by decide, by decide, rfl⟩ hY F (fun _ H a ns hl hO hS => ⟨a, ns, rfl, fz_of hO hS, hl, fun _ => rfl⟩) fun _ _ _ _ _ z => z
end K91
open PySem PySem.W PyProof.Rows
set_option maxRecDepth 100000 in
set_option maxHeartbeats 0 in
theorem PySem.Challenge.cw_selvage_k91_numbers_and_tables_holds : PySem.Challenge.rw_selvage_k91_numbers_and_tables.Holds := by
  w_on; o_law; z_head; (case hw => w_witness2)
  k_fill
  refine L2.walkX_of (fun _ => by kernel_rfl) (K91.walk (l := PySem.Challenge.rw_selvage_k91_numbers_and_tables) rfl rfl (fun w h Y => Y) ?F)
  case F =>
    intro w mg fa h KX G hmg
    refine' K91.all_mk KX G hmg ?a1 (L2.fun_mk ?l1 ?c1 ?k1) ?a2 (L2.fun_mk ?l2 ?c2 ?k2) ?a3 (L2.fun_mk ?l3 ?c3 ?k3) ?a4 (L2.fun_mk ?l4 ?c4 ?k4) ?a5 (L2.fun_mk ?l5 ?c5 ?k5) ?a6 (L2.fun_mk ?l6 ?c6 ?k6) ?a7 (L2.fun_mk ?l7 ?c7 ?k7) ?a8 (L2.fun_mk ?l8 ?c8 ?k8) ?a9 (L2.fun_mk ?l9 ?c9 ?k9) ?a10 (L2.fun_mk ?l10 ?c10 ?k10) ?a11 (L2.fun_mk ?l11 ?c11 ?k11) ?a12 (L2.fun_mk ?l12 ?c12 ?k12) ?a13 (L2.fun_mk ?l13 ?c13 ?k13) ?a14 (L2.fun_mk ?l14 ?c14 ?k14) ?a15 (L2.fun_mk ?l15 ?c15 ?k15) ?a16 (L2.fun_mk ?l16 ?c16 ?k16) ?a17 (L2.fun_mk ?l17 ?c17 ?k17) ?a18 (L2.fun_mk ?l18 ?c18 ?k18) ?a19 (L2.fun_mk ?l19 ?c19 ?k19) ?a20 (L2.fun_mk ?l20 ?c20 ?k20) ?a21 (L2.fun_mk ?l21 ?c21 ?k21) ?a22 (L2.fun_mk ?l22 ?c22 ?k22) ?a23 (L2.fun_mk ?l23 ?c23 ?k23) ?z1 ?z2 ?z3 ?z4 ?z5 ?z6 ?z7 ?z8 ?z9 ?z10 ?z11 ?z12 ?v1 ?v2 ?v3 ?v4 ?v5 ?v6 ?v7
    (case a1 => k_is)
    (case l1 => k_is)
    (case c1 => k_is)
    (case k1 => k_is)
    (case a2 => k_is)
    (case l2 => k_is)
    (case c2 => k_is)
    (case k2 => k_is)
    (case a3 => k_is)
    (case l3 => k_is)
    (case c3 => k_is)
    (case k3 => k_is)
    (case a4 => k_is)
    (case l4 => k_is)
    (case c4 => k_is)
    (case k4 => k_is)
    (case a5 => k_is)
    (case l5 => k_is)
    (case c5 => k_is)
    (case k5 => k_is)
    (case a6 => k_is)
    (case l6 => k_is)
    (case c6 => k_is)
    (case k6 => k_is)
    (case a7 => k_is)
    (case l7 => k_is)
    (case c7 => k_is)
    (case k7 => k_is)
    (case a8 => k_is)
    (case l8 => k_is)
    (case c8 => k_is)
    (case k8 => k_is)
    (case a9 => k_is)
    (case l9 => k_is)
    (case c9 => k_is)
    (case k9 => k_is)
    (case a10 => k_is)
    (case l10 => k_is)
    (case c10 => k_is)
    (case k10 => k_is)
    (case a11 => k_is)
    (case l11 => k_is)
    (case c11 => k_is)
    (case k11 => k_is)
    (case a12 => k_is)
    (case l12 => k_is)
    (case c12 => k_is)
    (case k12 => k_is)
    (case a13 => k_is)
    (case l13 => k_is)
    (case c13 => k_is)
    (case k13 => k_is)
    (case a14 => k_is)
    (case l14 => k_is)
    (case c14 => k_is)
    (case k14 => k_is)
    (case a15 => k_is)
    (case l15 => k_is)
    (case c15 => k_is)
    (case k15 => k_is)
    (case a16 => k_is)
    (case l16 => k_is)
    (case c16 => k_is)
    (case k16 => k_is)
    (case a17 => k_is)
    (case l17 => k_is)
    (case c17 => k_is)
    (case k17 => k_is)
    (case a18 => k_is)
    (case l18 => k_is)
    (case c18 => k_is)
    (case k18 => k_is)
    (case a19 => k_is)
    (case l19 => k_is)
    (case c19 => k_is)
    (case k19 => k_is)
    (case a20 => k_is)
    (case l20 => k_is)
    (case c20 => k_is)
    (case k20 => k_is)
    (case a21 => k_is)
    (case l21 => k_is)
    (case c21 => k_is)
    (case k21 => k_is)
    (case a22 => k_is)
    (case l22 => k_is)
    (case c22 => k_is)
    (case k22 => k_is)
    (case a23 => k_is)
    (case l23 => k_is)
    (case c23 => k_is)
    (case k23 => k_is)
    (case z1 => k_is)
    (case z2 => k_is)
    (case z3 => k_is)
    (case z4 => k_is)
    (case z5 => k_is)
    (case z6 => k_is)
    (case z7 => k_is)
    (case z8 => k_is)
    (case z9 => k_is)
    (case z10 => k_is)
    (case z11 => k_is)
    (case z12 => k_is)
    (case v1 => k_is)
    (case v2 => k_is)
    (case v3 => k_is)
    (case v4 => k_is)
    (case v5 => k_is)
    (case v6 => k_is)
    (case v7 => k_is)

