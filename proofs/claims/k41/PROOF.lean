import PyProof.Rows.All
import Wide.All
import OpenK.AllK
import Wide.FinOn
import Lean
import PyProof.EqAt
import PyProof.EqKinds
import PyProof.TupleCall
import PySem.Challenge.RW_selvage_k41_parting_loss
set_option Elab.async false
set_option linter.all false
set_option maxRecDepth 100000
/-! THE HAND LAYER, for ints, bools, texts, own classes, LISTS and tuples (index, slices, in, append, pop ..), calls, loops. Paste it whole ahead of your own text; what your proof does not reach may be deleted. -/
namespace L2
open PySem PySem.Spec PyProof.Rows

/-- a key: an int or a str -/
abbrev Key := Sum Int Str
def keyIs : Key → Value → Bool
  | .inl k, v => Value.isInt k v
  | .inr x, v => Value.isStrOf x v
def keyH (w : World) : Key → Int
  | .inl k => hashInt k
  | .inr x => hashStr w x
theorem keyIs_shape : ∀ {k : Key} {v : Value}, keyIs k v = true → (∃ i t, k = Sum.inl i ∧ v = Value.int i t) ∨ (∃ x t, k = Sum.inr x ∧ v = Value.str x t)
  | .inl i, v, h => by
    obtain ⟨t, e⟩ := Value.isInt_shape (k := i) (v := v) h
    exact .inl ⟨i, t, rfl, e⟩
  | .inr x, v, h => by
    obtain ⟨t, e⟩ := Value.isStrOf_shape (x := x) (v := v) h
    exact .inr ⟨x, t, rfl, e⟩
theorem keyIs_int (i : Int) (t : Tok) : keyIs (.inl i) (.int i t) = true := by simp [keyIs, Value.isInt]
theorem keyIs_str (x : Str) (t : Tok) : keyIs (.inr x) (.str x t) = true := by simp [keyIs, Value.isStrOf]
theorem key_ll (a b : Int) : decide ((Sum.inl a : Key) = Sum.inl b) = (a == b) := by
  by_cases e : a = b
  · subst e; simp
  · have h : ¬ (Sum.inl a : Key) = Sum.inl b := fun q => e (Sum.inl.inj q)
    rw [decide_eq_false h]
    exact (beq_eq_false_iff_ne.mpr e).symm
theorem key_rr (a b : Str) : decide ((Sum.inr a : Key) = Sum.inr b) = decide (a = b) := by
  by_cases e : a = b
  · subst e; simp
  · have h : ¬ (Sum.inr a : Key) = Sum.inr b := fun q => e (Sum.inr.inj q)
    rw [decide_eq_false h, decide_eq_false e]
theorem key_lr (a : Int) (b : Str) : decide ((Sum.inl a : Key) = Sum.inr b) = false := decide_eq_false (fun q => nomatch q)
theorem key_rl (a : Str) (b : Int) : decide ((Sum.inr a : Key) = Sum.inl b) = false := decide_eq_false (fun q => nomatch q)

def mixKind (prog : Program) (w : World) : PySem.KeyKind prog w Key where
  is := keyIs
  hash := keyH w
  inj := fun v a b ha hb => by
    rcases keyIs_shape ha with ⟨i, t, rfl, rfl⟩ | ⟨x, t, rfl, rfl⟩
    · rcases keyIs_shape hb with ⟨j, u, rfl, e⟩ | ⟨y, u, rfl, e⟩
      · injection e with e1 _; rw [e1]
      · exact nomatch e
    · rcases keyIs_shape hb with ⟨j, u, rfl, e⟩ | ⟨y, u, rfl, e⟩
      · exact nomatch e
      · injection e with e1 _; rw [e1]
  byValue := fun k v h => by
    rcases keyIs_shape h with ⟨i, t, rfl, rfl⟩ | ⟨x, t, rfl, rfl⟩ <;> rfl
  pyHash := fun hv h => by
    rcases keyIs_shape hv with ⟨i, t, rfl, rfl⟩ | ⟨x, t, rfl, rfl⟩
    · exact wpAny_pyHash_int h
    · exact wpAny_pyHash_str h
  eqBool := fun hu hv h => by
    rcases keyIs_shape hu with ⟨i, t, rfl, rfl⟩ | ⟨x, t, rfl, rfl⟩
    · rcases keyIs_shape hv with ⟨j, u, rfl, rfl⟩ | ⟨y, u, rfl, rfl⟩
      · rw [key_ll] at h; exact wpAny_eqBool_int h
      · rw [key_lr] at h; exact SeqAt.EqAt.int_str i t y u _ _ _ _ h
    · rcases keyIs_shape hv with ⟨j, u, rfl, rfl⟩ | ⟨y, u, rfl, rfl⟩
      · rw [key_rl] at h; exact SeqAt.EqAt.str_int x t j u _ _ _ _ h
      · rw [key_rr] at h; exact wpAny_eqBool_str h
  «strs» := fun k x t v h => by
    rcases keyIs_shape h with ⟨i, u, rfl, e⟩ | ⟨y, u, rfl, e⟩
    · exact nomatch e
    · injection e with e1 _
      subst e1
      cases v <;> rfl

theorem mixKind_is (prog : Program) (w : World) (k : Key) (v : Value) : (mixKind prog w).is k v = keyIs k v := rfl
theorem mixKind_int (prog : Program) (w : World) (i : Int) (t : Tok) : (mixKind prog w).is (.inl i) (.int i t) = true := keyIs_int i t
theorem mixKind_str (prog : Program) (w : World) (x : Str) (t : Tok) : (mixKind prog w).is (.inr x) (.str x t) = true := keyIs_str x t
end L2

namespace L2
open PySem PySem.Spec PyProof.Rows

/-- a value, without the heap -/
inductive V where
  | non | bl (b : Bool) | int (i : Int) | str (x : Str) | byt (b : Array UInt8) | flt (b : UInt64) | ref (a : Addr) | ty (n : String)
  deriving DecidableEq

def RelV : V → Value → Prop
  | .non, u => u = Value.none
  | .bl b, u => u = Value.bool b
  | .int i, u => ∃ t, u = Value.int i t
  | .str x, u => ∃ t, u = Value.str x t
  | .byt b, u => ∃ t, u = Value.bytes b t
  | .flt b, u => ∃ t, u = Value.float b t
  | .ref a, u => u = Value.ref a
  | .ty n, u => u = Value.type n

abbrev Vals : List V → List Value → Prop := Paired RelV
theorem Vals.length {xs : List V} {us : List Value} (r : Vals xs us) : xs.length = us.length := Paired.length r
theorem Vals.get : ∀ {xs : List V} {us : List Value} {i : Nat} {x : V}, Vals xs us → xs[i]? = some x → ∃ u, us[i]? = some u ∧ RelV x u
  | _, _, _, _, .nil, e => by simp at e
  | _, _, 0, _, .cons r _, e => by simp at e; subst e; exact ⟨_, rfl, r⟩
  | _, _, i + 1, x, .cons _ t, e => by
    obtain ⟨u, h1, h2⟩ := Vals.get (i := i) (x := x) t (by simpa using e)
    exact ⟨u, by simpa using h1, h2⟩
theorem Vals.set {x : V} {u : Value} (r : RelV x u) : ∀ {xs : List V} {us : List Value} (i : Nat), Vals xs us → Vals (xs.set i x) (us.set i u)
  | _, _, _, .nil => .nil
  | _, _, 0, .cons _ t => .cons r t
  | _, _, i + 1, .cons q t => .cons q (Vals.set r i t)
theorem Vals.append : ∀ {xs ys : List V} {us ws : List Value}, Vals xs us → Vals ys ws → Vals (xs ++ ys) (us ++ ws)
  | _, _, _, _, .nil, s => s
  | _, _, _, _, .cons r t, s => .cons r (Vals.append t s)
theorem Vals.take : ∀ {xs : List V} {us : List Value} (n : Nat), Vals xs us → Vals (xs.take n) (us.take n)
  | _, _, 0, _ => .nil
  | _, _, _ + 1, .nil => .nil
  | _, _, n + 1, .cons r t => .cons r (Vals.take n t)
theorem Vals.drop : ∀ {xs : List V} {us : List Value} (n : Nat), Vals xs us → Vals (xs.drop n) (us.drop n)
  | _, _, 0, r => r
  | _, _, _ + 1, .nil => .nil
  | _, _, n + 1, .cons _ t => Vals.drop n t
theorem Vals.none_of : ∀ {xs : List V} {us : List Value} {i : Nat}, Vals xs us → xs[i]? = none → us[i]? = none := fun {xs us i} r e => by
  have h1 := r.length
  have h2 : xs.length ≤ i := List.getElem?_eq_none_iff.mp e
  exact List.getElem?_eq_none_iff.mpr (by omega)

def RelO : Option V → Option Value → Prop
  | some v, some u => RelV v u
  | none, none => True
  | _, _ => False
def KV {κ : Type} : List (κ × V) → List (κ × Value) → Prop := Paired fun (p : κ × V) (q : κ × Value) => p.1 = q.1 ∧ RelV p.2 q.2

/-- a key of a dict (00_mix): an int or a text -/
def kV : Key → V
  | .inl i => .int i
  | .inr x => .str x

/-- what stands at a tracked address -/
inductive HO where
  /-- a list -/
  | lst (xs : List V)
  /-- a tuple (never changes) -/
  | tup (xs : List V)
  /-- a dict whose keys are ints and texts; one whose keys are tuples of ints and texts (the empty one is both) -/
  | dK (kvs : List (Key × V)) | dT (kvs : List (List Key × V))
  /-- a set of ints: its members, its size -/
  | set (S : Int → Bool) (n : Nat)
  /-- an instance of the class at C, its dict at dx, its attributes -/
  | ins (C dx : Addr) (fs : List (Str × V))
  /-- the dict of the instance at x -/
  | own (x : Addr)
  /-- the dict of an exception -/
  | xd (fs : List (Str × V))
  /-- a bound method, f of x -/
  | met (f x : Addr)
  /-- a range object lo, lo + 1, .. below hi -/
  | rng (lo hi : Int)
  /-- a thing that is known to the object (the script; a dict while a loop walks it): read, never written while it is so -/
  | frz (o : Obj) (u : HO)
  /-- a code object's table -/
  | tbl (ps : Array Value)
  /-- any other thing, by what is true of its one object (a def of one's own: SetO a S n := HO.ext fun h => ..) -/
  | ext (φ : Heap → Prop)

abbrev Hp := Addr → Option HO
def upd (H : Hp) (a : Addr) (o : HO) : Hp := fun b => if b = a then some o else H b
theorem upd_same {H : Hp} {a : Addr} {o : HO} : upd H a o a = some o := by unfold upd; rw [if_pos rfl]
theorem upd_ne {H : Hp} {a b : Addr} {o : HO} (h : b ≠ a) : upd H a o b = H b := by unfold upd; rw [if_neg h]
theorem upd_upd {H : Hp} {a : Addr} {o u : HO} : upd (upd H a o) a u = upd H a u := by
  funext b; unfold upd; split <;> rfl
/-- two objects of different content stand apart -/
theorem ne_of {H : Hp} {a b : Addr} {o u : HO} (h : H a = some o) (h' : H b = some u) (d : o ≠ u) : a ≠ b := by
  intro e; subst e; rw [h] at h'; exact d (Option.some.inj h')
theorem ne_of_none {H : Hp} {a b : Addr} {o : HO} (h : H a = some o) (h' : H b = none) : a ≠ b := by
  intro e; subst e; rw [h] at h'; cases h'

section
variable (P : Program) (w : World)
def ObjOk (H : Hp) (h : Heap) (a : Addr) : HO → Prop
  | .lst xs => xs.length ≤ sizeLine ∧ ∃ (its : List Value) (n : Nat), Vals xs its ∧ h.get? a = some { cls := .type "list", data := .seq its.toArray n }
  | .tup xs => xs.length ≤ sizeLine ∧ ∃ its : List Value, Vals xs its ∧ IsTup h a its.toArray
  | .dK kvs => kvs.length ≤ sizeLine ∧ (a == sysModules) = false ∧ ∃ vs, KV kvs vs ∧ h.DictOf (mixKind P w) a vs
  | .dT kvs => kvs.length ≤ sizeLine ∧ (a == sysModules) = false ∧ ∃ xs : List (List Key × Addr × Value),
      Paired (fun (p : List Key × V) (q : List Key × Addr × Value) => p.1 = q.1 ∧ H q.2.1 = some (.tup (p.1.map kV)) ∧ RelV p.2 q.2.2) kvs xs ∧
      ∃ o es ep, h.get? a = some o ∧ o.ExactDict ∧ o.data = .dict es ep ∧ es.toList = xs.map (entryOfKey (tupleKind (mixKind P w))) ∧ (xs.map (·.1)).Nodup
  | .set S n => h.SetOf (intKind P w) a S n
  | .ins C dx fs => H dx = some (.own a) ∧ fs.length ≤ 1000 ∧ dx ≠ a ∧ h.get? a = some (PySem.W.instObj C dx) ∧
      ∃ mA, h.Ns1 dx mA ∧ (∀ f, RelO (fs.lookup f) (mA f)) ∧ PySem.Within mA (fs.map (·.1))
  | .own _ => ∃ o, h.get? a = some o
  | .xd fs => ∃ mA, h.Ns1 a mA ∧ ∀ f, RelO (fs.lookup f) (mA f)
  | .rng lo hi => ∃ t u v, h.get? a = some { cls := .type "range", data := .fields #[.int lo t, .int hi u, .int 1 v] }
  | .frz o u => h.get? a = some o ∧ ObjOk H h a u
  | .tbl ps => h.get? a = some { cls := .none, data := .fields ps }
  | .met f x => h.get? a = some (PySem.W.methodObj (.ref f) (.ref x))
  | .ext φ => φ h ∧ (∃ o, h.get? a = some o) ∧ ∀ h1 h2 : Heap, φ h1 → (∀ o, h1.get? a = some o → h2.get? a = some o) → φ h2
/-- the abstract heap is held -/
def HOk (H : Hp) (h : Heap) : Prop := ∀ a o, H a = some o → ObjOk P w H h a o
end

section
variable {P : Program} {w : World} {H H' : Hp} {h h' : Heap} {a : Addr} {o : HO}
theorem ObjOk.lt (x : ObjOk P w H h a o) : a < h.objs.size := by
  cases o with
  | lst xs => obtain ⟨_, _, _, _, e⟩ := x; exact Heap.lt_size e
  | tup xs => obtain ⟨_, _, _, p⟩ := x; exact p.lt
  | dK kvs => obtain ⟨_, _, _, _, o, _, _, e, _⟩ := x; exact Heap.lt_size e
  | dT kvs => obtain ⟨_, _, _, _, o, _, _, e, _⟩ := x; exact Heap.lt_size e
  | set S n => obtain ⟨o, _, _, _, e, _⟩ := x; exact Heap.lt_size e
  | ins C dx fs => obtain ⟨_, _, _, e, _⟩ := x; exact Heap.lt_size e
  | own y => obtain ⟨_, e⟩ := x; exact Heap.lt_size e
  | xd fs => obtain ⟨_, ⟨_, _, _, e, _⟩, _⟩ := x; exact Heap.lt_size e
  | rng lo hi => obtain ⟨_, _, _, e⟩ := x; exact Heap.lt_size e
  | frz ob u => obtain ⟨e, _⟩ := x; exact Heap.lt_size e
  | tbl ps => exact Heap.lt_size (show h.get? a = some _ from x)
  | met f y => exact Heap.lt_size (show h.get? a = some _ from x)
  | ext φ => obtain ⟨_, ⟨_, e⟩, _⟩ := x; exact Heap.lt_size e
theorem Paired.mapP {α β : Type} {F G : α → β → Prop} : ∀ {l₁ : List α} {l₂ : List β}, Paired F l₁ l₂ → (∀ a b, F a b → G a b) → Paired G l₁ l₂
  | _, _, .nil, _ => .nil
  | _, _, .cons r t, f => .cons (f _ _ r) (Paired.mapP t f)
theorem Paired.imp' {α β : Type} {F G : α → β → Prop} (f : ∀ a b, F a b → G a b) {l₁ : List α} {l₂ : List β} (r : Paired F l₁ l₂) : Paired G l₁ l₂ := Paired.mapP r f
/-- what an object's description leans on: its own object, its own dict, the tuples -/
theorem ObjOk.stay (x : ObjOk P w H h a o) (k : ∀ b u, (b = a ∨ H b = some (.own a)) → h.get? b = some u → h'.get? b = some u)
    (ho : ∀ b, H b = some (.own a) → H' b = some (.own a)) (ht : ∀ b xs, H b = some (.tup xs) → H' b = some (.tup xs)) : ObjOk P w H' h' a o := by
  induction o with
  | lst xs => obtain ⟨z, its, n, r, e⟩ := x; exact ⟨z, its, n, r, k _ _ (.inl rfl) e⟩
  | tup xs => obtain ⟨z, its, r, ob, e, c⟩ := x; exact ⟨z, its, r, ob, k _ _ (.inl rfl) e, c⟩
  | dK kvs => obtain ⟨z, y, vs, r, ob, es, ep, e, c⟩ := x; exact ⟨z, y, vs, r, ob, es, ep, k _ _ (.inl rfl) e, c⟩
  | dT kvs =>
    obtain ⟨z, y, xs, r, ob, es, ep, e, c⟩ := x
    exact ⟨z, y, xs, Paired.mapP r fun p q z => ⟨z.1, ht _ _ z.2.1, z.2.2⟩, ob, es, ep, k _ _ (.inl rfl) e, c⟩
  | set S n => obtain ⟨ob, es, ep, t, e, c⟩ := x; exact ⟨ob, es, ep, t, k _ _ (.inl rfl) e, c⟩
  | ins C dx fs =>
    obtain ⟨d, z, ne, e, mA, ⟨od, es, ep, e2, c⟩, r⟩ := x
    exact ⟨ho _ d, z, ne, k _ _ (.inl rfl) e, mA, ⟨od, es, ep, k _ _ (.inr d) e2, c⟩, r⟩
  | own y => obtain ⟨ob, e⟩ := x; exact ⟨ob, k _ _ (.inl rfl) e⟩
  | xd fs => obtain ⟨mA, ⟨od, es, ep, e, c⟩, r⟩ := x; exact ⟨mA, ⟨od, es, ep, k _ _ (.inl rfl) e, c⟩, r⟩
  | rng lo hi => obtain ⟨t, u, v, e⟩ := x; exact ⟨t, u, v, k _ _ (.inl rfl) e⟩
  | frz ob u ih => obtain ⟨e, q⟩ := x; exact ⟨k _ _ (.inl rfl) e, ih q⟩
  | tbl ps =>
    have e : h.get? a = some { cls := .none, data := .fields ps } := x
    show h'.get? a = some { cls := .none, data := .fields ps }
    exact k a _ (.inl rfl) e
  | met f y =>
    have e : h.get? a = some (PySem.W.methodObj (.ref f) (.ref y)) := x
    show h'.get? a = some (PySem.W.methodObj (.ref f) (.ref y))
    exact k a _ (.inl rfl) e
  | ext φ => obtain ⟨p, ⟨o, e⟩, st⟩ := x; exact ⟨st _ _ p fun o q => k _ _ (.inl rfl) q, ⟨o, k _ _ (.inl rfl) e⟩, st⟩
theorem HOk.lt (x : HOk P w H h) (e : H a = some o) : a < h.objs.size := (x a o e).lt
theorem HOk.fresh (x : HOk P w H h) (e : h.objs.size ≤ a) : H a = none := by
  cases q : H a with
  | none => rfl
  | some u => exact absurd (Nat.lt_of_lt_of_le (x.lt q) e) (Nat.lt_irrefl _)
/-- every object of the heap is kept -/
theorem HOk.kept (x : HOk P w H h) (k : ∀ b u, h.get? b = some u → h'.get? b = some u) : HOk P w H h' := fun a o e =>
  (x a o e).stay (fun b u _ q => k b u q) (fun _ q => q) fun _ _ q => q
/-- a new object is laid and tracked -/
theorem HOk.laid (x : HOk P w H h) (k : ∀ b u, h.get? b = some u → h'.get? b = some u) (hp : h.objs.size ≤ a) (new : ObjOk P w (upd H a o) h' a o) : HOk P w (upd H a o) h' := fun b u e => by
  have hn := x.fresh hp
  by_cases hb : b = a
  · subst hb; rw [upd_same] at e; cases e; exact new
  · rw [upd_ne hb] at e
    exact (x b u e).stay (fun c v _ q => k c v q) (fun c q => by rw [upd_ne (ne_of_none q hn)]; exact q) fun c xs q => by rw [upd_ne (ne_of_none q hn)]; exact q
end

/-- what may be read as u: it is u, or a known u -/
def Rd (H : Hp) (a : Addr) (u : HO) : Prop := H a = some u ∨ ∃ o, H a = some (.frz o u)
theorem Rd.of {H : Hp} {a : Addr} {u : HO} (h : H a = some u) : Rd H a u := .inl h
theorem Rd.ok {P : Program} {w : World} {H : Hp} {h : Heap} {a : Addr} {u : HO} (r : Rd H a u) (x : HOk P w H h) : ObjOk P w H h a u := by
  rcases r with r | ⟨o, r⟩
  · exact x a u r
  · obtain ⟨_, q⟩ := x a _ r
    exact q
/-- what may be written -/
def Mut : Option HO → Prop
  | some (.lst _) => True
  | some (.dK _) => True
  | some (.dT _) => True
  | some (.set _ _) => True
  | some (.ins _ _ _) => True
  | some (.ext _) => True
  | _ => False
section
variable {P : Program} {w : World} {H : Hp} {h h' : Heap} {x e : Addr} {o' : HO}
/-- the object at e is changed: x itself, or the dict of the instance x -/
theorem HOk.write (ok : HOk P w H h) (mu : Mut (H x)) (he : e = x ∨ H e = some (.own x)) (k : ∀ b u, b ≠ e → h.get? b = some u → h'.get? b = some u) (heo : ∃ u, h'.get? e = some u)
    (new : ObjOk P w (upd H x o') h' x o') : HOk P w (upd H x o') h' := fun b u q => by
  have nown : ∀ c y, H c = some (.own y) → c ≠ x := fun c y r z => by subst z; rw [r] at mu; exact mu
  have ntup : ∀ c xs, H c = some (.tup xs) → c ≠ x := fun c xs r z => by subst z; rw [r] at mu; exact mu
  by_cases hb : b = x
  · subst hb; rw [upd_same] at q; cases q; exact new
  · rw [upd_ne hb] at q
    by_cases hbe : b = e
    · have q' : H b = some (.own x) := by
        rcases he with z | z
        · exact absurd (hbe.trans z) hb
        · rw [hbe]; exact z
      rw [q] at q'; cases q'
      obtain ⟨v, hv⟩ := heo
      exact ⟨v, by rw [hbe]; exact hv⟩
    · refine (ok b u q).stay (fun c v hc r => k c v ?_ r) (fun c r => by rw [upd_ne (nown c b r)]; exact r) fun c xs r => by rw [upd_ne (ntup c xs r)]; exact r
      rcases hc with rfl | hc
      · exact hbe
      · rintro rfl
        rcases he with z | z
        · exact nown c b hc z
        · rw [hc] at z; cases z; exact hb rfl
end

/-! ### kept unless tracked; of the frames at fs (the callers') the slots may change (an exception that passes writes there); of the records at ex (iterators) nothing is said -/
structure Un (fs ex : List Addr) (H H' : Hp) (h h' : Heap) : Prop where
  keep : ∀ b o, h.get? b = some o → H b = none → b ∉ fs → b ∉ ex → h'.get? b = some o
  slot : ∀ b o, h.get? b = some o → H b = none → b ∈ fs → b ∉ ex → ∃ sl, h'.get? b = some { o with slots := sl }
  free : ∀ b o, h.get? b = some o → H b = none → b ∉ ex → H' b = none
  there : ∀ b o, h.get? b = some o → b ∉ ex → ∃ o', h'.get? b = some o'
  tups : ∀ b xs, H b = some (.tup xs) → H' b = some (.tup xs)
  frzs : ∀ b o u, H b = some (.frz o u) → H' b = some (.frz o u)
  tbls : ∀ b ps, H b = some (.tbl ps) → ∃ more, H' b = some (.tbl (ps ++ more))
section
variable {fs fs' ex ex' : List Addr} {H H1 H2 : Hp} {h h1 h2 h' : Heap} {a x e : Addr} {o : HO}
theorem Un.any (u : Un fs ex H H1 h h1) {b : Addr} {ob : Obj} (q : h.get? b = some ob) (n : H b = none) (hx : b ∉ ex) : ∃ sl, h1.get? b = some { ob with slots := sl } := by
  by_cases hb : b ∈ fs
  · exact u.slot b ob q n hb hx
  · exact ⟨ob.slots, u.keep b ob q n hb hx⟩
theorem Un.trans (a : Un fs ex H H1 h h1) (b : Un fs ex H1 H2 h1 h2) : Un fs ex H H2 h h2 where
  keep := fun c ob q n hc hx => b.keep c ob (a.keep c ob q n hc hx) (a.free c ob q n hx) hc hx
  slot := fun c ob q n hc hx => by
    obtain ⟨sl, e1⟩ := a.slot c ob q n hc hx
    obtain ⟨sl', e2⟩ := b.slot c _ e1 (a.free c ob q n hx) hc hx
    exact ⟨sl', e2⟩
  free := fun c ob q n hx => by
    obtain ⟨o', e1⟩ := a.there c ob q hx
    exact b.free c o' e1 (a.free c ob q n hx) hx
  there := fun c ob q hx => by
    obtain ⟨o', e1⟩ := a.there c ob q hx
    exact b.there c o' e1 hx
  tups := fun c xs q => b.tups c xs (a.tups c xs q)
  frzs := fun c ob xs q => b.frzs c ob xs (a.frzs c ob xs q)
  tbls := fun c ps q => by
    obtain ⟨m1, e1⟩ := a.tbls c ps q
    obtain ⟨m2, e2⟩ := b.tbls c _ e1
    exact ⟨m1 ++ m2, by rw [e2, Array.append_assoc]⟩
theorem Un.kept (k : ∀ b u, h.get? b = some u → h'.get? b = some u) : Un fs ex H H h h' :=
  ⟨fun b ob q _ _ _ => k b ob q, fun b ob q _ _ _ => ⟨ob.slots, k b ob q⟩, fun _ _ _ n _ => n, fun b ob q _ => ⟨ob, k b ob q⟩, fun _ _ q => q, fun _ _ _ q => q, fun _ ps q => ⟨#[], by rw [q]; simp⟩⟩
theorem Un.refl : Un fs ex H H h h := Un.kept fun _ _ q => q
theorem Un.laid (k : ∀ b u, h.get? b = some u → h'.get? b = some u) (hp : h.objs.size ≤ a) (hn : H a = none) : Un fs ex H (upd H a o) h h' where
  keep := fun b u q _ _ _ => k b u q
  slot := fun b u q _ _ _ => ⟨u.slots, k b u q⟩
  free := fun b u q n _ => by rw [upd_ne (Nat.ne_of_lt (Nat.lt_of_lt_of_le (Heap.lt_size q) hp))]; exact n
  there := fun b u q _ => ⟨u, k b u q⟩
  tups := fun b xs q => by rw [upd_ne (ne_of_none q hn)]; exact q
  frzs := fun b u xs q => by rw [upd_ne (ne_of_none q hn)]; exact q
  tbls := fun b ps q => ⟨#[], by rw [upd_ne (ne_of_none q hn), q]; simp⟩
theorem Un.write (mu : Mut (H x)) (he : e = x ∨ H e = some (.own x)) (k : ∀ b u, b ≠ e → h.get? b = some u → h'.get? b = some u) (heo : ∃ u, h'.get? e = some u) : Un fs ex H (upd H x o) h h' := by
  have hx : ∀ b, H b = none → b ≠ x := fun b n z => by subst z; rw [n] at mu; exact mu
  have hb : ∀ b, H b = none → b ≠ e := fun b n z => by
    subst z
    rcases he with r | r
    · exact hx b n r
    · rw [n] at r; cases r
  have hm : ∀ b u, H b = some u → ¬ Mut (some u) → b ≠ x := fun b u q nm z => by subst z; rw [q] at mu; exact nm mu
  refine ⟨fun b u q n _ _ => k b u (hb b n) q, fun b u q n _ _ => ⟨u.slots, k b u (hb b n) q⟩, fun b u q n _ => by rw [upd_ne (hx b n)]; exact n, fun b u q _ => ?_,
    fun b xs q => by rw [upd_ne (hm b _ q fun z => z)]; exact q, fun b u xs q => by rw [upd_ne (hm b _ q fun z => z)]; exact q, fun b ps q => ⟨#[], by rw [upd_ne (hm b _ q fun z => z), q]; simp⟩⟩
  by_cases hbe : b = e
  · subst hbe; exact heo
  · exact ⟨u, k b u hbe q⟩
theorem Un.mono (u : Un fs ex H H1 h h1) (hs : ∀ b ∈ fs, b ∈ fs') (hx : ∀ b ∈ ex, b ∈ ex') : Un fs' ex' H H1 h h1 :=
  ⟨fun b ob q n hb he => u.keep b ob q n (fun z => hb (hs b z)) fun z => he (hx b z), fun _ _ q n _ he => u.any q n fun z => he (hx _ z), fun b ob q n he => u.free b ob q n fun z => he (hx b z), fun b ob q he => u.there b ob q fun z => he (hx b z), u.tups, u.frzs, u.tbls⟩
end

/-! ### the heap without what is tracked -/
def trk (h : Heap) (H : Hp) : List Addr := (List.range h.objs.size).filter fun a => (H a).isSome
def hidT (h : Heap) (H : Hp) : Heap := PySem.W.hideAll h (trk h H)
theorem hidT_size (h : Heap) (H : Hp) : (hidT h H).objs.size = h.objs.size := PySem.W.hideAll_size _ _
theorem hidT_get {h : Heap} {H : Hp} {b : Addr} {o : Obj} (e : h.get? b = some o) (n : H b = none) : (hidT h H).get? b = some o :=
  PySem.W.hideAll_get _ e fun hm => by
    have q : (H b).isSome = true := (List.mem_filter.mp hm).2
    rw [n] at q; simp at q
theorem of_hidT {h : Heap} {H : Hp} {b : Addr} {o : Obj} (e : (hidT h H).get? b = some o) : h.get? b = some o ∧ H b = none := by
  have e' : h.get? b = some o := PySem.W.of_hideAll (trk h H) e
  refine ⟨e', ?_⟩
  cases q : H b with
  | none => rfl
  | some x =>
    have hm : b ∈ trk h H := List.mem_filter.mpr ⟨List.mem_range.mpr (Heap.lt_size e'), by simp [q]⟩
    have z : (hidT h H).get? b = none := PySem.W.hideAll_none (trk h H) hm
    rw [z] at e; cases e

/-! ### OpenK's ledger, filled with every new object but one -/
def allNews (g h : Heap) (L : Addr) : List (Addr × Obj) := (List.range h.objs.size).filterMap fun a => if a = L ∨ (g.get? a).isSome = true then none else (h.get? a).map fun o => (a, o)
theorem mem_allNews {g h : Heap} {L a : Addr} {o : Obj} (h1 : a ≠ L) (h2 : g.get? a = none) (h3 : h.get? a = some o) : (a, o) ∈ allNews g h L :=
  List.mem_filterMap.mpr ⟨a, List.mem_range.mpr (Heap.lt_size h3), by simp [h1, h2, h3]⟩
theorem of_mem_allNews {g h : Heap} {L : Addr} {p : Addr × Obj} (hp : p ∈ allNews g h L) : p.1 ≠ L ∧ g.get? p.1 = none ∧ h.get? p.1 = some p.2 := by
  obtain ⟨b, _, e⟩ := List.mem_filterMap.mp hp
  split at e
  · cases e
  · rename_i hn
    cases q : h.get? b with
    | none => rw [q] at e; simp at e
    | some u =>
      rw [q] at e
      simp only [Option.map_some, Option.some.injEq] at e
      subst e
      refine ⟨fun z => hn (.inl z), ?_, q⟩
      show g.get? b = none
      cases r : g.get? b with
      | none => rfl
      | some v => exact (hn (.inr (by simp [r]))).elim
def rest (g h : Heap) (L d : Addr) : List (Addr × Obj) := (allNews g h L).filter fun p => decide (p.1 ≠ d)
theorem rest_ne {g h : Heap} {L d : Addr} : ∀ p ∈ rest g h L d, p.1 ≠ d := fun p hp => of_decide_eq_true (List.mem_filter.mp hp).2
theorem mem_rest {g h : Heap} {L d a : Addr} {o : Obj} (h1 : a ≠ L) (h2 : g.get? a = none) (h3 : h.get? a = some o) (h4 : a ≠ d) : (a, o) ∈ rest g h L d :=
  List.mem_filter.mpr ⟨mem_allNews h1 h2 h3, decide_eq_true h4⟩
theorem news_all {g h : Heap} {L : Addr} : News g L h (allNews g h L) := fun p hp => let ⟨a, b, c⟩ := of_mem_allNews hp; ⟨c, a, b⟩
theorem news_at {g h : Heap} {L d : Addr} {o : Obj} (h1 : d ≠ L) (h2 : g.get? d = none) (h3 : h.get? d = some o) : News g L h ((d, o) :: rest g h L d) := fun p hp => by
  rcases List.mem_cons.mp hp with rfl | hp
  · exact ⟨h3, h1, h2⟩
  · exact news_all p (List.mem_filter.mp hp).1
/-- behind a rule that changed d alone: all else but the frame is kept -/
theorem kept_of_news {g h h' : Heap} {L d : Addr} {m : Str → Option Value} (k : ∀ b o, g.get? b = some o → h.get? b = some o) (F : Fr g L h' m) (N : News g L h' (rest g h L d)) :
    ∀ b o, b ≠ L → b ≠ d → h.get? b = some o → h'.get? b = some o := fun b o h1 h2 e => by
  cases q : g.get? b with
  | some u =>
    have := k b u q
    rw [e] at this; cases this
    exact F.keep b _ q
  | none => exact (N (b, o) (mem_rest h1 q e h2)).1
end L2

namespace L2
open PySem PySem.Spec PyProof.Rows

/-- the module's facts, over the base: the heap at the law's entry without what is tracked there -/
structure Mod (K : PySem.W.Frag) (mg : Str → Option Value) (base : Heap) : Prop where
  kin : K.In base
  glob : base.Ns mainGlobals mg
  blt : ∃ mb, base.Ns builtinsNs mb ∧ ∀ x : Str, x ≠ "__name__" → mb x = bootBuiltins x
  nolimit : base.NoLimit

/-- the context: a def's body (or a comprehension's block) running. base: fixed through the whole law; s₀, H₀: the entry; outer: the frames whose slots others may change (a def's callers); stack: all frames that run;
   ex: iterators that were made ahead of the entry and are walked here (a comprehension's); fn: the names whose cells were made at the entry (a def: all; a comprehension's block: its own); calm: not within an except suite; pn: pins that every state bears; xe: what is wanted of an exception that leaves the code -/
structure Cx where
  prog : Program
  w : World
  K : PySem.W.Frag
  mg : Str → Option Value
  base : Heap
  A : Around
  N : List Str
  s₀ : Shared
  H₀ : Hp
  env : Env
  outer : List Env
  stack : List Env
  ex : List Addr
  fn : Str → Bool
  calm : Bool
  pn : List (Addr × Obj)
  xe : Value → Shared → Prop
/-- the callers' frames -/
def frs (l : List Env) : List Addr := l.filterMap (·.frame)
abbrev Cx.fs (X : Cx) : List Addr := frs X.outer

def Vis (sc : Scope) (x : Str) : Prop := sc.names.lookup x = some .local ∨ sc.names.lookup x = some .cell ∨ sc.names.lookup x = some .free
def Loc (sc : Scope) (x : Str) : Prop := sc.names.lookup x = some .local ∨ sc.names.lookup x = some .cell
def Look (env : Env) (h : Heap) (m : Str → Option Value) (x : Str) (u : Value) : Prop :=
  (env.kindOf x = some .local ∧ m x = some u) ∨ ((env.kindOf x = some .cell ∨ env.kindOf x = some .free) ∧ ∃ c, env.cells.lookup x = some c ∧ h.IsCell c (some u))

structure Cx.Ok (X : Cx) : Prop where
  mod : Mod X.K X.mg X.base
  kind : X.env.scope.kind = .function
  glob : X.env.globals = mainGlobals
  blt : X.env.builtins = builtinsNs
  above : X.s₀.heap.objs.size ≤ X.env.locals
  inj : ∀ x y c, X.env.cells.lookup x = some c → X.env.cells.lookup y = some c → x = y
  has : ∀ x, (X.env.kindOf x = some .cell ∨ X.env.kindOf x = some .free) → ∃ c, X.env.cells.lookup x = some c
  cab : ∀ x c, X.fn x = true → X.env.cells.lookup x = some c → X.s₀.heap.objs.size ≤ c
  hd : X.calm = true → X.A.handled = none
  frames : X.A.frames = some X.stack
  stk : X.stack = X.outer ∨ (X.stack = X.env :: X.outer ∧ X.env.frame = some X.env.locals)
  exf : ∀ b ∈ X.ex, b ≠ X.env.locals ∧ ∀ x c, X.env.cells.lookup x = some c → c ≠ b
  bs : ∀ b o, X.base.get? b = some o → X.s₀.heap.get? b = some o ∧ X.H₀ b = none
  bsz : X.base.objs.size ≤ X.s₀.heap.objs.size
  noex : ∀ b o, X.base.get? b = some o → b ∉ X.ex
  exfs : ∀ b ∈ X.ex, b ∉ X.fs
  funs : X.s₀.heap.FunFrames X.base X.outer
  frf : ∀ b ∈ X.fs, X.H₀ b = none

structure Inv (X : Cx) (pins : List (Addr × Obj)) (σ : List (Option V)) (H : Hp) (s : Shared) : Prop where
  ok : X.Ok
  os : s.os = X.s₀.os
  bare : AllBare s.gens
  base : Un X.fs X.ex X.H₀ H X.s₀.heap s.heap
  loc : ∃ m, s.heap.Ns X.env.locals m ∧ ∀ (i : Nat) (x : Str) (v : V), X.N[i]? = some x → σ[i]? = some (some v) → Vis X.env.scope x → ∃ u, RelV v u ∧ Look X.env s.heap m x u
  cell : ∀ x c, X.env.cells.lookup x = some c → ∃ v, s.heap.IsCell c v
  free : H X.env.locals = none
  freeC : ∀ x c, X.env.cells.lookup x = some c → H c = none
  pin : ∀ p ∈ X.pn ++ pins, s.heap.get? p.1 = some p.2 ∧ H p.1 = none ∧ p.1 ≠ X.env.locals ∧ p.1 ∉ X.fs ∧ ∀ v, p.2.data ≠ .cell v
  hok : HOk X.prog X.w H s.heap
  len : σ.length = X.N.length

section
variable {X : Cx} {pins : List (Addr × Obj)} {σ : List (Option V)} {H H' : Hp} {s : Shared} {h' : Heap}

theorem Cx.Ok.nofr (ok : X.Ok) {b : Addr} {o : Obj} (e : X.base.get? b = some o) : b ∉ X.fs := fun hb => by
  have := (ok.funs.mem hb).1
  rw [e] at this; cases this
theorem Inv.bs (I : Inv X pins σ H s) : ∀ b o, X.base.get? b = some o → s.heap.get? b = some o ∧ H b = none := fun b o e =>
  ⟨I.base.keep b o (I.ok.bs b o e).1 (I.ok.bs b o e).2 (I.ok.nofr e) (I.ok.noex b o e), I.base.free b o (I.ok.bs b o e).1 (I.ok.bs b o e).2 (I.ok.noex b o e)⟩
theorem Inv.bk (I : Inv X pins σ H s) : ∀ b o, X.base.get? b = some o → s.heap.get? b = some o := fun b o e => (I.bs b o e).1
theorem Inv.mod (I : Inv X pins σ H s) : Mod X.K X.mg X.base := I.ok.mod
theorem Inv.kIn (I : Inv X pins σ H s) : X.K.In s.heap := I.ok.mod.kin.keeps I.bk
theorem Inv.nolimit (I : Inv X pins σ H s) : s.heap.NoLimit := I.ok.mod.nolimit.keeps I.bk
/-- the frame over the base: for OpenK's rules (K.In X.base is I.mod.kin) -/
theorem Inv.fr (I : Inv X pins σ H s) : ∃ m, Fr X.base X.env.locals s.heap m :=
  let ⟨m, hn, _⟩ := I.loc
  ⟨m, hn, I.bk, Nat.le_trans I.ok.bsz I.ok.above⟩
theorem Inv.lt (I : Inv X pins σ H s) : X.env.locals < s.heap.objs.size := let ⟨_, hn, _⟩ := I.loc; hn.lt
theorem Inv.sz (I : Inv X pins σ H s) : X.s₀.heap.objs.size ≤ s.heap.objs.size := Nat.le_trans I.ok.above (Nat.le_of_lt I.lt)
theorem Inv.nofs (I : Inv X pins σ H s) {a : Addr} (h : s.heap.objs.size ≤ a) : a ∉ X.fs := fun hb => by
  obtain ⟨_, o, ho, _⟩ := I.ok.funs.mem hb
  exact absurd (Nat.lt_of_lt_of_le (Heap.lt_size ho) (Nat.le_trans I.sz h)) (Nat.lt_irrefl _)
theorem Inv.cne (I : Inv X pins σ H s) : ∀ x c, X.env.cells.lookup x = some c → c ≠ X.env.locals := fun x c e z => by
  obtain ⟨v, o, ho, hd⟩ := I.cell x c e
  obtain ⟨m, ⟨o', es, ep, ho', hd', _⟩, _⟩ := I.loc
  rw [z, ho'] at ho; cases ho; rw [hd'] at hd; cases hd
theorem Inv.funs (I : Inv X pins σ H s) : s.heap.FunFrames X.base X.outer := by
  have all : ∀ (l : List Env), (∀ b ∈ frs l, b ∈ X.fs) → X.s₀.heap.FunFrames X.base l → s.heap.FunFrames X.base l := by
    intro l
    induction l with
    | nil => intro _ _; trivial
    | cons env r ih =>
      intro hs hl
      obtain ⟨hk, ⟨L, o, hf, hn, ho, hd⟩, hr⟩ := hl
      have hL : L ∈ X.fs := hs L (by unfold frs; rw [List.filterMap_cons, hf]; exact List.mem_cons_self)
      obtain ⟨sl, e⟩ := I.base.slot L o ho (I.ok.frf L hL) hL fun z => I.ok.exfs L z hL
      exact ⟨hk, ⟨L, _, hf, hn, e, hd⟩, ih (fun b hb => hs b (by unfold frs; rw [List.filterMap_cons, hf]; exact List.mem_cons_of_mem _ hb)) hr⟩
  exact all X.outer (fun _ hb => hb) I.ok.funs

/-- the frames that run, for a call -/
theorem Inv.stack (I : Inv X pins σ H s) : s.heap.FunFrames X.base X.stack := by
  rcases I.ok.stk with e | ⟨e, hf⟩
  · rw [e]; exact I.funs
  · rw [e]
    obtain ⟨m, hn, _⟩ := I.loc
    refine .cons (by rw [I.ok.kind]; decide) hf hn ?_ I.funs
    exact Heap.get?_none_of_le (Nat.le_trans I.ok.bsz I.ok.above)
theorem Inv.stkSub (I : Inv X pins σ H s) : ∀ b ∈ frs X.stack, b ∈ X.env.locals :: X.fs := fun b hb => by
  rcases I.ok.stk with e | ⟨e, hf⟩
  · rw [e] at hb; exact List.mem_cons_of_mem _ hb
  · rw [e] at hb
    unfold frs at hb
    rw [List.filterMap_cons, hf] at hb
    exact hb
theorem Inv.stkFree (I : Inv X pins σ H s) : ∀ b ∈ frs X.stack, H b = none := fun b hb => by
  rcases List.mem_cons.mp (I.stkSub b hb) with e | hb
  · rw [e]; exact I.free
  · obtain ⟨_, o, ho, _⟩ := I.ok.funs.mem hb
    exact I.base.free b o ho (I.ok.frf b hb) fun z => I.ok.exfs b z hb

/-- THE STEP: the untracked objects but the frame and the records at ch are kept (the callers' frames up to slots), the frame's map is kept, the new abstract heap is held -/
theorem Inv.step {g' : Array GenState} {t' : Nat} {d' : Drawn} {ch : List Addr} (I : Inv X pins σ H s)
    (hch : ∀ b ∈ ch, (b ∈ X.ex ∨ X.s₀.heap.objs.size ≤ b) ∧ b ≠ X.env.locals ∧ (∀ x c, X.env.cells.lookup x = some c → c ≠ b) ∧ ∀ p ∈ X.pn ++ pins, p.1 ≠ b)
    (keep : ∀ b o, b ≠ X.env.locals → b ∉ X.fs → b ∉ ch → s.heap.get? b = some o → H b = none → h'.get? b = some o)
    (slot : ∀ b o, b ≠ X.env.locals → b ∈ X.fs → b ∉ ch → s.heap.get? b = some o → H b = none → ∃ sl, h'.get? b = some { o with slots := sl }) (free : ∀ b o, b ∉ ch → s.heap.get? b = some o → H b = none → H' b = none)
    (there : ∀ b o, b ∉ ch → s.heap.get? b = some o → ∃ o', h'.get? b = some o')
    (tups : ∀ b xs, H b = some (.tup xs) → H' b = some (.tup xs)) (frzs : ∀ b o u, H b = some (.frz o u) → H' b = some (.frz o u)) (tbls : ∀ b ps, H b = some (.tbl ps) → ∃ more, H' b = some (.tbl (ps ++ more)))
    (ns : ∀ m, s.heap.Ns X.env.locals m → h'.Ns X.env.locals m) (hok : HOk X.prog X.w H' h') (hg : AllBare g') :
    Inv X pins σ H' { s with heap := h', gens := g', drawn := d', toks := t' } := by
  have neL : ∀ b o, X.s₀.heap.get? b = some o → b ≠ X.env.locals := fun b o e => Nat.ne_of_lt (Nat.lt_of_lt_of_le (Heap.lt_size e) I.ok.above)
  have neC : ∀ b o, X.s₀.heap.get? b = some o → b ∉ X.ex → b ∉ ch := fun b o e hx hb => by
    rcases (hch b hb).1 with z | z
    · exact hx z
    · exact absurd (Nat.lt_of_lt_of_le (Heap.lt_size e) z) (Nat.lt_irrefl _)
  have cellK : ∀ x c, X.env.cells.lookup x = some c → ∀ v, s.heap.IsCell c v → h'.IsCell c v := fun x c e v ⟨o, ho, hd⟩ => by
    have nch : c ∉ ch := fun z => (hch c z).2.2.1 x c e rfl
    by_cases hc : c ∈ X.fs
    · obtain ⟨sl, q⟩ := slot c o (I.cne x c e) hc nch ho (I.freeC x c e)
      exact ⟨_, q, hd⟩
    · exact ⟨o, keep c o (I.cne x c e) hc nch ho (I.freeC x c e), hd⟩
  refine ⟨I.ok, I.os, hg, ⟨fun b o e n hb hx => ?_, fun b o e n hb hx => ?_, fun b o e n hx => ?_, fun b o e hx => ?_, fun b xs e => tups b xs (I.base.tups b xs e), fun b o xs e => frzs b o xs (I.base.frzs b o xs e), fun b ps e => ?_⟩, ?_, fun x c e => ?_, ?_, fun x c e => ?_, fun p hp => ?_, hok, I.len⟩
  · exact keep b o (neL b o e) hb (neC b o e hx) (I.base.keep b o e n hb hx) (I.base.free b o e n hx)
  · obtain ⟨sl, e1⟩ := I.base.slot b o e n hb hx
    obtain ⟨sl', e2⟩ := slot b _ (neL b o e) hb (neC b o e hx) e1 (I.base.free b o e n hx)
    exact ⟨sl', e2⟩
  · obtain ⟨o', e1⟩ := I.base.there b o e hx
    exact free b o' (neC b o e hx) e1 (I.base.free b o e n hx)
  · obtain ⟨o', e1⟩ := I.base.there b o e hx
    exact there b o' (neC b o e hx) e1
  · obtain ⟨m1, e1⟩ := I.base.tbls b ps e
    obtain ⟨m2, e2⟩ := tbls b _ e1
    exact ⟨m1 ++ m2, by rw [e2, Array.append_assoc]⟩
  · obtain ⟨m, hn, hl⟩ := I.loc
    refine ⟨m, ns m hn, fun i x v e1 e2 e3 => ?_⟩
    obtain ⟨u, r, l⟩ := hl i x v e1 e2 e3
    refine ⟨u, r, ?_⟩
    rcases l with l | ⟨k, c, e, z⟩
    · exact .inl l
    · exact .inr ⟨k, c, e, cellK x c e _ z⟩
  · obtain ⟨v, z⟩ := I.cell x c e
    exact ⟨v, cellK x c e v z⟩
  · obtain ⟨m, ⟨o, _, _, ho, _⟩, _⟩ := I.loc
    exact free _ o (fun z => (hch _ z).2.1 rfl) ho I.free
  · obtain ⟨v, o, ho, hd⟩ := I.cell x c e
    exact free c o (fun z => (hch c z).2.2.1 x c e rfl) ho (I.freeC x c e)
  · obtain ⟨e, n, ne, nf, d⟩ := I.pin p hp
    have nch : p.1 ∉ ch := fun z => (hch p.1 z).2.2.2 p hp rfl
    exact ⟨keep p.1 p.2 ne nf nch e n, free p.1 p.2 nch e n, ne, nf, d⟩
/-- .. where the frame's own object is kept too -/
theorem Inv.un {t' : Nat} (I : Inv X pins σ H s) (u : Un X.fs [] H H' s.heap h') (hok : HOk X.prog X.w H' h') : Inv X pins σ H' { s with heap := h', toks := t' } := by
  obtain ⟨m, ⟨o, es, ep, ho, r⟩, _⟩ := id I.loc
  obtain ⟨sl, hL⟩ := u.any ho I.free (by simp)
  exact I.step (g' := s.gens) (d' := s.drawn) (ch := []) (fun _ z => nomatch z) (fun b o _ hb _ e n => u.keep b o e n hb (by simp)) (fun b o _ hb _ e n => u.slot b o e n hb (by simp)) (fun b o _ e n => u.free b o e n (by simp)) (fun b o _ e => u.there b o e (by simp)) u.tups u.frzs u.tbls (fun m' hm => by
    obtain ⟨o', es', ep', ho', r'⟩ := hm
    rw [ho] at ho'; cases ho'
    exact ⟨_, es', ep', hL, r'⟩) hok I.bare
/-- behind a call (or a comprehension's block): the slots of this frame may have changed too, the records at ch may have turned -/
theorem Inv.call {g' : Array GenState} {t' : Nat} {d' : Drawn} {ch : List Addr} (I : Inv X pins σ H s) (u : Un (frs X.stack) ch H H' s.heap h') (hok : HOk X.prog X.w H' h') (hg : AllBare g')
    (hch : ∀ b ∈ ch, (b ∈ X.ex ∨ X.s₀.heap.objs.size ≤ b) ∧ b ≠ X.env.locals ∧ (∀ x c, X.env.cells.lookup x = some c → c ≠ b) ∧ ∀ p ∈ X.pn ++ pins, p.1 ≠ b) :
    Inv X pins σ H' { s with heap := h', gens := g', drawn := d', toks := t' } := by
  obtain ⟨m, ⟨o, es, ep, ho, r⟩, _⟩ := id I.loc
  obtain ⟨sl, hL⟩ := u.any ho I.free fun z => (hch _ z).2.1 rfl
  exact I.step (ch := ch) hch (fun b o hL hb hc e n => u.keep b o e n (fun z => (List.mem_cons.mp (I.stkSub b z)).elim hL hb) hc) (fun b o _ _ hc e n => u.any e n hc) (fun b o hc e n => u.free b o e n hc) (fun b o hc e => u.there b o e hc) u.tups u.frzs u.tbls (fun m' hm => by
    obtain ⟨o', es', ep', ho', r'⟩ := hm
    rw [ho] at ho'; cases ho'
    exact ⟨_, es', ep', hL, r'⟩) hok hg
/-- an untracked record of ours (an iterator) has turned -/
theorem Inv.turned {t' : Nat} {it : Addr} (I : Inv X pins σ H s) (k : ∀ b o, b ≠ it → s.heap.get? b = some o → h'.get? b = some o) (hn : H it = none) (hL : it ≠ X.env.locals)
    (h1 : it ∈ X.ex ∨ X.s₀.heap.objs.size ≤ it) (h2 : ∀ x c, X.env.cells.lookup x = some c → c ≠ it) (h3 : ∀ p ∈ X.pn ++ pins, p.1 ≠ it) : Inv X pins σ H { s with heap := h', toks := t' } := by
  have nit : ∀ b u, H b = some u → b ≠ it := fun b u e z => by rw [z, hn] at e; cases e
  refine I.step (g' := s.gens) (d' := s.drawn) (ch := [it]) (fun b hb => ?_) (fun b o _ _ hc e _ => k b o (fun z => hc (by simp [z])) e) (fun b o _ _ hc e _ => ⟨o.slots, k b o (fun z => hc (by simp [z])) e⟩) (fun _ _ _ _ n => n)
    (fun b o hc e => ⟨o, k b o (fun z => hc (by simp [z])) e⟩) (fun _ _ e => e) (fun _ _ _ e => e) (fun b ps e => ⟨#[], by rw [e]; simp⟩) (fun m hm => ?_) (fun b u e => ?_) I.bare
  · have e : b = it := by simpa using hb
    subst e
    exact ⟨h1, hL, h2, h3⟩
  · obtain ⟨o, es, ep, ho, r⟩ := hm
    exact ⟨o, es, ep, k _ o (Ne.symm hL) ho, r⟩
  · refine (I.hok b u e).stay (fun c v hc q => k c v ?_ q) (fun _ q => q) fun _ _ q => q
    rcases hc with z | z
    · rw [z]; exact nit b u e
    · exact nit c _ z
theorem Inv.tok (I : Inv X pins σ H s) (t : Nat) : Inv X pins σ H { s with toks := t } := I.un (h' := s.heap) (t' := t) Un.refl I.hok
/-- all objects kept -/
theorem Inv.kept {t' : Nat} (I : Inv X pins σ H s) (k : ∀ b u, s.heap.get? b = some u → h'.get? b = some u) : Inv X pins σ H { s with heap := h', toks := t' } := I.un (Un.kept k) (I.hok.kept k)
/-- a new object laid and tracked -/
theorem Inv.laid {a : Addr} {o : HO} {t' : Nat} (I : Inv X pins σ H s) (k : ∀ b u, s.heap.get? b = some u → h'.get? b = some u) (hp : s.heap.objs.size ≤ a) (new : ObjOk X.prog X.w (upd H a o) h' a o) :
    Inv X pins σ (upd H a o) { s with heap := h', toks := t' } := I.un (Un.laid k hp (I.hok.fresh hp)) (I.hok.laid k hp new)
/-- an object written -/
theorem Inv.write {x e : Addr} {o : HO} {t' : Nat} (I : Inv X pins σ H s) (mu : Mut (H x)) (he : e = x ∨ H e = some (.own x)) (k : ∀ b u, b ≠ e → s.heap.get? b = some u → h'.get? b = some u) (heo : ∃ u, h'.get? e = some u)
    (new : ObjOk X.prog X.w (upd H x o) h' x o) : Inv X pins σ (upd H x o) { s with heap := h', toks := t' } := I.un (Un.write mu he k heo) (I.hok.write mu he k heo new)
/-- forgetting slots, pins -/
theorem Inv.weak {σ' : List (Option V)} (I : Inv X pins σ H s) (hl : σ'.length = σ.length) (w : ∀ (i : Nat) v, σ'[i]? = some (some v) → σ[i]? = some (some v)) : Inv X pins σ' H s :=
  ⟨I.ok, I.os, I.bare, I.base, let ⟨m, hn, hl'⟩ := I.loc; ⟨m, hn, fun i x v e1 e2 e3 => hl' i x v e1 (w i v e2) e3⟩, I.cell, I.free, I.freeC, I.pin, I.hok, hl.trans I.len⟩
theorem Inv.pins_of {pins' : List (Addr × Obj)} (I : Inv X pins σ H s) (h : ∀ p ∈ pins', s.heap.get? p.1 = some p.2 ∧ H p.1 = none ∧ p.1 ≠ X.env.locals ∧ p.1 ∉ X.fs ∧ ∀ v, p.2.data ≠ .cell v) : Inv X pins' σ H s :=
  ⟨I.ok, I.os, I.bare, I.base, I.loc, I.cell, I.free, I.freeC, fun p hp => (List.mem_append.mp hp).elim (fun z => I.pin p (List.mem_append_left _ z)) (h p), I.hok, I.len⟩

theorem nodup_ix {N : List Str} (hN : N.Nodup) {i j : Nat} {x : Str} (a : N[i]? = some x) (b : N[j]? = some x) : i = j := by
  obtain ⟨h1, e1⟩ := List.getElem?_eq_some_iff.mp a
  obtain ⟨h2, e2⟩ := List.getElem?_eq_some_iff.mp b
  exact (List.getElem_inj hN).mp (e1.trans e2.symm)

/-- a name is stored; what changed -/
theorem store_ok2 {M : Model} {A : Around} {E : Value → Shared → Prop} {i : Nat} {x : Str} {v : V} {u : Value} {Q : Unit → Shared → Prop} (I : Inv X pins σ H s) (hN : X.N.Nodup) (hi : X.N[i]? = some x) (hx : Loc X.env.scope x) (r : RelV v u)
    (h : ∀ s', Inv X pins (σ.set i (some v)) H s' → (∃ a, Heap.SameBut a s.heap s'.heap ∧ (a = X.env.locals ∨ X.env.cells.lookup x = some a)) → Q () s') (hf : X.fn x = true ∨ X.env.scope.names.lookup x = some .local := by first | exact .inl rfl | exact .inr rfl | assumption) : wpAny M A (storeName X.env x u) Q E s := by
  obtain ⟨m, hn, hl⟩ := id I.loc
  have hcls : (X.env.scope.kind == .class || (X.env.scope.kind == .module && X.env.locals != X.env.globals)) = false := by rw [I.ok.kind]; rfl
  have hiσ : i < σ.length := by rw [I.len]; exact (List.getElem?_eq_some_iff.mp hi).1
  have cne := I.cne
  have tracked : ∀ {a : Addr} {h' : Heap}, (∃ o, s.heap.get? a = some o ∧ H a = none) → Heap.SameBut a s.heap h' → HOk X.prog X.w H h' := fun {a h'} ha hs b ob e => by
    obtain ⟨_, _, hfree⟩ := ha
    refine (I.hok b ob e).stay (fun c w' hc q => (hs.2 c ?_).trans q) (fun _ q => q) fun _ _ q => q
    rintro rfl
    rcases hc with rfl | hc
    · rw [hfree] at e; cases e
    · rw [hfree] at hc; cases hc
  rcases hx with hk | hk
  · refine wpAny_storeName_local hk hn (fun h' hn' hs => ?_) hcls
    obtain ⟨oL, _, _, hoL, _⟩ := id hn
    refine h _ ⟨I.ok, I.os, I.bare, ⟨fun b o e n hb hx => ?_, fun b o e n hb hx => ?_, I.base.free, fun b o e hx => ?_, I.base.tups, I.base.frzs, I.base.tbls⟩, ⟨_, hn', fun j y v' e1 e2 e3 => ?_⟩, fun y c e => ?_, I.free, I.freeC, fun p hp => ?_, tracked ⟨oL, hoL, I.free⟩ hs, by simpa using I.len⟩ ⟨_, hs, .inl rfl⟩
    · exact (hs.2 b (Nat.ne_of_lt (Nat.lt_of_lt_of_le (Heap.lt_size e) I.ok.above))).trans (I.base.keep b o e n hb hx)
    · obtain ⟨sl, e1⟩ := I.base.slot b o e n hb hx
      exact ⟨sl, (hs.2 b (Nat.ne_of_lt (Nat.lt_of_lt_of_le (Heap.lt_size e) I.ok.above))).trans e1⟩
    · obtain ⟨o', e1⟩ := I.base.there b o e hx
      exact ⟨o', (hs.2 b (Nat.ne_of_lt (Nat.lt_of_lt_of_le (Heap.lt_size e) I.ok.above))).trans e1⟩
    · by_cases hj : j = i
      · subst hj
        rw [hi] at e1; cases e1
        rw [List.getElem?_set_self hiσ] at e2
        cases e2
        exact ⟨u, r, .inl ⟨hk, by simp⟩⟩
      · rw [List.getElem?_set_ne (Ne.symm hj)] at e2
        obtain ⟨u', r', q⟩ := hl j y v' e1 e2 e3
        refine ⟨u', r', ?_⟩
        rcases q with ⟨k, e⟩ | ⟨k, c, e, z⟩
        · refine .inl ⟨k, ?_⟩
          have : y ≠ x := fun e => hj (nodup_ix hN e1 (e ▸ hi))
          simp [this, e]
        · exact .inr ⟨k, c, e, z.sameBut hs (cne y c e)⟩
    · obtain ⟨w', z⟩ := I.cell y c e
      exact ⟨w', z.sameBut hs (cne y c e)⟩
    · obtain ⟨e, n, ne, nf, d⟩ := I.pin p hp
      exact ⟨(hs.2 p.1 ne).trans e, n, ne, nf, d⟩
  · have hfn : X.fn x = true := by
      rcases hf with z | z
      · exact z
      · rw [z] at hk; cases hk
    obtain ⟨c, hc⟩ := I.ok.has x (.inl hk)
    obtain ⟨w', z⟩ := I.cell x c hc
    refine wpAny_storeName_cell I.ok.kind hk hc z (fun h' hc' hs => ?_)
    obtain ⟨oc, hoc, hocd⟩ := id z
    refine h { s with heap := h' } ⟨I.ok, I.os, I.bare, ⟨fun b o e n hb hx => ?_, fun b o e n hb hx => ?_, I.base.free, fun b o e hx => ?_, I.base.tups, I.base.frzs, I.base.tbls⟩, ⟨m, hn.sameBut hs (Ne.symm (cne x c hc)), fun j y v' e1 e2 e3 => ?_⟩, fun y c' e => ?_, I.free, I.freeC, fun p hp => ?_, tracked ⟨oc, hoc, I.freeC x c hc⟩ hs, by simpa using I.len⟩ ⟨c, hs, .inr hc⟩
    · exact (hs.2 b (Nat.ne_of_lt (Nat.lt_of_lt_of_le (Heap.lt_size e) (I.ok.cab x c hfn hc)))).trans (I.base.keep b o e n hb hx)
    · obtain ⟨sl, e1⟩ := I.base.slot b o e n hb hx
      exact ⟨sl, (hs.2 b (Nat.ne_of_lt (Nat.lt_of_lt_of_le (Heap.lt_size e) (I.ok.cab x c hfn hc)))).trans e1⟩
    · obtain ⟨o', e1⟩ := I.base.there b o e hx
      exact ⟨o', (hs.2 b (Nat.ne_of_lt (Nat.lt_of_lt_of_le (Heap.lt_size e) (I.ok.cab x c hfn hc)))).trans e1⟩
    · by_cases hj : j = i
      · subst hj
        rw [hi] at e1; cases e1
        rw [List.getElem?_set_self hiσ] at e2
        cases e2
        exact ⟨u, r, .inr ⟨.inl hk, c, hc, hc'⟩⟩
      · rw [List.getElem?_set_ne (Ne.symm hj)] at e2
        obtain ⟨u', r', q⟩ := hl j y v' e1 e2 e3
        refine ⟨u', r', ?_⟩
        rcases q with q | ⟨k, c', e, z'⟩
        · exact .inl q
        · refine .inr ⟨k, c', e, z'.sameBut hs ?_⟩
          rintro rfl
          exact hj (nodup_ix hN e1 (I.ok.inj _ _ _ e hc ▸ hi))
    · by_cases hcc : c' = c
      · subst hcc; exact ⟨_, hc'⟩
      · obtain ⟨w2, z2⟩ := I.cell y c' e
        exact ⟨w2, z2.sameBut hs hcc⟩
    · obtain ⟨e, n, ne, nf, d⟩ := I.pin p hp
      refine ⟨(hs.2 p.1 ?_).trans e, n, ne, nf, d⟩
      intro q
      rw [q, hoc] at e
      have q' : oc = p.2 := Option.some.inj e
      exact d w' (by rw [← q']; exact hocd)
theorem store_ok {M : Model} {A : Around} {E : Value → Shared → Prop} {i : Nat} {x : Str} {v : V} {u : Value} {Q : Unit → Shared → Prop} (I : Inv X pins σ H s) (hN : X.N.Nodup) (hi : X.N[i]? = some x) (hx : Loc X.env.scope x) (r : RelV v u)
    (h : ∀ s', Inv X pins (σ.set i (some v)) H s' → Q () s') (hf : X.fn x = true ∨ X.env.scope.names.lookup x = some .local := by first | exact .inl rfl | exact .inr rfl | assumption) : wpAny M A (storeName X.env x u) Q E s :=
  store_ok2 I hN hi hx r (fun s' I' _ => h s' I') hf
/-- behind a call or a block, the state as it is -/
theorem Inv.call' {s' : Shared} {ch : List Addr} (I : Inv X pins σ H s) (ho : s'.os = s.os) (u : Un (frs X.stack) ch H H' s.heap s'.heap) (hok : HOk X.prog X.w H' s'.heap) (hg : AllBare s'.gens)
    (hch : ∀ b ∈ ch, (b ∈ X.ex ∨ X.s₀.heap.objs.size ≤ b) ∧ b ≠ X.env.locals ∧ (∀ x c, X.env.cells.lookup x = some c → c ≠ b) ∧ ∀ p ∈ X.pn ++ pins, p.1 ≠ b) : Inv X pins σ H' s' := by
  obtain ⟨h', g', d', t', o'⟩ := s'
  have e : o' = s.os := ho
  subst e
  exact I.call (g' := g') (t' := t') (d' := d') u hok hg hch
end

/-! ### the judgements -/
/-- an exception: its class, its own dict's address (where it has one), the abstract heap behind it -/
abbrev XK := Value → Option Addr → Hp → Prop
abbrev St := List (Option V)
abbrev VK := V → Hp → Prop
/-- an expression's reading; a test's; an argument list's -/
abbrev TE := St → Hp → VK → Prop
abbrev TT := St → Hp → (Bool → Hp → Prop) → Prop
abbrev TA := St → Hp → (List V → Hp → Prop) → Prop
/-- what is wanted behind a statement -/
structure Ends where
  nx : St → Hp → Prop
  rt : VK
  bk : St → Hp → Prop := fun _ _ => False
  ct : St → Hp → Prop := fun _ _ => False
abbrev TS := Ends → St → Hp → Prop

def EP (X : Cx) (pins : List (Addr × Obj)) (σ : St) (Q : VK) (u : Value) (s' : Shared) : Prop := ∃ v H', Inv X pins σ H' s' ∧ RelV v u ∧ Q v H'
def TP (X : Cx) (pins : List (Addr × Obj)) (σ : St) (Q : Bool → Hp → Prop) (b : Bool) (s' : Shared) : Prop := ∃ H', Inv X pins σ H' s' ∧ Q b H'
def AP (X : Cx) (pins : List (Addr × Obj)) (σ : St) (Q : List V → Hp → Prop) (us : List Value) (s' : Shared) : Prop := ∃ vs H', Inv X pins σ H' s' ∧ Vals vs us ∧ Q vs H'
def SP (X : Cx) (pins : List (Addr × Obj)) (D : Ends) (f : Flow) (s' : Shared) : Prop :=
  match f with
  | .next => ∃ σ' H', Inv X pins σ' H' s' ∧ D.nx σ' H'
  | .brk => ∃ σ' H', Inv X pins σ' H' s' ∧ D.bk σ' H'
  | .cont => ∃ σ' H', Inv X pins σ' H' s' ∧ D.ct σ' H'
  | .ret u => ∃ v σ' H', Inv X pins σ' H' s' ∧ RelV v u ∧ D.rt v H'

def PE (X : Cx) (e : Expr) (t : TE) : Prop :=
  ∀ (pins : List (Addr × Obj)) (s : Shared) (σ : St) (H : Hp) (Q : VK), Inv X pins σ H s → t σ H Q → wpAny (model X.prog X.w) X.A (eval e X.env) (EP X pins σ Q) X.xe s
def PT (X : Cx) (e : Expr) (t : TT) : Prop :=
  ∀ (pins : List (Addr × Obj)) (s : Shared) (σ : St) (H : Hp) (Q : Bool → Hp → Prop), Inv X pins σ H s → t σ H Q → wpAny (model X.prog X.w) X.A (isTrue e X.env (eval e X.env)) (TP X pins σ Q) X.xe s
/-- a test whatever its 'whole' is (and, or) -/
def PW (X : Cx) (e : Expr) (t : TT) : Prop :=
  ∀ (whole : Sem Value) (pins : List (Addr × Obj)) (s : Shared) (σ : St) (H : Hp) (Q : Bool → Hp → Prop), Inv X pins σ H s → t σ H Q → wpAny (model X.prog X.w) X.A (isTrue e X.env whole) (TP X pins σ Q) X.xe s
theorem PW.pt {X : Cx} {e : Expr} {t : TT} (h : PW X e t) : PT X e t := h _
/-- an argument list (no star), from the left -/
def PA (X : Cx) (es : List Expr) (t : TA) : Prop :=
  ∀ (pos : Pos) (pins : List (Addr × Obj)) (s : Shared) (σ : St) (H : Hp) (Q : List V → Hp → Prop), Inv X pins σ H s → t σ H Q → wpAny (model X.prog X.w) X.A (spliced (backTo pos (starEach es X.env))) (AP X pins σ Q) X.xe s
def PS (X : Cx) (st : Stmt) (t : TS) : Prop :=
  ∀ (pins : List (Addr × Obj)) (s : Shared) (σ : St) (H : Hp) (D : Ends), Inv X pins σ H s → t D σ H → wpAny (model X.prog X.w) X.A (exec st X.env) (SP X pins D) X.xe s
def PSs (X : Cx) (st : List Stmt) (t : TS) : Prop :=
  ∀ (pins : List (Addr × Obj)) (s : Shared) (σ : St) (H : Hp) (D : Ends), Inv X pins σ H s → t D σ H → wpAny (model X.prog X.w) X.A (execs st X.env) (SP X pins D) X.xe s
/-- weaken the end -/
theorem thn {α : Type} {t : Sem α} {Q Q' : α → Shared → Prop} {M : Model} {A : Around} {E : Value → Shared → Prop} {s : Shared} (h : wpAny M A t Q E s) (hQ : ∀ a s, Q a s → Q' a s) : wpAny M A t Q' E s := wpAny_mono h hQ fun _ _ x => x
end L2

namespace L2
open PySem PySem.Spec PyProof.Rows
section
variable {X : Cx}

/-- two expressions in a row -/
theorem bin {a b : Expr} {ta tb : TE} (ha : PE X a ta) (hb : PE X b tb) {pins : List (Addr × Obj)} {s : Shared} {σ : St} {H : Hp} {R : V → V → Hp → Prop} (I : Inv X pins σ H s) (h : ta σ H fun x H1 => tb σ H1 fun y H2 => R x y H2)
    {α : Type} {Q : α → Shared → Prop} {f : Value → Value → Sem α}
    (hf : ∀ v u s2 x y H2, Inv X pins σ H2 s2 → RelV x v → RelV y u → R x y H2 → wpAny (model X.prog X.w) X.A (f v u) Q X.xe s2) :
    wpAny (model X.prog X.w) X.A (eval a X.env) (fun v s₁ => wpAny (model X.prog X.w) X.A (eval b X.env) (fun u s₂ => wpAny (model X.prog X.w) X.A (f v u) Q X.xe s₂) X.xe s₁) X.xe s := by
  refine thn (ha pins s σ H _ I h) fun v s1 ⟨x, H1, I1, r1, q1⟩ => ?_
  refine thn (hb pins s1 σ H1 _ I1 q1) fun u s2 ⟨y, H2, I2, r2, q2⟩ => ?_
  exact hf v u s2 x y H2 I2 r1 r2 q2

/-! ### names and constants -/
def tVar (i : Nat) : TE := fun σ H Q => ∃ v, σ[i]? = some (some v) ∧ Q v H
def tC (v : V) : TE := fun _ H Q => Q v H
theorem pe_var {i : Nat} {x : Str} {pos : Pos} (hN : X.N[i]? = some x) (hv : Vis X.env.scope x) (hd : (x == ("__debug__" : Str)) = false := by decide) (hcd : (x == ("__classdict__" : Str)) = false := by decide) : PE X (.Name x pos) (tVar i) := by
  intro pins s σ H Q I h
  obtain ⟨v, e, h⟩ := h
  obtain ⟨m, hn, hl⟩ := I.loc
  obtain ⟨u, r, l⟩ := hl i x v hN e hv
  have fin : EP X pins σ Q u s := ⟨v, H, I, r, h⟩
  rcases l with ⟨hk, hm⟩ | ⟨hk, c, hc, hcell⟩
  · exact wpAny_Name (wpAny_loadName_local I.ok.kind hk hn hm fin) hd
  · rcases hk with hk | hk
    · exact wpAny_Name (wpAny_loadName_cell I.ok.kind hk hc hcell fin) hd
    · exact wpAny_Name (wpAny_loadName_free I.ok.kind hk hc hcell fin hcd) hd
theorem pe_int {i j pos} : PE X (.Constant (.int i) j pos) (tC (.int i)) := fun _ _ _ H _ I h => wpAny_Constant_int ⟨.int i, H, I.tok _, ⟨_, rfl⟩, h⟩
theorem pe_bl {b j pos} : PE X (.Constant (.bool b) j pos) (tC (.bl b)) := fun _ _ _ H _ I h => Constant_bool ⟨.bl b, H, I, rfl, h⟩
theorem pe_non {j pos} : PE X (.Constant .none j pos) (tC .non) := fun _ _ _ H _ I h => Constant_none ⟨.non, H, I, rfl, h⟩
theorem pe_str {x j pos} : PE X (.Constant (.str x) j pos) (tC (.str x)) := fun _ _ _ H _ I h => Calls.Constant_str ⟨.str x, H, I.tok _, ⟨_, rfl⟩, h⟩

/-- a global name of the def -/
def Gl (X : Cx) (x : Str) : Prop := X.env.kindOf x = some .globalImplicit
theorem ld_glob {E : Value → Shared → Prop} {pins : List (Addr × Obj)} {s : Shared} {σ : St} {H : Hp} {x : Str} {u : Value} {pos : Pos} {Q : Value → Shared → Prop} (I : Inv X pins σ H s) (hg : Gl X x) (hm : X.mg x = some u) (h : Q u s)
    (hd : (x == ("__debug__" : Str)) = false := by decide) : wpAny (model X.prog X.w) X.A (eval (.Name x pos) X.env) Q E s :=
  Calls.Name_function_global I.ok.kind hg (Calls.loadGlobal_global (by rw [I.ok.glob]; exact I.mod.glob.keeps I.bk) hm h) hd
theorem ld_blt {E : Value → Shared → Prop} {pins : List (Addr × Obj)} {s : Shared} {σ : St} {H : Hp} {x : Str} {u : Value} {pos : Pos} {Q : Value → Shared → Prop} (I : Inv X pins σ H s) (hg : Gl X x) (hm : X.mg x = none) (hv : bootBuiltins x = some u) (h : Q u s)
    (hn : x ≠ "__name__" := by decide) (hd : (x == ("__debug__" : Str)) = false := by decide) : wpAny (model X.prog X.w) X.A (eval (.Name x pos) X.env) Q E s := by
  obtain ⟨mb, h1, h2⟩ := I.mod.blt
  exact Calls.Name_function_global I.ok.kind hg (Calls.loadGlobal_builtin (by rw [I.ok.glob]; exact I.mod.glob.keeps I.bk) hm (by rw [I.ok.blt]; exact h1.keeps I.bk) ((h2 x hn).trans hv) h) hd
/-- a module's constant, a class, a function, as a value -/
theorem pe_glob {x : Str} {v : V} {u : Value} {pos : Pos} (hg : Gl X x) (hm : X.mg x = some u) (r : RelV v u) (hd : (x == ("__debug__" : Str)) = false := by decide) : PE X (.Name x pos) (tC v) :=
  fun _ _ _ H _ I h => ld_glob I hg hm ⟨v, H, I, r, h⟩ hd
theorem pe_bltn {x : Str} {v : V} {u : Value} {pos : Pos} (hg : Gl X x) (hm : X.mg x = none) (hv : bootBuiltins x = some u) (r : RelV v u) (hn : x ≠ "__name__" := by decide) (hd : (x == ("__debug__" : Str)) = false := by decide) : PE X (.Name x pos) (tC v) :=
  fun _ _ _ H _ I h => ld_blt I hg hm hv ⟨v, H, I, r, h⟩ hn hd

/-! ### arithmetic -/
/-- two ints -/
def t2I (ta tb : TE) (k : Int → Int → Hp → Prop) : St → Hp → Prop := fun σ H => ta σ H fun x H1 => tb σ H1 fun y H2 => ∃ i j, x = .int i ∧ y = .int j ∧ k i j H2
def tAdd (ta tb : TE) : TE := fun σ H Q => t2I ta tb (fun i j H2 => Q (.int (i + j)) H2) σ H
def tSub (ta tb : TE) : TE := fun σ H Q => t2I ta tb (fun i j H2 => Q (.int (i - j)) H2) σ H
/-- the left factor below 2^64 -/
def tMul (ta tb : TE) : TE := fun σ H Q => t2I ta tb (fun i j H2 => (-(2 ^ 64) < i ∧ i < 2 ^ 64) ∧ Q (.int (i * j)) H2) σ H
variable {a b : Expr} {ta tb : TE} {pos : Pos}
theorem pe_add (ha : PE X a ta) (hb : PE X b tb) : PE X (.BinOp a .Add b pos) (tAdd ta tb) := by
  intro pins s σ H Q I h
  refine wpAny_BinOp (bin ha hb I h fun v u s2 x y H2 I2 rx ry q => ?_)
  obtain ⟨i, j, rfl, rfl, q⟩ := q
  obtain ⟨t, rfl⟩ := rx
  obtain ⟨t', rfl⟩ := ry
  exact add_int ⟨.int _, H2, I2.tok _, ⟨_, rfl⟩, q⟩
theorem pe_sub (ha : PE X a ta) (hb : PE X b tb) : PE X (.BinOp a .Sub b pos) (tSub ta tb) := by
  intro pins s σ H Q I h
  refine wpAny_BinOp (bin ha hb I h fun v u s2 x y H2 I2 rx ry q => ?_)
  obtain ⟨i, j, rfl, rfl, q⟩ := q
  obtain ⟨t, rfl⟩ := rx
  obtain ⟨t', rfl⟩ := ry
  exact sub_int ⟨.int _, H2, I2.tok _, ⟨_, rfl⟩, q⟩
theorem pe_mul (ha : PE X a ta) (hb : PE X b tb) : PE X (.BinOp a .Mult b pos) (tMul ta tb) := by
  intro pins s σ H Q I h
  refine wpAny_BinOp (bin ha hb I h fun v u s2 x y H2 I2 rx ry q => ?_)
  obtain ⟨i, j, rfl, rfl, ⟨q1, q2⟩, q⟩ := q
  obtain ⟨t, rfl⟩ := rx
  obtain ⟨t', rfl⟩ := ry
  exact mul_int ⟨.int _, H2, I2.tok _, ⟨_, rfl⟩, q⟩ (.of_left (intBits_le_64 q1 q2))

/-! ### comparisons -/
def PC (X : Cx) (op : CmpOp) (a b : Expr) (t : TE) : Prop :=
  ∀ (pins : List (Addr × Obj)) (s : Shared) (σ : St) (H : Hp) (Q : VK), Inv X pins σ H s → t σ H Q →
    wpAny (model X.prog X.w) X.A (eval a X.env) (fun v s₁ => wpAny (model X.prog X.w) X.A (eval b X.env) (fun u s₂ => wpAny (model X.prog X.w) X.A (compareOp op v u) (EP X pins σ Q) X.xe s₂) X.xe s₁) X.xe s
theorem nobehind (b : Expr) {op : CmpOp} (h : op ≠ .In) (h2 : op ≠ .NotIn) : behindInMarks op b = false := by
  have e1 : (op == CmpOp.In) = false := by cases op <;> first | rfl | exact absurd rfl h
  have e2 : (op == CmpOp.NotIn) = false := by cases op <;> first | rfl | exact absurd rfl h2
  cases b <;> simp [behindInMarks, e1, e2]
def tCmp (p : Int → Int → Bool) (ta tb : TE) : TE := fun σ H Q => t2I ta tb (fun i j H2 => Q (.bl (p i j)) H2) σ H
abbrev tLt : TE → TE → TE := tCmp fun i j => decide (i < j)
abbrev tLe : TE → TE → TE := tCmp fun i j => decide (i ≤ j)
abbrev tGt : TE → TE → TE := tCmp fun i j => decide (j < i)
abbrev tGe : TE → TE → TE := tCmp fun i j => decide (j ≤ i)
abbrev tEqI : TE → TE → TE := tCmp fun i j => decide (i = j)
abbrev tNeI : TE → TE → TE := tCmp fun i j => !decide (i = j)
/-- a comparison of two ints, by its rule -/
theorem pc_int {op : CmpOp} {p : Int → Int → Bool} (ha : PE X a ta) (hb : PE X b tb)
    (rule : ∀ (i j : Int) (t u : Tok) (Q : Value → Shared → Prop) (s : Shared), Q (.bool (p i j)) s → wpAny (model X.prog X.w) X.A (compareOp op (.int i t) (.int j u)) Q X.xe s) : PC X op a b (tCmp p ta tb) := by
  intro pins s σ H Q I h
  refine bin ha hb I h fun v u s2 x y H2 I2 rx ry q => ?_
  obtain ⟨i, j, rfl, rfl, q⟩ := q
  obtain ⟨t, rfl⟩ := rx
  obtain ⟨t', rfl⟩ := ry
  exact rule i j t t' _ s2 ⟨.bl _, H2, I2, rfl, q⟩
theorem pc_lt (ha : PE X a ta) (hb : PE X b tb) : PC X .Lt a b (tLt ta tb) := pc_int ha hb fun _ _ _ _ _ _ h => lt_int h
theorem pc_le (ha : PE X a ta) (hb : PE X b tb) : PC X .LtE a b (tLe ta tb) := pc_int ha hb fun _ _ _ _ _ _ h => le_int h
theorem pc_gt (ha : PE X a ta) (hb : PE X b tb) : PC X .Gt a b (tGt ta tb) := pc_int ha hb fun _ _ _ _ _ _ h => gt_int h
theorem pc_ge (ha : PE X a ta) (hb : PE X b tb) : PC X .GtE a b (tGe ta tb) := pc_int ha hb fun _ _ _ _ _ _ h => ge_int h
theorem pc_eqI (ha : PE X a ta) (hb : PE X b tb) : PC X .Eq a b (tEqI ta tb) := pc_int ha hb fun _ _ _ _ _ _ h => eq_int (by rw [Bool.beq_eq_decide_eq]; exact h)
theorem pc_neI (ha : PE X a ta) (hb : PE X b tb) : PC X .NotEq a b (tNeI ta tb) := pc_int ha hb fun _ _ _ _ _ _ h => ne_int (by rw [bne, Bool.beq_eq_decide_eq]; exact h)
/-- is None -/
def tIsN (ta : TE) : TE := fun σ H Q => ta σ H fun x H1 => Q (.bl (decide (x = .non))) H1
def tNotN (ta : TE) : TE := fun σ H Q => ta σ H fun x H1 => Q (.bl (!decide (x = .non))) H1
theorem RelV.none_iff {x : V} {v : Value} (r : RelV x v) : (v == Value.none) = decide (x = .non) := by
  cases x with
  | non => cases r; rfl
  | bl _ => cases r; rfl
  | int _ => obtain ⟨t, rfl⟩ := r; rfl
  | str _ => obtain ⟨t, rfl⟩ := r; rfl
  | byt _ => obtain ⟨t, rfl⟩ := r; rfl
  | flt _ => obtain ⟨t, rfl⟩ := r; rfl
  | ref _ => cases r; rfl
  | ty _ => cases r; rfl
theorem pc_isN {j pos'} (ha : PE X a ta) : PC X .Is a (.Constant .none j pos') (tIsN ta) := by
  intro pins s σ H Q I h
  refine thn (ha pins s σ H _ I h) fun v s1 ⟨x, H1, I1, r1, q1⟩ => ?_
  exact Constant_none (is_none_gen ⟨.bl _, H1, I1, by rw [r1.none_iff]; rfl, q1⟩)
theorem pc_notN {j pos'} (ha : PE X a ta) : PC X .IsNot a (.Constant .none j pos') (tNotN ta) := by
  intro pins s σ H Q I h
  refine thn (ha pins s σ H _ I h) fun v s1 ⟨x, H1, I1, r1, q1⟩ => ?_
  exact Constant_none (isnot_none_gen ⟨.bl _, H1, I1, by rw [r1.none_iff]; rfl, q1⟩)
/-- a comparison as a value, as a test -/
def tB (t : TE) : TT := fun σ H Q => t σ H fun x H1 => ∃ c, x = .bl c ∧ Q c H1
theorem pe_cmp {op : CmpOp} {t : TE} (h : PC X op a b t) (h1 : behindInMarks op b = false := by first | exact nobehind _ (by decide) (by decide) | rfl) : PE X (.Compare a [op] [b] pos) t := fun pins s σ H Q I hw => wpAny_Compare1 (h pins s σ H Q I hw) h1
theorem pt_cmp {op : CmpOp} {t : TE} (h : PC X op a b t) (h1 : behindInMarks op b = false := by first | exact nobehind _ (by decide) (by decide) | rfl) : PT X (.Compare a [op] [b] pos) (tB t) := by
  intro pins s σ H Q I hw
  refine wpAny_isTrue_Compare1 (thn (h pins s σ H _ I hw) fun v s1 h1 => thn h1 fun u s2 h2 => thn h2 fun c s3 ⟨x, H1, I1, r1, q1⟩ => ?_) h1
  obtain ⟨d, rfl, q⟩ := q1
  cases r1
  exact wpAny_truthy_bool ⟨H1, I1, q⟩
/-- an expression whose value is a bool, as a test -/
theorem pt_val {e : Expr} {t : TE} (h : PE X e t) (he : ∀ whole, isTrue e X.env whole = (do let v ← whole; standAt e.pos; holding [v] (truthy v)) := by intro _; rfl) : PT X e (tB t) := by
  intro pins s σ H Q I hw
  refine isTrue_plain (thn (h pins s σ H _ I hw) fun v s1 ⟨x, H1, I1, r1, q1⟩ => ?_) (he _)
  obtain ⟨d, rfl, q⟩ := q1
  cases r1
  exact wpAny_truthy_bool ⟨H1, I1, q⟩

/-! ### and, or, not -/
variable {tA tB' : TT} {rest : List Expr}
def tAnd (t u : TT) : TT := fun σ H Q => t σ H fun c H1 => if c = true then u σ H1 Q else Q false H1
def tOr (t u : TT) : TT := fun σ H Q => t σ H fun c H1 => if c = true then Q true H1 else u σ H1 Q
def tNot (t : TT) : TT := fun σ H Q => t σ H fun c H1 => Q (!c) H1
theorem pw_and1 (ha : PT X a tA) : PW X (.BoolOp .And [a] pos) tA := by
  intro wh pins s σ H Q I h
  refine isTrue_and (thn (ha pins s σ H Q I h) fun c s1 e => ?_)
  cases c with
  | true => exact isTrue_and_nil e
  | false => exact e
theorem pw_or1 (ha : PT X a tA) : PW X (.BoolOp .Or [a] pos) tA := by
  intro wh pins s σ H Q I h
  refine isTrue_or (thn (ha pins s σ H Q I h) fun c s1 e => ?_)
  cases c with
  | false => exact isTrue_or_nil e
  | true => exact e
theorem pw_and (ha : PT X a tA) (hb : PW X (.BoolOp .And (b :: rest) pos) tB') : PW X (.BoolOp .And (a :: b :: rest) pos) (tAnd tA tB') := by
  intro wh pins s σ H Q I h
  refine isTrue_and (thn (ha pins s σ H _ I h) fun c s1 ⟨H1, I1, q1⟩ => ?_)
  cases c with
  | true => exact hb wh pins s1 σ H1 Q I1 q1
  | false => exact ⟨H1, I1, q1⟩
theorem pw_or (ha : PT X a tA) (hb : PW X (.BoolOp .Or (b :: rest) pos) tB') : PW X (.BoolOp .Or (a :: b :: rest) pos) (tOr tA tB') := by
  intro wh pins s σ H Q I h
  refine isTrue_or (thn (ha pins s σ H _ I h) fun c s1 ⟨H1, I1, q1⟩ => ?_)
  cases c with
  | true => exact ⟨H1, I1, q1⟩
  | false => exact hb wh pins s1 σ H1 Q I1 q1
theorem pt_not (ha : PT X a tA) : PT X (.UnaryOp .Not a pos) (tNot tA) := by
  intro pins s σ H Q I h
  exact isTrue_not (ha pins s σ H (fun c H1 => Q (!c) H1) I h)
/-- .. as values (bools) -/
def tAndV (ta tb : TE) : TE := fun σ H Q => ta σ H fun x H1 => ∃ c, x = .bl c ∧ if c = true then tb σ H1 Q else Q (.bl false) H1
def tOrV (ta tb : TE) : TE := fun σ H Q => ta σ H fun x H1 => ∃ c, x = .bl c ∧ if c = true then Q (.bl true) H1 else tb σ H1 Q
def tNotV (ta : TE) : TE := fun σ H Q => ta σ H fun x H1 => ∃ c, x = .bl c ∧ Q (.bl (!c)) H1
theorem pe_one {op} {t : TE} (h : PE X a t) : PE X (.BoolOp op [a] pos) t := fun pins s σ H Q I hw => BoolOp_one (h pins s σ H Q I hw)
theorem pe_and (ha : PE X a ta) (hb : PE X (.BoolOp .And (b :: rest) pos) tb) : PE X (.BoolOp .And (a :: b :: rest) pos) (tAndV ta tb) := by
  intro pins s σ H Q I h
  refine BoolOp_and (thn (ha pins s σ H _ I h) fun v s1 ⟨x, H1, I1, r1, q1⟩ => ?_)
  obtain ⟨c, rfl, q1⟩ := q1
  cases r1
  refine wpAny_truthy_bool ?_
  cases c with
  | true => exact hb pins s1 σ H1 Q I1 q1
  | false => exact ⟨.bl false, H1, I1, rfl, q1⟩
theorem pe_or (ha : PE X a ta) (hb : PE X (.BoolOp .Or (b :: rest) pos) tb) : PE X (.BoolOp .Or (a :: b :: rest) pos) (tOrV ta tb) := by
  intro pins s σ H Q I h
  refine BoolOp_or (thn (ha pins s σ H _ I h) fun v s1 ⟨x, H1, I1, r1, q1⟩ => ?_)
  obtain ⟨c, rfl, q1⟩ := q1
  cases r1
  refine wpAny_truthy_bool ?_
  cases c with
  | false => exact hb pins s1 σ H1 Q I1 q1
  | true => exact ⟨.bl true, H1, I1, rfl, q1⟩
theorem pe_not (ha : PE X a ta) : PE X (.UnaryOp .Not a pos) (tNotV ta) := by
  intro pins s σ H Q I h
  refine UnaryOp_ (thn (ha pins s σ H _ I h) fun v s1 ⟨x, H1, I1, r1, q1⟩ => ?_)
  obtain ⟨c, rfl, q1⟩ := q1
  cases r1
  exact not_of (wpAny_truthy_bool ⟨.bl (!c), H1, I1, rfl, q1⟩)
/-- a if t else b -/
def tIf (t : TT) (ta tb : TE) : TE := fun σ H Q => t σ H fun c H1 => if c = true then ta σ H1 Q else tb σ H1 Q
theorem pe_ifExp {c : Expr} (hc : PT X c tA) (ha : PE X a ta) (hb : PE X b tb) : PE X (.IfExp c a b pos) (tIf tA ta tb) := by
  intro pins s σ H Q I h
  refine wpAny_IfExp (thn (hc pins s σ H _ I h) fun d s1 ⟨H1, I1, q1⟩ => ?_)
  cases d with
  | true => exact ha pins s1 σ H1 Q I1 q1
  | false => exact hb pins s1 σ H1 Q I1 q1
end
end L2

namespace L2
open PySem PySem.Spec PyProof.Rows

/-! ### a list, a tuple that is read: tracked, frozen, or an object of the module -/
def SqL (K : PySem.W.Frag) (H : Hp) (a : Addr) (xs : List V) : Prop :=
  Rd H a (.lst xs) ∨
    ∃ (o : Obj) (its : Array Value) (n : Nat), K.lookup a = some o ∧ o.cls = .type "list" ∧ o.dict = none ∧ o.data = .seq its n ∧ its.size ≤ sizeLine ∧ Vals xs its.toList
def SqT (K : PySem.W.Frag) (H : Hp) (a : Addr) (xs : List V) : Prop :=
  Rd H a (.tup xs) ∨
    ∃ (o : Obj) (its : Array Value) (n : Nat), K.lookup a = some o ∧ o.cls = .type "tuple" ∧ o.data = .seq its n ∧ its.size ≤ sizeLine ∧ Vals xs its.toList
def absV : Value → Option V
  | .none => some .non
  | .bool b => some (.bl b)
  | .int i _ => some (.int i)
  | .str x _ => some (.str x)
  | .bytes b _ => some (.byt b)
  | .float b _ => some (.flt b)
  | .ref a => some (.ref a)
  | .type n => some (.ty n)
  | _ => none
theorem RelV.abs {x : V} {u : Value} (r : RelV x u) : absV u = some x := by
  cases x with
  | non => cases r; rfl
  | bl _ => cases r; rfl
  | int _ => obtain ⟨t, rfl⟩ := r; rfl
  | str _ => obtain ⟨t, rfl⟩ := r; rfl
  | byt _ => obtain ⟨t, rfl⟩ := r; rfl
  | flt _ => obtain ⟨t, rfl⟩ := r; rfl
  | ref _ => cases r; rfl
  | ty _ => cases r; rfl
theorem RelV.inj {x y : V} {u : Value} (r : RelV x u) (q : RelV y u) : x = y := Option.some.inj (r.abs.symm.trans q.abs)
theorem Vals.inj : ∀ {xs ys : List V} {us : List Value}, Vals xs us → Vals ys us → xs = ys
  | _, _, _, .nil, .nil => rfl
  | _, _, _, .cons r t, .cons r' t' => by rw [r.inj r', Vals.inj t t']
section
variable {X : Cx} {pins : List (Addr × Obj)} {σ : St} {H : Hp} {s : Shared} {a : Addr} {xs ys : List V}
theorem SqL.of {K : PySem.W.Frag} (h : H a = some (.lst xs)) : SqL K H a xs := .inl (.inl h)
theorem SqT.of {K : PySem.W.Frag} (h : H a = some (.tup xs)) : SqT K H a xs := .inl (.inl h)
theorem Inv.list (I : Inv X pins σ H s) (h : SqL X.K H a xs) : ∃ its : List Value, Vals xs its ∧ PlainL s.heap a its.toArray ∧ xs.length ≤ sizeLine := by
  rcases h with h | ⟨o, its, n, hk, hc, hd, hs, hz, r⟩
  · obtain ⟨z, its, n, r, e⟩ := h.ok I.hok
    exact ⟨its, r, ⟨_, n, e, rfl, rfl, rfl⟩, z⟩
  · refine ⟨its.toList, r, ⟨o, n, I.kIn a o hk, hc, hd, by simpa using hs⟩, ?_⟩
    have e := r.length
    simp only [Array.length_toList] at e
    omega
theorem Inv.tuple (I : Inv X pins σ H s) (h : SqT X.K H a xs) : ∃ its : List Value, Vals xs its ∧ IsTup s.heap a its.toArray ∧ xs.length ≤ sizeLine := by
  rcases h with h | ⟨o, its, n, hk, hc, hs, hz, r⟩
  · obtain ⟨z, its, r, p⟩ := h.ok I.hok
    exact ⟨its, r, p, z⟩
  · refine ⟨its.toList, r, ⟨o, I.kIn a o hk, hc, n, by simpa using hs⟩, ?_⟩
    have e := r.length
    simp only [Array.length_toList] at e
    omega
theorem Inv.list_inj (I : Inv X pins σ H s) (h : SqL X.K H a xs) (h' : SqL X.K H a ys) : xs = ys := by
  obtain ⟨its, r, ⟨o, n, e, _, _, d⟩, _⟩ := I.list h
  obtain ⟨its', r', ⟨o', n', e', _, _, d'⟩, _⟩ := I.list h'
  rw [e] at e'; cases e'
  rw [d] at d'
  injection d' with d1 _
  have : its = its' := by simpa using congrArg Array.toList d1
  subst this
  exact r.inj r'
theorem Inv.tuple_inj (I : Inv X pins σ H s) (h : SqT X.K H a xs) (h' : SqT X.K H a ys) : xs = ys := by
  obtain ⟨its, r, ⟨o, e, _, n, d⟩, _⟩ := I.tuple h
  obtain ⟨its', r', ⟨o', e', _, n', d'⟩, _⟩ := I.tuple h'
  rw [e] at e'; cases e'
  rw [d] at d'
  injection d' with d1 _
  have : its = its' := by simpa using congrArg Array.toList d1
  subst this
  exact r.inj r'
end

/-! ### another wish about exceptions -/
abbrev Cx.wish (X : Cx) (E : Value → Shared → Prop) : Cx := { X with xe := E }
/-- no exception leaves -/
abbrev Cx.nox (X : Cx) : Cx := X.wish fun _ _ => False
theorem Cx.Ok.wish {X : Cx} (ok : X.Ok) (E : Value → Shared → Prop) : (X.wish E).Ok :=
  ⟨ok.mod, ok.kind, ok.glob, ok.blt, ok.above, ok.inj, ok.has, ok.cab, ok.hd, ok.frames, ok.stk, ok.exf, ok.bs, ok.bsz, ok.noex, ok.exfs, ok.funs, ok.frf⟩
theorem Cx.Ok.unwish {X : Cx} {E : Value → Shared → Prop} (ok : (X.wish E).Ok) : X.Ok :=
  ⟨ok.mod, ok.kind, ok.glob, ok.blt, ok.above, ok.inj, ok.has, ok.cab, ok.hd, ok.frames, ok.stk, ok.exf, ok.bs, ok.bsz, ok.noex, ok.exfs, ok.funs, ok.frf⟩
section
variable {X : Cx} {pins : List (Addr × Obj)} {σ : St} {H : Hp} {s : Shared} {E : Value → Shared → Prop}
theorem Inv.wish (I : Inv X pins σ H s) (E : Value → Shared → Prop) : Inv (X.wish E) pins σ H s := ⟨I.ok.wish E, I.os, I.bare, I.base, I.loc, I.cell, I.free, I.freeC, I.pin, I.hok, I.len⟩
theorem Inv.unwish (I : Inv (X.wish E) pins σ H s) : Inv X pins σ H s := ⟨I.ok.unwish, I.os, I.bare, I.base, I.loc, I.cell, I.free, I.freeC, I.pin, I.hok, I.len⟩
theorem SP.unwish {D : Ends} {f : Flow} {s' : Shared} (h : SP (X.wish E) pins D f s') : SP X pins D f s' := by
  cases f with
  | next => obtain ⟨σ', H', I, q⟩ := h; exact ⟨σ', H', I.unwish, q⟩
  | brk => obtain ⟨σ', H', I, q⟩ := h; exact ⟨σ', H', I.unwish, q⟩
  | cont => obtain ⟨σ', H', I, q⟩ := h; exact ⟨σ', H', I.unwish, q⟩
  | ret u => obtain ⟨v, σ', H', I, r, q⟩ := h; exact ⟨v, σ', H', I.unwish, r, q⟩
theorem PE.nox {e : Expr} {t : TE} (h : PE X.nox e t) : PE X e t := fun pins s σ H Q I hw =>
  wpAny_mono (h pins s σ H Q (I.wish _) hw) (fun _ _ ⟨v, H', I', r, q⟩ => ⟨v, H', I'.unwish, r, q⟩) fun _ _ z => False.elim z
theorem PT.nox {e : Expr} {t : TT} (h : PT X.nox e t) : PT X e t := fun pins s σ H Q I hw =>
  wpAny_mono (h pins s σ H Q (I.wish _) hw) (fun _ _ ⟨H', I', q⟩ => ⟨H', I'.unwish, q⟩) fun _ _ z => False.elim z
theorem PSs.nox {st : List Stmt} {t : TS} (h : PSs X.nox st t) : PSs X st t := fun pins s σ H D I hw =>
  wpAny_mono (h pins s σ H D (I.wish _) hw) (fun _ _ q => q.unwish) fun _ _ z => False.elim z
end

/-! ### blocks and small statements -/
section
variable {X : Cx} {st : Stmt} {rest : List Stmt} {t u : TS} {e : Expr} {te : TE} {pos : Pos}
def tNext : TS := fun D σ H => D.nx σ H
def tSeq (t u : TS) : TS := fun D σ H => t { D with nx := u D } σ H
theorem pss_nil : PSs X [] tNext := fun _ _ σ H _ I h => wpAny_execs_nil ⟨σ, H, I, h⟩
theorem pss_cons (h1 : PS X st t) (h2 : PSs X rest u) : PSs X (st :: rest) (tSeq t u) := by
  intro pins s σ H D I h
  refine wpAny_execs_cons (thn (h1 pins s σ H { D with nx := u D } I h) fun f s1 q => ?_)
  cases f with
  | next =>
    obtain ⟨σ', H', I', q⟩ := q
    exact h2 pins s1 σ' H' D I' q
  | ret v => exact q
  | brk => exact q
  | cont => exact q
theorem pss_one (h1 : PS X st t) : PSs X [st] t := by
  intro pins s σ H D I h
  refine wpAny_execs_cons (thn (h1 pins s σ H D I h) fun f s1 q => ?_)
  cases f with
  | next => exact wpAny_execs_nil q
  | ret v => exact q
  | brk => exact q
  | cont => exact q
def tBreak : TS := fun D σ H => D.bk σ H
def tCont : TS := fun D σ H => D.ct σ H
theorem ps_pass : PS X (.Pass pos) tNext := fun _ _ σ H _ I h => wpAny_Pass ⟨σ, H, I, h⟩
theorem ps_break : PS X (.Break pos) tBreak := fun _ _ σ H _ I h => wpAny_Break ⟨σ, H, I, h⟩
theorem ps_continue : PS X (.Continue pos) tCont := fun _ _ σ H _ I h => wpAny_Continue ⟨σ, H, I, h⟩
/-- in a def's body nothing is shown -/
theorem Inv.quiet {pins : List (Addr × Obj)} {σ : St} {H : Hp} {s : Shared} (I : Inv X pins σ H s) : interactive X.env = false := by simp [interactive, I.ok.kind]
/-- a docstring -/
theorem ps_doc {x j pos pos'} : PS X (.Expr (.Constant (.str x) j pos) pos') tNext := fun _ s σ H _ I h => wpAny_Expr (Calls.Constant_str (show SP X _ _ .next { s with toks := s.toks + 1 } from ⟨σ, H, I.tok _, h⟩)) I.quiet
/-- an expression whose value is dropped -/
def tDrop (te : TE) : TS := fun D σ H => te σ H fun _ H1 => D.nx σ H1
theorem ps_expr (he : PE X e te) (hs : swapsWith e none pos.line X.env = pure false := by rfl) : PS X (.Expr e pos) (tDrop te) := by
  intro pins s σ H D I h
  exact wpAny_Expr_any (thn (he pins s σ H _ I h) fun v s1 ⟨x, H1, I1, r1, q1⟩ => ⟨σ, H1, I1, q1⟩) I.quiet hs
def tRet (te : TE) : TS := fun D σ H => te σ H D.rt
theorem ps_ret (he : PE X e te) : PS X (.Return (some e) pos) (tRet te) := by
  intro pins s σ H D I h
  exact wpAny_Return_some (thn (he pins s σ H _ I h) fun v s1 ⟨x, H1, I1, r1, q1⟩ => ⟨x, σ, H1, I1, r1, q1⟩)
def tRetN : TS := fun D _ H => D.rt .non H
theorem ps_retN : PS X (.Return none pos) tRetN := fun _ _ σ H _ I h => wpAny_Return_none ⟨.non, σ, H, I, rfl, h⟩
def tIfS (c : TT) (t u : TS) : TS := fun D σ H => c σ H fun b H1 => if b = true then t D σ H1 else u D σ H1
theorem ps_if {c : Expr} {a b : List Stmt} {tc : TT} (hc : PT X c tc) (ha : PSs X a t) (hb : PSs X b u) : PS X (.If c a b pos) (tIfS tc t u) := by
  intro pins s σ H D I h
  refine wpAny_If (thn (hc pins s σ H _ I h) fun d s1 ⟨H1, I1, q1⟩ => ?_)
  cases d with
  | true => exact ha pins s1 σ H1 D I1 q1
  | false => exact hb pins s1 σ H1 D I1 q1
/-- code that the proof never comes to -/
def tNever : TS := fun _ _ _ => False
theorem ps_never : PS X st tNever := fun _ _ _ _ _ _ h => h.elim
theorem pss_never {sts : List Stmt} : PSs X sts tNever := fun _ _ _ _ _ _ h => h.elim
end

/-! ### targets -/
abbrev TG := V → St → Hp → (St → Hp → Prop) → Prop
abbrev TGs := List V → St → Hp → (St → Hp → Prop) → Prop
def PG (X : Cx) (target : Expr) (t : TG) : Prop :=
  ∀ (pins : List (Addr × Obj)) (s : Shared) (σ : St) (H : Hp) (v : V) (u : Value) (Q : St → Hp → Prop), Inv X pins σ H s → RelV v u → t v σ H Q →
    wpAny (model X.prog X.w) X.A (assign target X.env u) (fun _ s' => ∃ σ' H', Inv X pins σ' H' s' ∧ Q σ' H') X.xe s
/-- several targets, one after another -/
def PGs (X : Cx) (ts : List Expr) (t : TGs) : Prop :=
  ∀ (pins : List (Addr × Obj)) (s : Shared) (σ : St) (H : Hp) (vs : List V) (us : List Value) (Q : St → Hp → Prop), Inv X pins σ H s → Vals vs us → t vs σ H Q →
    wpAny (model X.prog X.w) X.A (assignInOrder ((assignEach ts X.env).map (·.2)) us) (fun _ s' => ∃ σ' H', Inv X pins σ' H' s' ∧ Q σ' H') X.xe s
/-- o[i] = v, by values -/
abbrev TSet := V → V → V → Hp → (Hp → Prop) → Prop
def PSet (X : Cx) (t : TSet) : Prop :=
  ∀ (pins : List (Addr × Obj)) (s : Shared) (σ : St) (H : Hp) (o i v : V) (ov iv u : Value) (Q : Hp → Prop), Inv X pins σ H s → RelV o ov → RelV i iv → RelV v u → t o i v H Q →
    wpAny (model X.prog X.w) X.A (setItem ov iv u) (fun _ s' => ∃ H', Inv X pins σ H' s' ∧ Q H') X.xe s
/-- a op= b, by values -/
abbrev TIp := V → V → Hp → VK → Prop
def PIp (X : Cx) (op : Operator) (t : TIp) : Prop :=
  ∀ (pins : List (Addr × Obj)) (s : Shared) (σ : St) (H : Hp) (x y : V) (v u : Value) (Q : VK), Inv X pins σ H s → RelV x v → RelV y u → t x y H Q →
    wpAny (model X.prog X.w) X.A (inplaceOp op v u) (EP X pins σ Q) X.xe s
section
variable {X : Cx} {pos : Pos}
def gName (i : Nat) : TG := fun v σ H Q => Q (σ.set i (some v)) H
theorem pg_name {i : Nat} {x : Str} (hN : X.N.Nodup) (hi : X.N[i]? = some x) (hx : Loc X.env.scope x) (hf : X.fn x = true ∨ X.env.scope.names.lookup x = some .local := by first | exact .inl rfl | exact .inr rfl | assumption) : PG X (.Name x pos) (gName i) := by
  intro pins s σ H v u Q I r h
  exact wpAny_assign_Name (store_ok I hN hi hx r (fun s' I' => ⟨_, H, I', h⟩) hf)
def gNil : TGs := fun vs σ H Q => vs = [] ∧ Q σ H
def gCons (t : TG) (u : TGs) : TGs := fun vs σ H Q => ∃ v r, vs = v :: r ∧ t v σ H fun σ' H' => u r σ' H' Q
theorem pgs_nil : PGs X [] gNil := by
  intro pins s σ H vs us Q I r h
  obtain ⟨e, h⟩ := h
  subst e
  cases r
  exact assignInOrder_nil ⟨σ, H, I, h⟩
theorem pgs_cons {e : Expr} {es : List Expr} {t : TG} {u : TGs} (h1 : PG X e t) (h2 : PGs X es u)
    (hs : (assignEach (e :: es) X.env).map (·.2) = assign e X.env :: (assignEach es X.env).map (·.2) := by rfl) : PGs X (e :: es) (gCons t u) := by
  intro pins s σ H vs us Q I r h
  obtain ⟨v, vr, e1, h⟩ := h
  subst e1
  cases r with
  | cons r rr =>
    rw [hs]
    refine assignInOrder_cons (thn (h1 pins s σ H _ _ _ I r h) fun _ s1 ⟨σ1, H1, I1, q1⟩ => ?_)
    exact h2 pins s1 σ1 H1 _ _ Q I1 rr q1
/-- (a, b, ..) = a tuple of that length -/
def gTup (K : PySem.W.Frag) (n : Nat) (t : TGs) : TG := fun v σ H Q => ∃ a xs, v = .ref a ∧ SqT K H a xs ∧ xs.length = n ∧ t xs σ H Q
theorem pg_tup {es : List Expr} {k : Nat} {t : TGs} {n : Nat} (hc : X.calm = true) (h : PGs X es t)
    (hn : (assignEach es X.env).length = n := by rfl) (hst : (assignEach es X.env).findIdx? (·.1) = none := by rfl) : PG X (.Tuple es k pos) (gTup X.K n t) := by
  intro pins s σ H v u Q I r hw
  obtain ⟨a, xs, e1, hq, hl, hw⟩ := hw
  subst e1
  cases r
  obtain ⟨its, rv, ht, hz⟩ := I.tuple hq
  refine assign_Tuple_tuple (I.ok.hd hc) ht (by simp [hn, ← hl, rv.length]) hst fun h' hx => ?_
  have I1 : Inv X pins σ H { s with heap := h' } := I.kept (t' := s.toks) fun b o e => hx b o (Nat.ne_of_lt (Heap.lt_size e)) e
  exact h pins _ σ H xs _ Q I1 (by simpa using rv) hw
/-- o[i] = .. -/
def gSub (to ti : TE) (t : TSet) : TG := fun v σ H Q => to σ H fun o H1 => ti σ H1 fun i H2 => t o i v H2 fun H3 => Q σ H3
theorem pg_sub {o i : Expr} {to ti : TE} {t : TSet} (ho : PE X o to) (hi : PE X i ti) (hs : PSet X t)
    (ha : ∀ v, assign (.Subscript o i pos) X.env v = (do
      let ov ← holding [v] (eval o X.env)
      let iv ← holding [v, ov] (eval i X.env)
      standAt pos
      holding [v, ov, iv] (setItem ov iv v)
      release [v, ov, iv] []) := by intro _; rfl) : PG X (.Subscript o i pos) (gSub to ti t) := by
  intro pins s σ H v u Q I r h
  rw [ha]
  refine wpAny_bind (wpAny_holding (thn (ho pins s σ H _ I h) fun ov s1 ⟨x, H1, I1, r1, q1⟩ => ?_))
  refine wpAny_bind (wpAny_holding (thn (hi pins s1 σ H1 _ I1 q1) fun iv s2 ⟨y, H2, I2, r2, q2⟩ => ?_))
  refine wpAny_bind (wpAny_standAt (wpAny_bind (wpAny_holding (thn (hs pins s2 σ H2 x y v ov iv u _ I2 r1 r2 r q2) fun _ s3 ⟨H3, I3, q3⟩ => ?_))))
  exact wpAny_release ⟨σ, H3, I3, q3⟩
/-- target = value -/
def tAsg (te : TE) (g : TG) : TS := fun D σ H => te σ H fun x H1 => g x σ H1 D.nx
theorem ps_asg {tg e : Expr} {te : TE} {g : TG} (he : PE X e te) (hg : PG X tg g) (hs : swapsWithSole [tg] e pos.line X.env = pure false := by rfl) (hw : swappedStores [tg] e X.env = pure none := by rfl)
    (h1 : (assignEach [tg] X.env).map (·.2) = [assign tg X.env] := by rfl) : PS X (.Assign [tg] e pos) (tAsg te g) := by
  intro pins s σ H D I h
  refine wpAny_Assign_stores (thn (he pins s σ H _ I h) fun v s1 ⟨x, H1, I1, r1, q1⟩ => ?_) hs hw
  rw [h1]
  exact thn (hg pins s1 σ H1 x v _ I1 r1 q1) fun _ s2 q => q
/-- name = value -/
theorem ps_set {i : Nat} {x : Str} {e : Expr} {te : TE} {pos' : Pos} (hN : X.N.Nodup) (hi : X.N[i]? = some x) (hx : Loc X.env.scope x) (he : PE X e te) (hs : swapsWith e (some (.Name x pos')) pos.line X.env = pure false := by rfl) (hf : X.fn x = true ∨ X.env.scope.names.lookup x = some .local := by first | exact .inl rfl | exact .inr rfl | assumption) :
    PS X (.Assign [.Name x pos'] e pos) (tAsg te (gName i)) := by
  intro pins s σ H D I h
  refine wpAny_Assign_Name (thn (he pins s σ H _ I h) fun v s1 ⟨y, H1, I1, r1, q1⟩ => ?_) hs
  exact store_ok I1 hN hi hx r1 (fun s2 I2 => ⟨_, H1, I2, q1⟩) hf
/-- a, b = x, y with plain local names: stored from the right; the pair itself is not tracked (the opening rows as in PyProof/Rows/TupAssign.lean:23) -/
def tPar (i j : Nat) (ta : TA) : TS := fun D σ H => ta σ H fun vs H1 => ∃ v w, vs = [v, w] ∧ D.nx ((σ.set i (some v)).set j (some w)) H1
theorem ps_par {i j : Nat} {x y : Str} {a b : Expr} {ta : TA} {px py pt : Pos} {kt k2 pt2} (hc : X.calm = true) (hN : X.N.Nodup) (hi : X.N[i]? = some x) (hj : X.N[j]? = some y) (hij : i ≠ j)
    (hx : X.env.scope.names.lookup x = some .local) (hy : X.env.scope.names.lookup y = some .local) (ha : PA X [a, b] ta)
    (hw : swappedStores [.Tuple [.Name x px, .Name y py] kt pt] (.Tuple [a, b] k2 pt2) X.env = pure (some [x, y]))
    (hs : swapsWithSole [.Tuple [.Name x px, .Name y py] kt pt] (.Tuple [a, b] k2 pt2) pos.line X.env = pure false := by rfl) :
    PS X (.Assign [.Tuple [.Name x px, .Name y py] kt pt] (.Tuple [a, b] k2 pt2) pos) (tPar i j ta) := by
  intro pins s σ H D I h
  rw [exec_Assign_arm]
  refine wpAny_bind (wpAny_standAt ?_)
  rw [hs]
  refine wpAny_bind (wpAny_pure ?_)
  rw [if_neg (by decide)]
  refine wpAny_bind (Tuple_ (thn (ha _ pins s σ H _ I h) fun us s1 ⟨vs, H1, I1, r1, q1⟩ => ?_))
  obtain ⟨v, w, e1, q1⟩ := q1
  subst e1
  obtain ⟨u1, u2, rfl, rv, rw'⟩ : ∃ u1 u2, us = [u1, u2] ∧ RelV v u1 ∧ RelV w u2 := by
    cases r1 with
    | cons p q =>
      cases q with
      | cons p' q' =>
        cases q'
        exact ⟨_, _, rfl, p, p'⟩
  refine wpAny_newObj_type ?_ (by show 2 ≤ sizeLine; decide)
  have I2 : Inv X pins σ H1 { s1 with heap := s1.heap.push { cls := .type "tuple", data := .seq [u1, u2].toArray } } := I1.kept (t' := s1.toks) fun b o e => Heap.get?_push_of_some _ e
  rw [hw]
  refine wpAny_bind (wpAny_pure ?_)
  show wpAny (model X.prog X.w) X.A (do rule "assign.swapped-stores"; let items ← unpackItems (.ref s1.heap.objs.size) 2 none; assignInOrder [fun v => bindName X.env y v, fun v => bindName X.env x v] items.reverse; pure Flow.next) _ _ _
  refine wpAny_bind (wpAny_rule (wpAny_bind (unpackItems_tuple (items := #[u1, u2]) (I.ok.hd hc) (IsTup.new s1.heap _) fun h' hx' => ?_)))
  have I3 := I2.kept (h' := h') (t' := s1.toks) fun b o e => hx' b o (Nat.ne_of_lt (Heap.lt_size e)) e
  show wpAny _ _ (assignInOrder [fun v => bindName X.env y v, fun v => bindName X.env x v] [u2, u1] >>= fun _ => pure Flow.next) _ _ _
  refine wpAny_bind (assignInOrder_cons (wpAny_bindName (store_ok I3 hN hj (.inl hy) rw' (fun s2 I4 => ?_) (.inr hy))))
  refine assignInOrder_cons (wpAny_bindName (store_ok I4 hN hi (.inl hx) rv (fun s3 I5 => assignInOrder_nil (wpAny_pure ?_)) (.inr hx)))
  rw [List.set_comm _ _ (Ne.symm hij)] at I5
  exact ⟨_, H1, I5, q1⟩
/-- name op= e -/
def tAug (i : Nat) (te : TE) (ti : TIp) : TS := fun D σ H => ∃ x, σ[i]? = some (some x) ∧ te σ H fun y H1 => ti x y H1 fun z H2 => D.nx (σ.set i (some z)) H2
theorem ps_aug {i : Nat} {x : Str} {e : Expr} {te : TE} {op : Operator} {ti : TIp} {pos' : Pos} (hN : X.N.Nodup) (hi : X.N[i]? = some x) (hx : Loc X.env.scope x) (he : PE X e te) (ho : PIp X op ti) (hf : X.fn x = true ∨ X.env.scope.names.lookup x = some .local := by first | exact .inl rfl | exact .inr rfl | assumption) :
    PS X (.AugAssign (.Name x pos') op e pos) (tAug i te ti) := by
  intro pins s σ H D I h
  obtain ⟨v, e1, h⟩ := h
  obtain ⟨m, hn, hl⟩ := I.loc
  have vis : Vis X.env.scope x := by rcases hx with k | k; exact .inl k; exact .inr (.inl k)
  obtain ⟨u, r, l⟩ := hl i x v hi e1 vis
  refine wpAny_AugAssign_Name ?_
  have go : wpAny (model X.prog X.w) X.A (eval e X.env) (fun w s₂ => wpAny (model X.prog X.w) X.A (inplaceOp op u w) (fun r s₃ => wpAny (model X.prog X.w) X.A (storeName X.env x r) (fun _ => SP X pins D .next) X.xe s₃) X.xe s₂) X.xe s := by
    refine thn (he pins s σ H _ I h) fun w s1 ⟨y, H1, I1, r1, q1⟩ => ?_
    refine thn (ho pins s1 σ H1 v y u w _ I1 r r1 q1) fun z s2 ⟨zv, H2, I2, r2, q2⟩ => ?_
    exact store_ok I2 hN hi hx r2 (fun s3 I3 => ⟨_, H2, I3, q2⟩) hf
  rcases l with ⟨hk, hm⟩ | ⟨hk, c, hc, hcell⟩
  · exact wpAny_loadName_local I.ok.kind hk hn hm go
  · rcases hk with hk | hk
    · exact wpAny_loadName_cell I.ok.kind hk hc hcell go
    · rcases hx with k | k
      · have : X.env.scope.names.lookup x = some .free := hk
        rw [k] at this; cases this
      · have : X.env.scope.names.lookup x = some .free := hk
        rw [k] at this; cases this
/-- o[i] op= e -/
def tAugS (to ti te : TE) (tget : V → V → Hp → VK → Prop) (tip : TIp) (tset : TSet) : TS := fun D σ H => to σ H fun o H1 => ti σ H1 fun i H2 => tget o i H2 fun x H3 => te σ H3 fun y H4 => tip x y H4 fun z H5 => tset o i z H5 fun H6 => D.nx σ H6
/-- o[i], by values -/
def PGet (X : Cx) (t : V → V → Hp → VK → Prop) : Prop :=
  ∀ (pins : List (Addr × Obj)) (s : Shared) (σ : St) (H : Hp) (o i : V) (ov iv : Value) (Q : VK), Inv X pins σ H s → RelV o ov → RelV i iv → t o i H Q →
    wpAny (model X.prog X.w) X.A (getItem ov iv) (EP X pins σ Q) X.xe s
theorem ps_augS {o i e : Expr} {to ti te : TE} {tget : V → V → Hp → VK → Prop} {tip : TIp} {tset : TSet} {op : Operator} {tpos : Pos} (ho : PE X o to) (hi : PE X i ti) (hg : PGet X tget) (he : PE X e te) (hp : PIp X op tip) (hs : PSet X tset)
    (ha : ∀ ov iv new, augStore i ov iv new = (do holding [new, ov, iv] (setItem ov iv new); release [new, ov, iv] []; pure .next) := by intros; rfl) : PS X (.AugAssign (.Subscript o i tpos) op e pos) (tAugS to ti te tget tip tset) := by
  intro pins s σ H D I h
  refine wpAny_AugAssign_SubscriptAny (thn (ho pins s σ H _ I h) fun ov s1 ⟨x1, H1, I1, r1, q1⟩ => ?_) ha
  refine thn (hi pins s1 σ H1 _ I1 q1) fun iv s2 ⟨x2, H2, I2, r2, q2⟩ => ?_
  refine thn (hg pins s2 σ H2 x1 x2 ov iv _ I2 r1 r2 q2) fun old s3 ⟨x3, H3, I3, r3, q3⟩ => ?_
  refine thn (he pins s3 σ H3 _ I3 q3) fun v s4 ⟨x4, H4, I4, r4, q4⟩ => ?_
  refine thn (hp pins s4 σ H4 x3 x4 old v _ I4 r3 r4 q4) fun new s5 ⟨x5, H5, I5, r5, q5⟩ => ?_
  exact thn (hs pins s5 σ H5 x1 x2 x5 ov iv new _ I5 r1 r2 r5 q5) fun _ s6 ⟨H6, I6, q6⟩ => ⟨σ, H6, I6, q6⟩
/-- ints -/
def ipI (f : Int → Int → Int) : TIp := fun x y H Q => ∃ i j, x = .int i ∧ y = .int j ∧ Q (.int (f i j)) H
theorem ip_add : PIp X .Add (ipI fun i j => i + j) := by
  intro pins s σ H x y v u Q I r1 r2 h
  obtain ⟨i, j, e1, e2, q⟩ := h
  subst e1; subst e2
  obtain ⟨t, rfl⟩ := r1
  obtain ⟨t', rfl⟩ := r2
  exact iadd_int ⟨.int _, H, I.tok _, ⟨_, rfl⟩, q⟩
theorem ip_sub : PIp X .Sub (ipI fun i j => i - j) := by
  intro pins s σ H x y v u Q I r1 r2 h
  obtain ⟨i, j, e1, e2, q⟩ := h
  subst e1; subst e2
  obtain ⟨t, rfl⟩ := r1
  obtain ⟨t', rfl⟩ := r2
  exact isub_int ⟨.int _, H, I.tok _, ⟨_, rfl⟩, q⟩
end

/-! ### while -/
section
variable {X : Cx} {pos : Pos}
/-- the invariant W with its measure -/
def tWhile (c : TT) (tb : TS) : TS := fun D σ H => ∃ W : Nat → St → Hp → Prop, (∃ m, W m σ H) ∧ ∀ m σ H, W m σ H →
  c σ H fun b H1 => if b = true then ∃ N : St → Hp → Prop, (∀ σ' H', N σ' H' → ∃ m', m' < m ∧ W m' σ' H') ∧ tb { D with nx := N, ct := N, bk := D.nx } σ H1 else D.nx σ H1
theorem ps_while {c : Expr} {body : List Stmt} {tc : TT} {tb : TS} (hp : PassesOwn (model X.prog X.w) X.A X.env X.xe) (hc : PT X c tc) (hb : PSs X body tb) : PS X (.While c body [] pos) (tWhile tc tb) := by
  intro pins s σ H D I h
  obtain ⟨W, ⟨m0, w0⟩, turn⟩ := h
  refine wpAny_While (codeAny_whileLoop (fun n s' => ∃ σ' H', Inv X pins σ' H' s' ∧ W n σ' H') ?_ m0 ⟨σ, H, I, w0⟩)
  rintro n s1 ⟨σ1, H1, I1, w1⟩
  refine wpAny_passesOwn hp (thn (hc pins s1 σ1 H1 _ I1 (turn n σ1 H1 w1)) fun b s2 ⟨H2, I2, q2⟩ => ?_)
  cases b with
  | true =>
    obtain ⟨N, hN, q2⟩ := q2
    rw [if_pos rfl]
    refine wpAny_passesOwn hp (thn (hb pins s2 σ1 H2 _ I2 q2) fun f s3 q3 => ?_)
    cases f with
    | next =>
      obtain ⟨σ3, H3, I3, n3⟩ := q3
      obtain ⟨m', hm, w3⟩ := hN σ3 H3 n3
      exact ⟨m', hm, σ3, H3, I3, w3⟩
    | cont =>
      obtain ⟨σ3, H3, I3, n3⟩ := q3
      obtain ⟨m', hm, w3⟩ := hN σ3 H3 n3
      exact ⟨m', hm, σ3, H3, I3, w3⟩
    | brk => exact q3
    | ret v => exact q3
  | false =>
    rw [if_neg Bool.false_ne_true]
    exact wpAny_execs_nil ⟨σ1, H2, I2, q2⟩
end

/-! ### what a loop or a comprehension walks -/
/-- at turn i: it yields x (the heap may grow), or it stops -/
structure It where
  go : Nat → Hp → Prop
  yld : Nat → Hp → V → Hp → Prop
  stop : Nat → Hp → Prop
/-- the iterator's own objects may turn: they are not the frame's, not pinned, younger than the entry (or a comprehension's own) -/
def FpOk (X : Cx) (pins : List (Addr × Obj)) (H : Hp) (b : Addr) : Prop :=
  H b = none ∧ b ≠ X.env.locals ∧ b ∉ X.fs ∧ (b ∈ X.ex ∨ X.s₀.heap.objs.size ≤ b) ∧ (∀ x c, X.env.cells.lookup x = some c → c ≠ b) ∧ ∀ p ∈ X.pn ++ pins, p.1 ≠ b
theorem Inv.fpOk {X : Cx} {pins : List (Addr × Obj)} {σ : St} {H H' : Hp} {s : Shared} {b : Addr} (I : Inv X pins σ H s) (hb : s.heap.objs.size ≤ b) (hn : H' b = none) : FpOk X pins H' b := by
  refine ⟨hn, Nat.ne_of_gt (Nat.lt_of_lt_of_le I.lt hb), I.nofs hb, .inr (Nat.le_trans I.sz hb), fun x c e z => ?_, fun p hp z => ?_⟩
  · obtain ⟨v, q⟩ := I.cell x c e
    exact absurd (Nat.lt_of_lt_of_le q.lt (by rw [z]; exact hb)) (Nat.lt_irrefl _)
  · exact absurd (Nat.lt_of_lt_of_le (Heap.lt_size (I.pin p hp).1) (by rw [z]; exact hb)) (Nat.lt_irrefl _)
structure Turn (P : Program) (w : World) (K : PySem.W.Frag) (tg : Expr) (J : It) (fp : List Addr) (it : Addr) (tn : Nat → Heap → Prop) : Prop where
  mem : it ∈ fp
  obj : ∀ i h, tn i h → ∀ b ∈ fp, ∃ o, h.get? b = some o ∧ ∀ v, o.data ≠ .cell v
  keep : ∀ i h h', tn i h → (∀ b ∈ fp, ∀ o, h.get? b = some o → h'.get? b = some o) → tn i h'
  item : ∀ (X : Cx), X.prog = P → X.w = w → X.K = K → X.calm = true → ∀ (i : Nat) (pins : List (Addr × Obj)) (s : Shared) (σ : St) (H : Hp) (E : Value → Shared → Prop), Inv X pins σ H s → (∀ b ∈ fp, FpOk X pins H b) → tn i s.heap → J.go i H →
    wpAny (model P w) X.A (pyNext (.ref it)) (fun r s1 => ∃ u, r = some u ∧
      wpAny (model P w) X.A (letOwnedTupleGo tg (.ref it) u) (fun _ s2 => ∃ x H', Inv X pins σ H' s2 ∧ RelV x u ∧ J.yld i H x H' ∧ tn (i + 1) s2.heap ∧ ∀ b ∈ fp, H' b = none) E s1) E s
  done : ∀ (X : Cx), X.prog = P → X.w = w → X.K = K → X.calm = true → ∀ (i : Nat) (pins : List (Addr × Obj)) (s : Shared) (σ : St) (H : Hp) (E : Value → Shared → Prop), Inv X pins σ H s → (∀ b ∈ fp, FpOk X pins H b) → tn i s.heap → J.stop i H →
    wpAny (model P w) X.A (pyNext (.ref it)) (fun r s1 => r = none ∧ Inv X pins σ H s1) E s
  self : ∀ (A : Around) (i : Nat) (s : Shared) (Q : Value → Shared → Prop) (E : Value → Shared → Prop), tn i s.heap → Q (.ref it) s → wpAny (model P w) A (pyIter (.ref it)) Q E s
abbrev TI := St → Hp → (It → Hp → Prop) → Prop
/-- an iterator has come -/
def PIE (X : Cx) (pins : List (Addr × Obj)) (σ : St) (tg : Expr) (R : It → Hp → Prop) (itv : Value) (s2 : Shared) : Prop :=
  ∃ (it : Addr) (fp : List Addr) (tn : Nat → Heap → Prop) (J : It) (H' : Hp), itv = .ref it ∧ Inv X pins σ H' s2 ∧ Turn X.prog X.w X.K tg J fp it tn ∧ tn 0 s2.heap ∧ (∀ b ∈ fp, FpOk X pins H' b) ∧ R J H'
def PI (X : Cx) (tg iter : Expr) (wi : TI) : Prop :=
  ∀ (pins : List (Addr × Obj)) (s : Shared) (σ : St) (H : Hp) (R : It → Hp → Prop), Inv X pins σ H s → wi σ H R →
    wpAny (model X.prog X.w) X.A (eval iter X.env) (fun v s1 => wpAny (model X.prog X.w) X.A (pyIter v) (PIE X pins σ tg R) X.xe s1) X.xe s

/-- the step ahead of the store is nothing for an iterator that keeps no tuple -/
theorem go_of {M : Model} {A : Around} {E : Value → Shared → Prop} {s : Shared} {tg : Expr} {it : Addr} {u : Value} {o : Obj} {n : String} {vs : Array Value} {Q : Unit → Shared → Prop} (ho : s.heap.get? it = some o) (hc : o.cls = .type n) (hd : o.data = .fields vs)
    (hn : ["enumerate", "zip", "dict_itemiterator", "dict_reverseitemiterator", "odict_iterator", "itertools.zip_longest", "itertools.pairwise"].contains n = false) (hQ : Q () s) : wpAny M A (letOwnedTupleGo tg (.ref it) u) Q E s := by
  unfold letOwnedTupleGo
  cases tg <;> first
    | exact wpAny_pure hQ
    | (cases u <;> first
        | exact wpAny_pure hQ
        | (refine wpAny_bind (wpAny_load ho ?_)
           rw [hc, hd]
           show wpAny M A (if (["enumerate", "zip", "dict_itemiterator", "dict_reverseitemiterator", "odict_iterator", "itertools.zip_longest", "itertools.pairwise"].contains n && vs[0]? == some (rawInt _)) = true then _ else _) Q E s
           rw [if_neg (by intro h; rw [hn, Bool.false_and] at h; cases h)]
           exact wpAny_pure hQ))

/-- the list at a, as it stands at each turn (a loop may append to it) -/
def Itl (K : PySem.W.Frag) (a : Addr) : It :=
  ⟨fun i H => ∃ xs x, SqL K H a xs ∧ xs[i]? = some x, fun i H x H' => H' = H ∧ ∀ xs, SqL K H a xs → xs[i]? = some x, fun i H => ∃ xs, SqL K H a xs ∧ xs.length ≤ i⟩
def Itt (K : PySem.W.Frag) (a : Addr) : It :=
  ⟨fun i H => ∃ xs x, SqT K H a xs ∧ xs[i]? = some x, fun i H x H' => H' = H ∧ ∀ xs, SqT K H a xs → xs[i]? = some x, fun i H => ∃ xs, SqT K H a xs ∧ xs.length ≤ i⟩
/-- lo, lo + 1, .. (n of them) -/
def Itr (lo : Int) (n : Nat) : It := ⟨fun i _ => i < n, fun i H x H' => H' = H ∧ x = .int (lo + i), fun i _ => n ≤ i⟩
theorem turn_list {P : Program} {w : World} {K : PySem.W.Frag} {tg : Expr} (a it : Addr) : Turn P w K tg (Itl K a) [it] it (fun i h => h.IsListIter it a i) where
  mem := by simp
  obj := fun i h st b hb => by
    have e : b = it := by simpa using hb
    subst e
    obtain ⟨o, e, c, d⟩ := st
    exact ⟨o, e, fun v z => by rw [d] at z; cases z⟩
  keep := fun i h h' st k => st.at fun o e => k it (by simp) o e
  item := by
    intro X hP hw hK hc i pins s σ H E I hf st hg
    subst hP hw hK
    obtain ⟨xs, x, hq, hx⟩ := hg
    obtain ⟨its, rv, p, hz⟩ := I.list hq
    obtain ⟨u, hu, ru⟩ := rv.get hx
    obtain ⟨f0, f1, f2, f3, f4, f5⟩ := hf it (by simp)
    refine wpAny_pyNext_list_item st p.isList (x := u) (by simpa using hu) fun h' st' sb => ?_
    have I1 : Inv X pins σ H { s with heap := h' } := I.turned (t' := s.toks) (fun b o hb e => (sb.2 b hb).trans e) f0 f1 f3 f4 f5
    obtain ⟨o, e, c, d⟩ := id st'
    exact ⟨u, rfl, go_of (s := { s with heap := h' }) e c d (by decide) ⟨x, H, I1, ru, ⟨rfl, fun ys hy => by rw [I.list_inj hy hq]; exact hx⟩, st', fun b hb => (hf b hb).1⟩⟩
  done := by
    intro X hP hw hK hc i pins s σ H E I hf st hg
    subst hP hw hK
    obtain ⟨xs, hq, hx⟩ := hg
    obtain ⟨its, rv, p, hz⟩ := I.list hq
    obtain ⟨f0, f1, f2, f3, f4, f5⟩ := hf it (by simp)
    have hl := rv.length
    exact wpAny_pyNext_list_end (I.ok.hd hc) st p.isList (by simp; omega) fun h' eb => ⟨rfl, I.turned (t' := s.toks) (fun b o hb e => eb b o hb e) f0 f1 f3 f4 f5⟩
  self := fun _ _ _ _ _ st h => wpAny_pyIter_listiter st h
theorem turn_tuple {P : Program} {w : World} {K : PySem.W.Frag} {tg : Expr} (a it : Addr) : Turn P w K tg (Itt K a) [it] it (fun i h => h.IsTupleIter it a i) where
  mem := by simp
  obj := fun i h st b hb => by
    have e : b = it := by simpa using hb
    subst e
    obtain ⟨o, e, c, d⟩ := st
    exact ⟨o, e, fun v z => by rw [d] at z; cases z⟩
  keep := fun i h h' st k => st.at fun o e => k it (by simp) o e
  item := by
    intro X hP hw hK hc i pins s σ H E I hf st hg
    subst hP hw hK
    obtain ⟨xs, x, hq, hx⟩ := hg
    obtain ⟨its, rv, p, hz⟩ := I.tuple hq
    obtain ⟨u, hu, ru⟩ := rv.get hx
    obtain ⟨f0, f1, f2, f3, f4, f5⟩ := hf it (by simp)
    refine wpAny_pyNext_tuple_item st (show s.heap.IsTuple a its.toArray from p) (x := u) (by simpa using hu) fun h' st' sb => ?_
    have I1 : Inv X pins σ H { s with heap := h' } := I.turned (t' := s.toks) (fun b o hb e => (sb.2 b hb).trans e) f0 f1 f3 f4 f5
    obtain ⟨o, e, c, d⟩ := id st'
    exact ⟨u, rfl, go_of (s := { s with heap := h' }) e c d (by decide) ⟨x, H, I1, ru, ⟨rfl, fun ys hy => by rw [I.tuple_inj hy hq]; exact hx⟩, st', fun b hb => (hf b hb).1⟩⟩
  done := by
    intro X hP hw hK hc i pins s σ H E I hf st hg
    subst hP hw hK
    obtain ⟨xs, hq, hx⟩ := hg
    obtain ⟨its, rv, p, hz⟩ := I.tuple hq
    obtain ⟨f0, f1, f2, f3, f4, f5⟩ := hf it (by simp)
    have hl := rv.length
    exact wpAny_pyNext_tuple_end (I.ok.hd hc) st (show s.heap.IsTuple a its.toArray from p) (by simp; omega) fun h' eb => ⟨rfl, I.turned (t' := s.toks) (fun b o hb e => eb b o hb e) f0 f1 f3 f4 f5⟩
  self := fun _ _ _ _ _ st h => wpAny_pyIter_tupleiter st h
theorem turn_range {P : Program} {w : World} {K : PySem.W.Frag} {tg : Expr} (it : Addr) (lo : Int) (n : Nat) : Turn P w K tg (Itr lo n) [it] it (fun i h => IsRangeIter h it (lo + (i : Nat) * 1) ((n : Int) - (i : Nat)) 1) where
  mem := by simp
  obj := fun i h st b hb => by
    have e : b = it := by simpa using hb
    subst e
    exact ⟨_, st, fun v z => by
      have z' : Data.fields _ = Data.cell v := z
      cases z'⟩
  keep := fun i h h' st k => k it (by simp) _ st
  item := by
    intro X hP hw hK hc i pins s σ H E I hf st hg
    subst hP hw hK
    obtain ⟨f0, f1, f2, f3, f4, f5⟩ := hf it (by simp)
    have W := Walks.range (prog := X.prog) (w := X.w) (I.ok.hd hc) it lo 1 n
    refine W.item i s _ _ hg st fun v h' tk hv st' kk => ?_
    obtain ⟨t, rfl⟩ := hv
    have I1 : Inv X pins σ H { s with heap := h', toks := tk } := I.turned (fun b o hb e => kk b o (by simpa using hb) e) f0 f1 f3 f4 f5
    refine ⟨_, rfl, go_of (s := { s with heap := h', toks := tk }) (n := "range_iterator") st' rfl rfl (by decide) ⟨.int (lo + i), H, I1, ⟨t, ?_⟩, ⟨rfl, rfl⟩, st', fun b hb => (hf b hb).1⟩⟩
    rw [Int.mul_one]
  done := by
    intro X hP hw hK hc i pins s σ H E I hf st hg
    subst hP hw hK
    obtain ⟨f0, f1, f2, f3, f4, f5⟩ := hf it (by simp)
    exact wpAny_pyNext_range_end (I.ok.hd hc) st (by have : n ≤ i := hg; omega) fun h' eb => ⟨rfl, I.turned (t' := s.toks) (fun b o hb e => eb b o hb e) f0 f1 f3 f4 f5⟩
  self := fun _ _ _ _ _ st h => wpAny_pyIter_rangeiter st h
end L2

namespace L2
open PySem PySem.Spec PyProof.Rows
section
variable {X : Cx} {tg : Expr}
def iList (K : PySem.W.Frag) (tl : TE) : TI := fun σ H R => tl σ H fun x H1 => ∃ a, x = .ref a ∧ (∃ xs, SqL K H1 a xs) ∧ R (Itl K a) H1
def iTup (K : PySem.W.Frag) (tl : TE) : TI := fun σ H R => tl σ H fun x H1 => ∃ a, x = .ref a ∧ (∃ xs, SqT K H1 a xs) ∧ R (Itt K a) H1
theorem pi_list {l : Expr} {tl : TE} (hl : PE X l tl) : PI X tg l (iList X.K tl) := by
  intro pins s σ H R I h
  refine thn (hl pins s σ H _ I h) fun v s1 ⟨x, H1, I1, r1, q1⟩ => ?_
  obtain ⟨a, e, ⟨xs, hq⟩, q⟩ := q1
  subst e
  cases r1
  obtain ⟨its, rv, p, hz⟩ := I1.list hq
  refine wpAny_pyIter_list p.isList ?_
  refine ⟨s1.heap.objs.size, [s1.heap.objs.size], _, _, H1, rfl, I1.kept (t' := s1.toks) fun b o e => Heap.get?_push_of_some _ e, turn_list a _, ⟨_, Heap.get?_push_size _ rfl, rfl, rfl⟩, fun b hb => ?_, q⟩
  have e : b = s1.heap.objs.size := by simpa using hb
  subst e
  exact I1.fpOk (Nat.le_refl _) (I1.hok.fresh (Nat.le_refl _))
theorem pi_tup {l : Expr} {tl : TE} (hl : PE X l tl) : PI X tg l (iTup X.K tl) := by
  intro pins s σ H R I h
  refine thn (hl pins s σ H _ I h) fun v s1 ⟨x, H1, I1, r1, q1⟩ => ?_
  obtain ⟨a, e, ⟨xs, hq⟩, q⟩ := q1
  subst e
  cases r1
  obtain ⟨its, rv, p, hz⟩ := I1.tuple hq
  refine wpAny_pyIter_tuple (show s1.heap.IsTuple a its.toArray from p) ?_
  refine ⟨s1.heap.objs.size, [s1.heap.objs.size], _, _, H1, rfl, I1.kept (t' := s1.toks) fun b o e => Heap.get?_push_of_some _ e, turn_tuple a _, ⟨_, Heap.get?_push_size _ rfl, rfl, rfl⟩, fun b hb => ?_, q⟩
  have e : b = s1.heap.objs.size := by simpa using hb
  subst e
  exact I1.fpOk (Nat.le_refl _) (I1.hok.fresh (Nat.le_refl _))
/-- a range object just made, walked -/
theorem range_it {pins : List (Addr × Obj)} {σ : St} {H : Hp} {s : Shared} {R : It → Hp → Prop} {E : Value → Shared → Prop} {lo hi : Int} {t u v : Tok} {tk : Nat} (I : Inv X pins σ H s) (h1 : -(2 ^ 62) ≤ lo) (h2 : lo < 2 ^ 62) (h3 : -(2 ^ 62) ≤ hi) (h4 : hi < 2 ^ 62)
    (q : R (Itr lo (hi - lo).toNat) H) : wpAny (model X.prog X.w) X.A (pyIter (.ref s.heap.objs.size)) (PIE X pins σ tg R) E { s with heap := s.heap.push { cls := .type "range", data := .fields #[.int lo t, .int hi u, .int 1 v] }, toks := tk } := by
  refine wpAny_pyIter_range (IsRange.new ..) (small_one h1 h2 h3 h4) ?_
  have I1 : Inv X pins σ H { s with heap := s.heap.push { cls := .type "range", data := .fields #[.int lo t, .int hi u, .int 1 v] }, toks := tk } := I.kept fun b o e => Heap.get?_push_of_some _ e
  refine ⟨(s.heap.push { cls := .type "range", data := .fields #[.int lo t, .int hi u, .int 1 v] }).objs.size, [(s.heap.push { cls := .type "range", data := .fields #[.int lo t, .int hi u, .int 1 v] }).objs.size], _, _, H, rfl,
    I1.kept (t' := tk) fun b o e => Heap.get?_push_of_some _ e, turn_range _ lo (hi - lo).toNat, ?_, fun b hb => ?_, q⟩
  · have e1 : lo + ((0 : Nat) : Int) * 1 = lo := by simp
    have e2 : (((hi - lo).toNat : Nat) : Int) - ((0 : Nat) : Int) = Builtin.Range.rangeSize lo hi 1 := by rw [rangeSize_one]; split <;> omega
    show IsRangeIter _ _ (lo + ((0 : Nat) : Int) * 1) ((((hi - lo).toNat : Nat) : Int) - ((0 : Nat) : Int)) 1
    rw [e1, e2]
    exact Heap.get?_push_size _ rfl
  · have e : b = (s.heap.push { cls := .type "range", data := .fields #[.int lo t, .int hi u, .int 1 v] }).objs.size := by simpa using hb
    subst e
    exact I1.fpOk (Nat.le_refl _) (I1.hok.fresh (Nat.le_refl _))
def iRng1 (ta : TA) : TI := fun σ H R => ta σ H fun vs H1 => ∃ j : Int, vs = [.int j] ∧ -(2 ^ 62) ≤ j ∧ j < 2 ^ 62 ∧ R (Itr 0 j.toNat) H1
def iRng2 (ta : TA) : TI := fun σ H R => ta σ H fun vs H1 => ∃ i j : Int, vs = [.int i, .int j] ∧ (-(2 ^ 62) ≤ i ∧ i < 2 ^ 62 ∧ -(2 ^ 62) ≤ j ∧ j < 2 ^ 62) ∧ R (Itr i (j - i).toNat) H1
theorem pi_range1 {a : Expr} {ta : TA} {p pos : Pos} (hg : Gl X "range") (hm : X.mg "range" = none) (ha : PA X [a] ta) (hs : starEach [a] X.env = [(false, eval a X.env)] := by rfl) : PI X tg (.Call (.Name "range" p) [a] [] pos) (iRng1 ta) := by
  intro pins s σ H R I h
  refine Call_ (ld_blt I hg hm boot_range (PyProof.Rows.callWith_type1 (thn (ha pos pins s σ H _ I h) fun us s1 ⟨vs, H1, I1, r1, q1⟩ => ?_) hs rfl))
  obtain ⟨j, e, q1, q2, q⟩ := q1
  subst e
  cases r1 with
  | cons r rr =>
    cases rr
    obtain ⟨t, rfl⟩ := r
    exact call_range_1 (range_it I1 (by omega) (by omega) q1 q2 (by simpa using q))
theorem pi_range2 {a b : Expr} {ta : TA} {p pos : Pos} (hg : Gl X "range") (hm : X.mg "range" = none) (ha : PA X [a, b] ta) (hs : starEach [a, b] X.env = [(false, eval a X.env), (false, eval b X.env)] := by rfl) (hs2 : starEach [b] X.env = [(false, eval b X.env)] := by rfl) :
    PI X tg (.Call (.Name "range" p) [a, b] [] pos) (iRng2 ta) := by
  intro pins s σ H R I h
  refine Call_ (ld_blt I hg hm boot_range (PyProof.Rows.callWith_type1 (thn (ha pos pins s σ H _ I h) fun us s1 ⟨vs, H1, I1, r1, q1⟩ => ?_) (by rw [hs, hs2]) (by rw [hs2]; rfl)))
  obtain ⟨i, j, e, ⟨q1, q2, q3, q4⟩, q⟩ := q1
  subst e
  cases r1 with
  | cons r rr =>
    cases rr with
    | cons r' rr =>
      cases rr
      obtain ⟨t, rfl⟩ := r
      obtain ⟨t', rfl⟩ := r'
      exact call_range_2 (range_it I1 q1 q2 q3 q4 q)

/-! ### for -/
/-- W: the invariant by the turn and a measure; N: what the body is to reach -/
def tFor (wi : TI) (g : TG) (tb : TS) : TS := fun D σ H => wi σ H fun J H1 => ∃ W : Nat → Nat → St → Hp → Prop, (∃ m, W 0 m σ H1) ∧ ∀ i m σ H, W i m σ H →
  (J.stop i H ∧ D.nx σ H) ∨ (J.go i H ∧ ∃ N : St → Hp → Prop, (∀ σ' H', N σ' H' → ∃ m', m' < m ∧ W (i + 1) m' σ' H') ∧ ∀ x H', J.yld i H x H' → g x σ H' fun σ2 H2 => tb { D with nx := N, ct := N, bk := D.nx } σ2 H2)
/-- the records at fp as they stand -/
def pinsAt (fp : List Addr) (h : Heap) : List (Addr × Obj) := fp.filterMap fun b => (h.get? b).map fun o => (b, o)
theorem mem_pinsAt {fp : List Addr} {h : Heap} {b : Addr} {o : Obj} (hb : b ∈ fp) (e : h.get? b = some o) : (b, o) ∈ pinsAt fp h := List.mem_filterMap.mpr ⟨b, hb, by rw [e]; rfl⟩
theorem of_pinsAt {fp : List Addr} {h : Heap} {p : Addr × Obj} (hp : p ∈ pinsAt fp h) : p.1 ∈ fp ∧ h.get? p.1 = some p.2 := by
  obtain ⟨b, hb, e⟩ := List.mem_filterMap.mp hp
  cases q : h.get? b with
  | none => rw [q] at e; cases e
  | some o =>
    rw [q] at e
    have e' : (b, o) = p := Option.some.inj e
    subst e'
    exact ⟨hb, q⟩
theorem Inv.pinned {pins : List (Addr × Obj)} {σ : St} {H : Hp} {s : Shared} {fp : List Addr} (I : Inv X pins σ H s) (hf : ∀ b ∈ fp, FpOk X pins H b) (ho : ∀ b ∈ fp, ∃ o, s.heap.get? b = some o ∧ ∀ v, o.data ≠ .cell v) : Inv X (pins ++ pinsAt fp s.heap) σ H s :=
  I.pins_of fun p hp => (List.mem_append.mp hp).elim (fun z => I.pin p (List.mem_append_right _ z)) fun z => by
    obtain ⟨hb, e⟩ := of_pinsAt z
    obtain ⟨f0, f1, f2, _⟩ := hf p.1 hb
    obtain ⟨o, e', d⟩ := ho p.1 hb
    rw [e] at e'; cases e'
    exact ⟨e, f0, f1, f2, d⟩
theorem Inv.unpinned {pins pl : List (Addr × Obj)} {σ : St} {H : Hp} {s : Shared} (I : Inv X (pins ++ pl) σ H s) : Inv X pins σ H s := I.pins_of fun p hp => I.pin p (List.mem_append_right _ (List.mem_append_left _ hp))
theorem ps_for {iter : Expr} {body : List Stmt} {wi : TI} {g : TG} {tb : TS} {pos : Pos} (hp : PassesOwn (model X.prog X.w) X.A X.env X.xe) (hc : X.calm = true) (hi : PI X tg iter wi) (hg : PG X tg g) (hb : PSs X body tb)
    (hs : ∀ x, foldedSetIterable iter X.env x = pure x := by intro _; rfl) : PS X (.For tg iter body [] pos) (tFor wi g tb) := by
  intro pins s σ H D I h
  refine wpAny_For (thn (hi pins s σ H _ I h) fun v s1 h1 => thn h1 fun itv s2 h2 => ?_) hs
  obtain ⟨it, fp, tn, J, H2, e, I2, T, st2, f2, W, ⟨m0, w0⟩, turn⟩ := h2
  subst e
  -- what stays true of the iterator's objects through the loop
  have stat : ∀ {H' : Hp}, (∀ b ∈ fp, H' b = none) → ∀ b ∈ fp, FpOk X pins H' b := fun hn b hb => ⟨hn b hb, (f2 b hb).2⟩
  refine codeAny_forLoop_any (fun n s' => ∃ i σ' H', Inv X pins σ' H' s' ∧ tn i s'.heap ∧ (∀ b ∈ fp, H' b = none) ∧ W i n σ' H') ?_ m0 ⟨0, σ, H2, I2, st2, fun b hb => (f2 b hb).1, w0⟩
  rintro n s3 ⟨i, σ3, H3, I3, st3, fr3, w3⟩
  rcases turn i n σ3 H3 w3 with ⟨stop, qn⟩ | ⟨go, N, hN, step⟩
  · refine wpAny_passesOwn hp (thn (T.done X rfl rfl rfl hc i pins s3 σ3 H3 X.xe I3 (stat fr3) st3 stop) fun r s4 ⟨hr, I4⟩ => ?_)
    subst hr
    exact wpAny_execs_nil ⟨σ3, H3, I4, qn⟩
  · refine wpAny_passesOwn hp (thn (T.item X rfl rfl rfl hc i pins s3 σ3 H3 X.xe I3 (stat fr3) st3 go) fun r s4 ⟨u, hr, h4⟩ => ?_)
    subst hr
    refine wpAny_passesOwn hp (thn h4 fun _ s5 ⟨x, H5, I5, r5, y5, st5, fr5⟩ => ?_)
    have I5' := I5.pinned (stat fr5) (T.obj _ _ st5)
    refine wpAny_passesOwn hp (thn (hg _ s5 σ3 H5 x u _ I5' r5 (step x H5 y5)) fun _ s6 ⟨σ6, H6, I6, q6⟩ => ?_)
    refine wpAny_passesOwn hp (thn (hb _ s6 σ6 H6 _ I6 q6) fun f s7 q7 => ?_)
    have again : ∀ {σ7 : St} {H7 : Hp}, Inv X (pins ++ pinsAt fp s5.heap) σ7 H7 s7 → N σ7 H7 → ∃ m, m < n ∧ ∃ i σ' H', Inv X pins σ' H' s7 ∧ tn i s7.heap ∧ (∀ b ∈ fp, H' b = none) ∧ W i m σ' H' := fun {σ7 H7} I7 n7 => by
      obtain ⟨m', hm, w7⟩ := hN σ7 H7 n7
      refine ⟨m', hm, i + 1, σ7, H7, I7.unpinned, T.keep _ _ _ st5 fun b hb o e => (I7.pin (b, o) (List.mem_append_right _ (List.mem_append_right _ (mem_pinsAt hb e)))).1, fun b hb => ?_, w7⟩
      obtain ⟨o, e, d⟩ := T.obj _ _ st5 b hb
      exact (I7.pin (b, o) (List.mem_append_right _ (List.mem_append_right _ (mem_pinsAt hb e)))).2.1
    cases f with
    | next => obtain ⟨σ7, H7, I7, n7⟩ := q7; exact again I7 n7
    | cont => obtain ⟨σ7, H7, I7, n7⟩ := q7; exact again I7 n7
    | brk => obtain ⟨σ7, H7, I7, q7⟩ := q7; exact ⟨σ7, H7, I7.unpinned, q7⟩
    | ret v => obtain ⟨x7, σ7, H7, I7, r7, q7⟩ := q7; exact ⟨x7, σ7, H7, I7.unpinned, r7, q7⟩
end

/-! ### the forms one uses -/
/-- over a list that the body leaves as it is -/
theorem for_list {K : PySem.W.Frag} {a : Addr} {xs : List V} {g : TG} {tb : TS} {D : Ends} {σ : St} {H : Hp} (Pv : Nat → St → Hp → Prop) (h0 : Pv 0 σ H) (hl : ∀ i σ H, i ≤ xs.length → Pv i σ H → SqL K H a xs)
    (hs : ∀ i x σ H, xs[i]? = some x → Pv i σ H → g x σ H fun σ2 H2 => tb { D with nx := Pv (i + 1), ct := Pv (i + 1), bk := D.nx } σ2 H2) (hd : ∀ σ H, Pv xs.length σ H → D.nx σ H) :
    ∃ W : Nat → Nat → St → Hp → Prop, (∃ m, W 0 m σ H) ∧ ∀ i m σ H, W i m σ H →
      ((Itl K a).stop i H ∧ D.nx σ H) ∨ ((Itl K a).go i H ∧ ∃ N : St → Hp → Prop, (∀ σ' H', N σ' H' → ∃ m', m' < m ∧ W (i + 1) m' σ' H') ∧ ∀ x H', (Itl K a).yld i H x H' → g x σ H' fun σ2 H2 => tb { D with nx := N, ct := N, bk := D.nx } σ2 H2) := by
  refine ⟨fun i m σ H => m = xs.length - i ∧ i ≤ xs.length ∧ Pv i σ H, ⟨xs.length, by simp, Nat.zero_le _, h0⟩, ?_⟩
  rintro i m σ H ⟨rfl, hi, p⟩
  have q := hl i σ H hi p
  by_cases hlt : i < xs.length
  · refine .inr ⟨⟨xs, xs[i], q, by simp [hlt]⟩, Pv (i + 1), fun σ' H' p' => ⟨xs.length - (i + 1), by omega, rfl, hlt, p'⟩, fun x H' y => ?_⟩
    obtain ⟨e, y⟩ := y
    subst e
    exact hs i x σ _ (y xs q) p
  · have e : i = xs.length := by omega
    subst e
    exact .inl ⟨⟨xs, q, Nat.le_refl _⟩, hd σ H p⟩
theorem for_tup {K : PySem.W.Frag} {a : Addr} {xs : List V} {g : TG} {tb : TS} {D : Ends} {σ : St} {H : Hp} (Pv : Nat → St → Hp → Prop) (h0 : Pv 0 σ H) (hl : ∀ i σ H, i ≤ xs.length → Pv i σ H → SqT K H a xs)
    (hs : ∀ i x σ H, xs[i]? = some x → Pv i σ H → g x σ H fun σ2 H2 => tb { D with nx := Pv (i + 1), ct := Pv (i + 1), bk := D.nx } σ2 H2) (hd : ∀ σ H, Pv xs.length σ H → D.nx σ H) :
    ∃ W : Nat → Nat → St → Hp → Prop, (∃ m, W 0 m σ H) ∧ ∀ i m σ H, W i m σ H →
      ((Itt K a).stop i H ∧ D.nx σ H) ∨ ((Itt K a).go i H ∧ ∃ N : St → Hp → Prop, (∀ σ' H', N σ' H' → ∃ m', m' < m ∧ W (i + 1) m' σ' H') ∧ ∀ x H', (Itt K a).yld i H x H' → g x σ H' fun σ2 H2 => tb { D with nx := N, ct := N, bk := D.nx } σ2 H2) := by
  refine ⟨fun i m σ H => m = xs.length - i ∧ i ≤ xs.length ∧ Pv i σ H, ⟨xs.length, by simp, Nat.zero_le _, h0⟩, ?_⟩
  rintro i m σ H ⟨rfl, hi, p⟩
  have q := hl i σ H hi p
  by_cases hlt : i < xs.length
  · refine .inr ⟨⟨xs, xs[i], q, by simp [hlt]⟩, Pv (i + 1), fun σ' H' p' => ⟨xs.length - (i + 1), by omega, rfl, hlt, p'⟩, fun x H' y => ?_⟩
    obtain ⟨e, y⟩ := y
    subst e
    exact hs i x σ _ (y xs q) p
  · have e : i = xs.length := by omega
    subst e
    exact .inl ⟨⟨xs, q, Nat.le_refl _⟩, hd σ H p⟩
theorem for_range {lo : Int} {n : Nat} {g : TG} {tb : TS} {D : Ends} {σ : St} {H : Hp} (Pv : Nat → St → Hp → Prop) (h0 : Pv 0 σ H)
    (hs : ∀ i σ H, i < n → Pv i σ H → g (.int (lo + i)) σ H fun σ2 H2 => tb { D with nx := Pv (i + 1), ct := Pv (i + 1), bk := D.nx } σ2 H2) (hd : ∀ σ H, Pv n σ H → D.nx σ H) :
    ∃ W : Nat → Nat → St → Hp → Prop, (∃ m, W 0 m σ H) ∧ ∀ i m σ H, W i m σ H →
      ((Itr lo n).stop i H ∧ D.nx σ H) ∨ ((Itr lo n).go i H ∧ ∃ N : St → Hp → Prop, (∀ σ' H', N σ' H' → ∃ m', m' < m ∧ W (i + 1) m' σ' H') ∧ ∀ x H', (Itr lo n).yld i H x H' → g x σ H' fun σ2 H2 => tb { D with nx := N, ct := N, bk := D.nx } σ2 H2) := by
  refine ⟨fun i m σ H => m = n - i ∧ i ≤ n ∧ Pv i σ H, ⟨n, by simp, Nat.zero_le _, h0⟩, ?_⟩
  rintro i m σ H ⟨rfl, hi, p⟩
  by_cases hlt : i < n
  · refine .inr ⟨hlt, Pv (i + 1), fun σ' H' p' => ⟨n - (i + 1), by omega, rfl, hlt, p'⟩, fun x H' y => ?_⟩
    obtain ⟨e, y⟩ := y
    subst e y
    exact hs i σ _ hlt p
  · have e : i = n := by omega
    subst e
    exact .inl ⟨Nat.le_refl _, hd σ H p⟩
/-- while, by a word and a measure of the state -/
theorem while_by {c : TT} {tb : TS} {D : Ends} {σ : St} {H : Hp} (Pv : St → Hp → Prop) (μ : St → Hp → Nat) (h0 : Pv σ H)
    (hs : ∀ σ H, Pv σ H → c σ H fun b H1 => if b = true then tb { D with nx := fun σ' H' => Pv σ' H' ∧ μ σ' H' < μ σ H, ct := fun σ' H' => Pv σ' H' ∧ μ σ' H' < μ σ H, bk := D.nx } σ H1 else D.nx σ H1)
    (mono : ∀ σ H Q Q', (∀ b H1, Q b H1 → Q' b H1) → c σ H Q → c σ H Q') : tWhile c tb D σ H := by
  refine ⟨fun m σ H => m = μ σ H ∧ Pv σ H, ⟨_, rfl, h0⟩, ?_⟩
  rintro m σ H ⟨rfl, p⟩
  refine mono σ H _ _ (fun b H1 q => ?_) (hs σ H p)
  cases b with
  | true => exact ⟨_, fun σ' H' ⟨p', l⟩ => ⟨_, l, rfl, p'⟩, q⟩
  | false => exact q
end L2

namespace L2
open PySem PySem.Spec PyProof.Rows

abbrev R2 := V → V → Hp → VK → Prop
/-- a two-place operation on values: f is binaryOp op, inplaceOp op or compareOp op -/
def OpR (X : Cx) (f : Value → Value → Sem Value) (r : R2) : Prop :=
  ∀ (pins : List (Addr × Obj)) (s : Shared) (σ : St) (H : Hp) (x y : V) (v u : Value) (Q : VK), Inv X pins σ H s → RelV x v → RelV y u → r x y H Q →
    wpAny (model X.prog X.w) X.A (f v u) (EP X pins σ Q) X.xe s
/-- a one-place operation -/
def UnR (X : Cx) (f : Value → Sem Value) (r : V → Hp → VK → Prop) : Prop :=
  ∀ (pins : List (Addr × Obj)) (s : Shared) (σ : St) (H : Hp) (x : V) (v : Value) (Q : VK), Inv X pins σ H s → RelV x v → r x H Q →
    wpAny (model X.prog X.w) X.A (f v) (EP X pins σ Q) X.xe s
/-- a call of a value that is known (a builtin, a type) with values -/
def CallR (X : Cx) (f : Value) (r : List V → Hp → VK → Prop) : Prop :=
  ∀ (pins : List (Addr × Obj)) (s : Shared) (σ : St) (H : Hp) (xs : List V) (us : List Value) (Q : VK), Inv X pins σ H s → Vals xs us → r xs H Q →
    wpAny (model X.prog X.w) X.A (call f us) (EP X pins σ Q) X.xe s
/-- a value's truth -/
def TruR (X : Cx) (r : V → Hp → (Bool → Hp → Prop) → Prop) : Prop :=
  ∀ (pins : List (Addr × Obj)) (s : Shared) (σ : St) (H : Hp) (x : V) (v : Value) (Q : Bool → Hp → Prop), Inv X pins σ H s → RelV x v → r x H Q →
    wpAny (model X.prog X.w) X.A (truthy v) (TP X pins σ Q) X.xe s

def tOp (r : R2) (ta tb : TE) : TE := fun σ H Q => ta σ H fun x H1 => tb σ H1 fun y H2 => r x y H2 Q
def tUn (r : V → Hp → VK → Prop) (ta : TE) : TE := fun σ H Q => ta σ H fun x H1 => r x H1 Q
/-- ints in, under C, and a value out -/
def rI (C : Int → Int → Prop) (g : Int → Int → V) : R2 := fun x y H Q => ∃ i j, x = .int i ∧ y = .int j ∧ C i j ∧ Q (g i j) H
def rI0 (g : Int → Int → V) : R2 := fun x y H Q => ∃ i j, x = .int i ∧ y = .int j ∧ Q (g i j) H
def rU (g : Int → V) : V → Hp → VK → Prop := fun x H Q => ∃ i, x = .int i ∧ Q (g i) H

section
variable {X : Cx} {a b c : Expr} {ta tb tc : TE} {pos : Pos}

theorem binT (ha : PE X a ta) (hb : PE X b tb) {pins : List (Addr × Obj)} {s : Shared} {σ : St} {H : Hp} {R : V → V → Hp → Prop} (I : Inv X pins σ H s)
    (h : ta σ H fun x H1 => tb σ H1 fun y H2 => R x y H2) {Q : Value → Shared → Prop} {f : Value → Value → Sem Value}
    (hf : ∀ v u s2 x y H2, Inv X pins σ H2 s2 → RelV x v → RelV y u → R x y H2 → wpAny (model X.prog X.w) X.A (f v u) Q X.xe s2) :
    wpAny (model X.prog X.w) X.A (eval a X.env) (fun v s₁ => wpAny (model X.prog X.w) X.A (eval b X.env) (fun u s₂ => wpAny (model X.prog X.w) X.A (f v u) Q X.xe s₂) X.xe s₁) X.xe s := by
  refine thn (ha pins s σ H _ I h) fun v s1 ⟨x, H1, I1, r1, q1⟩ => ?_
  refine thn (hb pins s1 σ H1 _ I1 q1) fun u s2 ⟨y, H2, I2, r2, q2⟩ => ?_
  exact hf v u s2 x y H2 I2 r1 r2 q2

theorem pe_op {op : Operator} {r : R2} (ho : OpR X (binaryOp op) r) (ha : PE X a ta) (hb : PE X b tb) : PE X (.BinOp a op b pos) (tOp r ta tb) := by
  intro pins s σ H Q I h
  exact wpAny_BinOp (binT ha hb I h fun v u s2 x y H2 I2 rx ry q => ho pins s2 σ H2 x y v u Q I2 rx ry q)
theorem pe_un {op : UnaryOp} {r : V → Hp → VK → Prop} (ho : UnR X (unaryOp op) r) (ha : PE X a ta) : PE X (.UnaryOp op a pos) (tUn r ta) := by
  intro pins s σ H Q I h
  exact UnaryOp_ (thn (ha pins s σ H _ I h) fun v s1 ⟨x, H1, I1, r1, q1⟩ => ho pins s1 σ H1 x v Q I1 r1 q1)
/-- a op= e at a name: the name's slot i -/
theorem augR {op : Operator} {r : R2} (ho : OpR X (inplaceOp op) r) {pins : List (Addr × Obj)} {s : Shared} {σ : St} {H : Hp} {x y : V} {v u : Value} {Q : VK} (I : Inv X pins σ H s)
    (rx : RelV x v) (ry : RelV y u) (q : r x y H Q) : wpAny (model X.prog X.w) X.A (inplaceOp op v u) (EP X pins σ Q) X.xe s := ho pins s σ H x y v u Q I rx ry q

/-! ### ints -/
theorem opI {f : Value → Value → Sem Value} {C : Int → Int → Prop} {g : Int → Int → Int}
    (rule : ∀ (i j : Int) (t u : Tok) (s : Shared) (Q : Value → Shared → Prop) (E : Value → Shared → Prop), C i j → Q (.int (g i j) s.toks) { s with toks := s.toks + 1 } → wpAny (model X.prog X.w) X.A (f (.int i t) (.int j u)) Q E s) :
    OpR X f (rI C fun i j => .int (g i j)) := by
  intro pins s σ H x y v u Q I rx ry h
  obtain ⟨i, j, rfl, rfl, hc, q⟩ := h
  obtain ⟨t, rfl⟩ := rx
  obtain ⟨t', rfl⟩ := ry
  exact rule i j t t' s _ _ hc ⟨.int (g i j), H, I.tok _, ⟨_, rfl⟩, q⟩
theorem opI0 {f : Value → Value → Sem Value} {g : Int → Int → Int}
    (rule : ∀ (i j : Int) (t u : Tok) (s : Shared) (Q : Value → Shared → Prop) (E : Value → Shared → Prop), Q (.int (g i j) s.toks) { s with toks := s.toks + 1 } → wpAny (model X.prog X.w) X.A (f (.int i t) (.int j u)) Q E s) :
    OpR X f (rI0 fun i j => .int (g i j)) := by
  intro pins s σ H x y v u Q I rx ry h
  obtain ⟨i, j, rfl, rfl, q⟩ := h
  obtain ⟨t, rfl⟩ := rx
  obtain ⟨t', rfl⟩ := ry
  exact rule i j t t' s _ _ ⟨.int (g i j), H, I.tok _, ⟨_, rfl⟩, q⟩
theorem opB0 {f : Value → Value → Sem Value} {g : Int → Int → Bool}
    (rule : ∀ (i j : Int) (t u : Tok) (s : Shared) (Q : Value → Shared → Prop) (E : Value → Shared → Prop), Q (.bool (g i j)) s → wpAny (model X.prog X.w) X.A (f (.int i t) (.int j u)) Q E s) :
    OpR X f (rI0 fun i j => .bl (g i j)) := by
  intro pins s σ H x y v u Q I rx ry h
  obtain ⟨i, j, rfl, rfl, q⟩ := h
  obtain ⟨t, rfl⟩ := rx
  obtain ⟨t', rfl⟩ := ry
  exact rule i j t t' s _ _ ⟨.bl (g i j), H, I, rfl, q⟩

def CDiv (i j : Int) : Prop := 0 < j ∧ j < 1073741824
def CDivN (i j : Int) : Prop := j ≠ 0 ∧ j.natAbs < 1073741824
def CPow (i j : Int) : Prop := 0 ≤ j ∧ j ≤ 1000000 ∧ i.natAbs < 2 ^ 64
def CMul (i j : Int) : Prop := (-(2 ^ 64) < i ∧ i < 2 ^ 64) ∨ (-(2 ^ 64) < j ∧ j < 2 ^ 64)
theorem CMul.ok {i j : Int} (h : CMul i j) : IntMulOk i j := by
  rcases h with ⟨h1, h2⟩ | ⟨h1, h2⟩
  · exact .of_left (intBits_le_64 h1 h2)
  · exact .of_right (intBits_le_64 h1 h2)
theorem two_pow_nn (k : Nat) : (0 : Int) ≤ 2 ^ k := by
  rw [two_pow_cast]
  exact Int.natCast_nonneg _

theorem op_add : OpR X (binaryOp .Add) (rI0 fun i j => .int (i + j)) := opI0 fun _ _ _ _ _ _ _ q => add_int q
theorem op_sub : OpR X (binaryOp .Sub) (rI0 fun i j => .int (i - j)) := opI0 fun _ _ _ _ _ _ _ q => sub_int q
theorem op_mul : OpR X (binaryOp .Mult) (rI CMul fun i j => .int (i * j)) := opI fun _ _ _ _ _ _ _ hc q => mul_int q hc.ok
/-- // by a positive divisor -/
theorem op_fdiv : OpR X (binaryOp .FloorDiv) (rI CDiv fun i j => .int (i / j)) := opI fun i j _ _ _ _ _ hc q => by
  have h1 : (0 : Int) < j := hc.1
  have h2 : j < 1073741824 := hc.2
  exact floordiv_int (by omega) (by rw [Int.fdiv_eq_ediv_of_nonneg i (by omega)]; exact q) (.inl (PyProof.noPylong_small (by omega)))
theorem op_fdivN : OpR X (binaryOp .FloorDiv) (rI CDivN fun i j => .int (i.fdiv j)) := opI fun _ _ _ _ _ _ _ hc q => floordiv_int hc.1 q (.inl (PyProof.noPylong_small hc.2))
/-- % by a positive divisor of any size -/
theorem op_mod : OpR X (binaryOp .Mod) (rI (fun _ j => 0 < j) fun i j => .int (i % j)) := opI fun i j _ _ _ _ _ hc q => by
  have h1 : (0 : Int) < j := hc
  exact mod_int' (by omega) (by rw [Int.fmod_eq_emod_of_nonneg i (by omega)]; exact q)
theorem op_modN : OpR X (binaryOp .Mod) (rI (fun _ j => j ≠ 0) fun i j => .int (i.fmod j)) := opI fun _ _ _ _ _ _ _ hc q => mod_int' hc q
theorem op_pow : OpR X (binaryOp .Pow) (rI CPow fun i j => .int (i ^ j.toNat)) := opI fun _ _ _ _ _ _ _ hc q => pow_int_small hc.1 hc.2.1 hc.2.2 q
theorem op_shl : OpR X (binaryOp .LShift) (rI CPow fun i j => .int (i * 2 ^ j.toNat)) := opI fun _ _ _ _ _ _ _ hc q => lshift_int_small hc.1 hc.2.1 hc.2.2 q
theorem op_shr : OpR X (binaryOp .RShift) (rI (fun _ j => 0 ≤ j) fun i j => .int (i / 2 ^ j.toNat)) := opI fun i j _ _ _ _ _ hc q =>
  rshift_int hc (by rw [Int.fdiv_eq_ediv_of_nonneg i (two_pow_nn _)]; exact q)
theorem op_and : OpR X (binaryOp .BitAnd) (rI0 fun i j => .int (Builtin.bitAnd i j)) := opI0 fun _ _ _ _ _ _ _ q => and_int q
theorem op_or : OpR X (binaryOp .BitOr) (rI0 fun i j => .int (Builtin.bitOr i j)) := opI0 fun _ _ _ _ _ _ _ q => or_int q
theorem op_xor : OpR X (binaryOp .BitXor) (rI0 fun i j => .int (Builtin.bitXor i j)) := opI0 fun _ _ _ _ _ _ _ q => xor_int q

theorem iop_add : OpR X (inplaceOp .Add) (rI0 fun i j => .int (i + j)) := opI0 fun _ _ _ _ _ _ _ q => iadd_int q
theorem iop_sub : OpR X (inplaceOp .Sub) (rI0 fun i j => .int (i - j)) := opI0 fun _ _ _ _ _ _ _ q => isub_int q
theorem iop_mul : OpR X (inplaceOp .Mult) (rI CMul fun i j => .int (i * j)) := opI fun _ _ _ _ _ _ _ hc q => imul_int q hc.ok
theorem iop_fdiv : OpR X (inplaceOp .FloorDiv) (rI CDiv fun i j => .int (i / j)) := opI fun i j _ _ _ _ _ hc q => by
  have h1 : (0 : Int) < j := hc.1
  have h2 : j < 1073741824 := hc.2
  exact ifloordiv_int (by omega) (by rw [Int.fdiv_eq_ediv_of_nonneg i (by omega)]; exact q) (.inl (PyProof.noPylong_small (by omega)))
theorem iop_mod : OpR X (inplaceOp .Mod) (rI (fun _ j => 0 < j) fun i j => .int (i % j)) := opI fun i j _ _ _ _ _ hc q => by
  have h1 : (0 : Int) < j := hc
  exact imod_int (by omega) (by rw [Int.fmod_eq_emod_of_nonneg i (by omega)]; exact q)
theorem iop_shl : OpR X (inplaceOp .LShift) (rI CPow fun i j => .int (i * 2 ^ j.toNat)) := opI fun _ _ _ _ _ _ _ hc q => ilshift_int_small hc.1 hc.2.1 hc.2.2 q
theorem iop_shr : OpR X (inplaceOp .RShift) (rI (fun _ j => 0 ≤ j) fun i j => .int (i / 2 ^ j.toNat)) := opI fun i j _ _ _ _ _ hc q =>
  irshift_int hc (by rw [Int.fdiv_eq_ediv_of_nonneg i (two_pow_nn _)]; exact q)
theorem iop_and : OpR X (inplaceOp .BitAnd) (rI0 fun i j => .int (Builtin.bitAnd i j)) := opI0 fun _ _ _ _ _ _ _ q => iand_int q
theorem iop_or : OpR X (inplaceOp .BitOr) (rI0 fun i j => .int (Builtin.bitOr i j)) := opI0 fun _ _ _ _ _ _ _ q => ior_int q
theorem iop_xor : OpR X (inplaceOp .BitXor) (rI0 fun i j => .int (Builtin.bitXor i j)) := opI0 fun _ _ _ _ _ _ _ q => ixor_int q

theorem unI {f : Value → Sem Value} {g : Int → Int}
    (rule : ∀ (i : Int) (t : Tok) (s : Shared) (Q : Value → Shared → Prop) (E : Value → Shared → Prop), Q (.int (g i) s.toks) { s with toks := s.toks + 1 } → wpAny (model X.prog X.w) X.A (f (.int i t)) Q E s) :
    UnR X f (rU fun i => .int (g i)) := by
  intro pins s σ H x v Q I rx h
  obtain ⟨i, rfl, q⟩ := h
  obtain ⟨t, rfl⟩ := rx
  exact rule i t s _ _ ⟨.int (g i), H, I.tok _, ⟨_, rfl⟩, q⟩
theorem un_neg : UnR X (unaryOp .USub) (rU fun i => .int (-i)) := unI fun _ _ _ _ _ q => neg_int q
theorem un_inv : UnR X (unaryOp .Invert) (rU fun i => .int (Builtin.bitNot i)) := unI fun _ _ _ _ _ q => invert_int q

/-! ### bools among ints: n += (a < b) -/
theorem op_add_ib : OpR X (binaryOp .Add) (fun x y H Q => ∃ i k, x = .int i ∧ y = .bl k ∧ Q (.int (i + b2i k)) H) := by
  intro pins s σ H x y v u Q I rx ry h
  obtain ⟨i, k, rfl, rfl, q⟩ := h
  obtain ⟨t, rfl⟩ := rx
  cases ry
  exact add_int_bool ⟨.int (i + b2i k), H, I.tok _, ⟨_, rfl⟩, q⟩
end

/-! ### comparisons -/
/-- the scalars that == tells apart as data does -/
def scal : V → V → Bool
  | .non, .non => true | .non, .int _ => true | .int _, .non => true | .non, .bl _ => true | .bl _, .non => true | .non, .str _ => true | .str _, .non => true
  | .int _, .int _ => true | .bl _, .bl _ => true | .str _, .str _ => true | .byt _, .byt _ => true
  | .int _, .str _ => true | .str _, .int _ => true | .bl _, .str _ => true | .str _, .bl _ => true
  | _, _ => false
def rEq : R2 := fun x y H Q => scal x y = true ∧ Q (.bl (decide (x = y))) H
def rNe : R2 := fun x y H Q => scal x y = true ∧ Q (.bl (!decide (x = y))) H

theorem dec_int {i j : Int} : decide (V.int i = V.int j) = (i == j) := by
  rw [Bool.eq_iff_iff]
  simp
theorem dec_bl {i j : Bool} : decide (V.bl i = V.bl j) = (i == j) := by
  rw [Bool.eq_iff_iff]
  simp
theorem dec_str {i j : Str} : decide (V.str i = V.str j) = (i == j) := by
  rw [Bool.eq_iff_iff]
  simp
theorem dec_byt {i j : Array UInt8} : decide (V.byt i = V.byt j) = (i.toList == j.toList) := by
  rw [Bool.eq_iff_iff]
  cases i
  cases j
  simp

section
variable {X : Cx} {a b c : Expr} {ta tb tc : TE} {pos : Pos}
theorem fin_bl {pins : List (Addr × Obj)} {σ : St} {H : Hp} {s : Shared} {Q : VK} {k k' : Bool} (I : Inv X pins σ H s) (q : Q (.bl k) H) (e : k = k') : EP X pins σ Q (.bool k') s := by
  subst e
  exact ⟨.bl k, H, I, rfl, q⟩
theorem op_eq : OpR X (compareOp .Eq) rEq := by
  intro pins s σ H x y v u Q I rx ry h
  obtain ⟨hs, q⟩ := h
  cases x with
  | non =>
    cases rx
    cases y with
    | non => cases ry; exact PySem.EqNone.eq_none_none (fin_bl I q (by simp))
    | bl j => cases ry; exact PySem.EqNone.eq_none_bool (fin_bl I q (by simp))
    | int j => obtain ⟨t', rfl⟩ := ry; exact PySem.EqNone.eq_none_int (fin_bl I q (by simp))
    | str j => obtain ⟨t', rfl⟩ := ry; exact PySem.EqNone.eq_none_str (fin_bl I q (by simp))
    | _ => exact absurd (show false = true from hs) Bool.false_ne_true
  | bl i =>
    cases rx
    cases y with
    | non => cases ry; exact PySem.EqNone.eq_bool_none (fin_bl I q (by simp))
    | bl j => cases ry; exact eq_bool (fin_bl I q dec_bl)
    | str j => obtain ⟨t', rfl⟩ := ry; exact PySem.EqMixed.eq_bool_str (fin_bl I q (by simp))
    | _ => exact absurd (show false = true from hs) Bool.false_ne_true
  | int i =>
    obtain ⟨t, rfl⟩ := rx
    cases y with
    | non => cases ry; exact PySem.EqNone.eq_int_none (fin_bl I q (by simp))
    | int j => obtain ⟨t', rfl⟩ := ry; exact eq_int (fin_bl I q dec_int)
    | str j => obtain ⟨t', rfl⟩ := ry; exact PySem.EqMixed.eq_int_str (fin_bl I q (by simp))
    | _ => exact absurd (show false = true from hs) Bool.false_ne_true
  | str i =>
    obtain ⟨t, rfl⟩ := rx
    cases y with
    | non => cases ry; exact PySem.EqNone.eq_str_none (fin_bl I q (by simp))
    | bl j => cases ry; exact PySem.EqMixed.eq_str_bool (fin_bl I q (by simp))
    | int j => obtain ⟨t', rfl⟩ := ry; exact PySem.EqMixed.eq_str_int (fin_bl I q (by simp))
    | str j => obtain ⟨t', rfl⟩ := ry; exact eq_str (fin_bl I q dec_str)
    | _ => exact absurd (show false = true from hs) Bool.false_ne_true
  | byt i =>
    obtain ⟨t, rfl⟩ := rx
    cases y with
    | byt j => obtain ⟨t', rfl⟩ := ry; exact PySem.W.eq_bytes (fin_bl I q dec_byt)
    | _ => exact absurd (show false = true from hs) Bool.false_ne_true
  | _ => cases y <;> exact absurd (show false = true from hs) Bool.false_ne_true
theorem op_ne : OpR X (compareOp .NotEq) rNe := by
  intro pins s σ H x y v u Q I rx ry h
  obtain ⟨hs, q⟩ := h
  cases x with
  | non =>
    cases rx
    cases y with
    | non => cases ry; exact PySem.EqNone.ne_none_none (fin_bl I q (by simp))
    | bl j => cases ry; exact PySem.EqNone.ne_none_bool (fin_bl I q (by simp))
    | int j => obtain ⟨t', rfl⟩ := ry; exact PySem.EqNone.ne_none_int (fin_bl I q (by simp))
    | str j => obtain ⟨t', rfl⟩ := ry; exact PySem.EqNone.ne_none_str (fin_bl I q (by simp))
    | _ => exact absurd (show false = true from hs) Bool.false_ne_true
  | bl i =>
    cases rx
    cases y with
    | non => cases ry; exact PySem.EqNone.ne_bool_none (fin_bl I q (by simp))
    | bl j => cases ry; exact ne_bool (fin_bl I q (congrArg not dec_bl))
    | str j => obtain ⟨t', rfl⟩ := ry; exact PySem.EqMixed.ne_bool_str (fin_bl I q (by simp))
    | _ => exact absurd (show false = true from hs) Bool.false_ne_true
  | int i =>
    obtain ⟨t, rfl⟩ := rx
    cases y with
    | non => cases ry; exact PySem.EqNone.ne_int_none (fin_bl I q (by simp))
    | int j => obtain ⟨t', rfl⟩ := ry; exact ne_int (fin_bl I q (congrArg not dec_int))
    | str j => obtain ⟨t', rfl⟩ := ry; exact PySem.EqMixed.ne_int_str (fin_bl I q (by simp))
    | _ => exact absurd (show false = true from hs) Bool.false_ne_true
  | str i =>
    obtain ⟨t, rfl⟩ := rx
    cases y with
    | non => cases ry; exact PySem.EqNone.ne_str_none (fin_bl I q (by simp))
    | bl j => cases ry; exact PySem.EqMixed.ne_str_bool (fin_bl I q (by simp))
    | int j => obtain ⟨t', rfl⟩ := ry; exact PySem.EqMixed.ne_str_int (fin_bl I q (by simp))
    | str j => obtain ⟨t', rfl⟩ := ry; exact ne_str (fin_bl I q (congrArg not dec_str))
    | _ => exact absurd (show false = true from hs) Bool.false_ne_true
  | byt i =>
    obtain ⟨t, rfl⟩ := rx
    cases y with
    | byt j => obtain ⟨t', rfl⟩ := ry; exact PySem.W.ne_bytes (fin_bl I q (congrArg not dec_byt))
    | _ => exact absurd (show false = true from hs) Bool.false_ne_true
  | _ => cases y <;> exact absurd (show false = true from hs) Bool.false_ne_true

theorem op_lt : OpR X (compareOp .Lt) (rI0 fun i j => .bl (decide (i < j))) := opB0 fun _ _ _ _ _ _ _ q => lt_int q
theorem op_le : OpR X (compareOp .LtE) (rI0 fun i j => .bl (decide (i ≤ j))) := opB0 fun _ _ _ _ _ _ _ q => le_int q
theorem op_gt : OpR X (compareOp .Gt) (rI0 fun i j => .bl (decide (j < i))) := opB0 fun _ _ _ _ _ _ _ q => gt_int q
theorem op_ge : OpR X (compareOp .GtE) (rI0 fun i j => .bl (decide (j ≤ i))) := opB0 fun _ _ _ _ _ _ _ q => ge_int q
theorem op_lt_str : OpR X (compareOp .Lt) (fun x y H Q => ∃ i j, x = .str i ∧ y = .str j ∧ Q (.bl (decide (i.cps.toList < j.cps.toList))) H) := by
  intro pins s σ H x y v u Q I rx ry h
  obtain ⟨i, j, rfl, rfl, q⟩ := h
  obtain ⟨t, rfl⟩ := rx
  obtain ⟨t', rfl⟩ := ry
  exact lt_str (fin_bl I q rfl)
/-- the one string within the other -/
theorem op_in_str : OpR X (compareOp .In) (fun x y H Q => ∃ i j, x = .str i ∧ y = .str j ∧ Q (.bl (!(Builtin.Str.occurrences j i 0 j.length 1).isEmpty)) H) := by
  intro pins s σ H x y v u Q I rx ry h
  obtain ⟨i, j, rfl, rfl, q⟩ := h
  obtain ⟨t, rfl⟩ := rx
  obtain ⟨t', rfl⟩ := ry
  exact in_str (fin_bl I q rfl)

/-- is None, is not None: the right side a value none -/
theorem op_isN : OpR X (compareOp .Is) (fun x y H Q => y = .non ∧ Q (.bl (decide (x = .non))) H) := by
  intro pins s σ H x y v u Q I rx ry h
  obtain ⟨rfl, q⟩ := h
  cases ry
  refine is_none_gen (fin_bl I q ?_)
  cases x <;> first
    | (cases rx; rfl)
    | (obtain ⟨t, rfl⟩ := rx; rfl)
theorem op_notN : OpR X (compareOp .IsNot) (fun x y H Q => y = .non ∧ Q (.bl (!decide (x = .non))) H) := by
  intro pins s σ H x y v u Q I rx ry h
  obtain ⟨rfl, q⟩ := h
  cases ry
  refine isnot_none_gen (fin_bl I q ?_)
  cases x <;> first
    | (cases rx; rfl)
    | (obtain ⟨t, rfl⟩ := rx; rfl)

theorem op_notin_str : OpR X (compareOp .NotIn) (fun x y H Q => ∃ i j, x = .str i ∧ y = .str j ∧ Q (.bl (!(!(Builtin.Str.occurrences j i 0 j.length 1).isEmpty))) H) := by
  intro pins s σ H x y v u Q I rx ry h
  obtain ⟨i, j, rfl, rfl, q⟩ := h
  obtain ⟨t, rfl⟩ := rx
  obtain ⟨t', rfl⟩ := ry
  exact notIn_str (fin_bl I q rfl)
/-- is, is not of two objects that are tracked lists or instances -/
def isObj : HO → Bool
  | .lst _ => true
  | .ins _ _ _ => true
  | _ => false
theorem obj_there {pins : List (Addr × Obj)} {s : Shared} {σ : St} {H : Hp} {a : Addr} {o : HO} (I : Inv X pins σ H s) (h : H a = some o) (p : isObj o = true) : ∃ ob, s.heap.get? a = some ob ∧ ob.cls ≠ .type "tuple" := by
  cases o with
  | lst xs =>
    obtain ⟨_, its, n, _, e⟩ : xs.length ≤ sizeLine ∧ ∃ (its : List Value) (n : Nat), Vals xs its ∧ s.heap.get? a = some { cls := .type "list", data := .seq its.toArray n } := I.hok a _ h
    exact ⟨_, e, (by show Value.type "list" ≠ .type "tuple"; decide +kernel)⟩
  | ins C dx fs =>
    have x := I.hok a _ h
    obtain ⟨_, _, _, e, _⟩ := x
    exact ⟨_, e, (by show Value.ref C ≠ .type "tuple"; exact fun z => by cases z)⟩
  | _ => exact absurd (show false = true from p) Bool.false_ne_true
theorem op_is_ref : OpR X (compareOp .Is) (fun x y H Q => ∃ a b oa ob, x = .ref a ∧ y = .ref b ∧ H a = some oa ∧ isObj oa = true ∧ H b = some ob ∧ isObj ob = true ∧ Q (.bl (decide (a = b))) H) := by
  intro pins s σ H x y v u Q I rx ry h
  obtain ⟨a, b, oa, ob, rfl, rfl, ha, pa, hb, pb, q⟩ := h
  cases rx
  cases ry
  obtain ⟨o1, e1, n1⟩ := obj_there I ha pa
  obtain ⟨o2, e2, _⟩ := obj_there I hb pb
  by_cases z : a = b
  · subst z
    exact wpAny_is_ref_self (fin_bl I q (by simp))
  · exact wpAny_is_ref_other z e1 e2 n1 (fin_bl I q (by simp [z]))
theorem op_isnot_ref : OpR X (compareOp .IsNot) (fun x y H Q => ∃ a b oa ob, x = .ref a ∧ y = .ref b ∧ H a = some oa ∧ isObj oa = true ∧ H b = some ob ∧ isObj ob = true ∧ Q (.bl (!decide (a = b))) H) := by
  intro pins s σ H x y v u Q I rx ry h
  obtain ⟨a, b, oa, ob, rfl, rfl, ha, pa, hb, pb, q⟩ := h
  cases rx
  cases ry
  obtain ⟨o1, e1, n1⟩ := obj_there I ha pa
  obtain ⟨o2, e2, _⟩ := obj_there I hb pb
  by_cases z : a = b
  · subst z
    exact wpAny_isNot_ref_self (fin_bl I q (by simp))
  · exact wpAny_isNot_ref_other z e1 e2 n1 (fin_bl I q (by simp [z]))

/-- two rules for one operation: by cases -/
theorem OpR.or {f : Value → Value → Sem Value} {r r' : R2} (h : OpR X f r) (h' : OpR X f r') : OpR X f (fun x y H Q => r x y H Q ∨ r' x y H Q) := by
  intro pins s σ H x y v u Q I rx ry q
  rcases q with q | q
  · exact h pins s σ H x y v u Q I rx ry q
  · exact h' pins s σ H x y v u Q I rx ry q

theorem nomark (b : Expr) {op : CmpOp} (h : op ≠ .In := by decide) (h2 : op ≠ .NotIn := by decide) : behindInMarks op b = false := by
  have e1 : (op == CmpOp.In) = false := by cases op <;> first | rfl | exact absurd rfl h
  have e2 : (op == CmpOp.NotIn) = false := by cases op <;> first | rfl | exact absurd rfl h2
  cases b <;> simp [behindInMarks, e1, e2]
/-- a comparison as a value; hm: nomark b, or (for in, not in) by with_unfolding_all rfl -/
theorem pe_cmpR {op : CmpOp} {r : R2} (ho : OpR X (compareOp op) r) (ha : PE X a ta) (hb : PE X b tb) (hm : behindInMarks op b = false) : PE X (.Compare a [op] [b] pos) (tOp r ta tb) := by
  intro pins s σ H Q I h
  exact wpAny_Compare1 (binT ha hb I h fun v u s2 x y H2 I2 rx ry q => ho pins s2 σ H2 x y v u Q I2 rx ry q) hm
/-- a reading of a value as a test -/
def tTest (t : TE) : TT := fun σ H Q => t σ H fun x H' => ∃ k, x = .bl k ∧ Q k H'
theorem pt_cmpR {op : CmpOp} {r : R2} (ho : OpR X (compareOp op) r) (ha : PE X a ta) (hb : PE X b tb) (hm : behindInMarks op b = false) : PT X (.Compare a [op] [b] pos) (tTest (tOp r ta tb)) := by
  intro pins s σ H Q I h
  refine wpAny_isTrue_Compare1 (thn (ha pins s σ H _ I h) fun v s1 ⟨x, H1, I1, r1, q1⟩ => thn (hb pins s1 σ H1 _ I1 q1) fun u s2 ⟨y, H2, I2, r2, q2⟩ =>
    thn (ho pins s2 σ H2 x y v u _ I2 r1 r2 q2) fun c s3 ⟨z, H3, I3, r3, k, e, q3⟩ => ?_) hm
  subst e
  cases r3
  exact wpAny_truthy_bool ⟨H3, I3, q3⟩
/-- a op1 b op2 c -/
def tChain (r r' : R2) (ta tb tc : TE) : TE := fun σ H Q => ta σ H fun x H1 => tb σ H1 fun y H2 => r x y H2 fun z H3 => ∃ k, z = .bl k ∧
  (if k = true then tc σ H3 fun w' H4 => r' y w' H4 Q else Q (.bl false) H3)
theorem pe_chain {op op' : CmpOp} {r r' : R2} (ho : OpR X (compareOp op) r) (ho' : OpR X (compareOp op') r') (ha : PE X a ta) (hb : PE X b tb) (hc : PE X c tc)
    (hm : lastMarks [op, op'] [b, c] = false := by with_unfolding_all rfl) : PE X (.Compare a [op, op'] [b, c] pos) (tChain r r' ta tb tc) := by
  intro pins s σ H Q I h
  refine Compare_chain (thn (ha pins s σ H _ I h) fun v s1 ⟨x, H1, I1, r1, q1⟩ => chain_link (thn (hb pins s1 σ H1 _ I1 q1) fun u s2 ⟨y, H2, I2, r2, q2⟩ =>
    thn (ho pins s2 σ H2 x y v u _ I2 r1 r2 q2) fun d s3 ⟨z, H3, I3, r3, k, e, q3⟩ => ?_)) hm
  subst e
  cases r3
  refine wpAny_truthy_bool ?_
  cases k with
  | false => exact ite_ff ⟨.bl false, H3, I3, rfl, q3⟩
  | true => exact ite_tt (chain_last (thn (hc pins s3 σ H3 _ I3 q3) fun w' s4 ⟨z', H4, I4, r4, q4⟩ => ho' pins s4 σ H4 y z' u w' Q I4 r2 r4 q4))
theorem pt_chain {op op' : CmpOp} {r r' : R2} (ho : OpR X (compareOp op) r) (ho' : OpR X (compareOp op') r') (ha : PE X a ta) (hb : PE X b tb) (hc : PE X c tc)
    (hm : lastMarks [op, op'] [b, c] = false := by with_unfolding_all rfl) : PT X (.Compare a [op, op'] [b, c] pos) (tTest (tChain r r' ta tb tc)) := by
  intro pins s σ H Q I h
  refine isTrue_chain (thn (ha pins s σ H _ I h) fun v s1 ⟨x, H1, I1, r1, q1⟩ => test_link (thn (hb pins s1 σ H1 _ I1 q1) fun u s2 ⟨y, H2, I2, r2, q2⟩ =>
    thn (ho pins s2 σ H2 x y v u _ I2 r1 r2 q2) fun d s3 ⟨z, H3, I3, r3, k, e, q3⟩ => ?_)) hm
  subst e
  cases r3
  refine wpAny_truthy_bool ?_
  cases k with
  | false =>
    obtain ⟨k', e', q'⟩ := q3
    cases e'
    exact ite_ff ⟨H3, I3, q'⟩
  | true =>
    refine ite_tt (test_last (thn (hc pins s3 σ H3 _ I3 q3) fun w' s4 ⟨z', H4, I4, r4, q4⟩ => thn (ho' pins s4 σ H4 y z' u w' _ I4 r2 r4 q4) fun d' s5 ⟨z2, H5, I5, r5, k2, e2, q5⟩ => ?_))
    subst e2
    cases r5
    exact wpAny_truthy_bool ⟨H5, I5, q5⟩

/-! ### truth -/
/-- a value's truth by the abstract heap -/
def TruV (K : PySem.W.Frag) (x : V) (H : Hp) (k : Bool) : Prop :=
  match x with
  | .non => k = false
  | .bl b => k = b
  | .int i => k = (i != 0)
  | .str y => y.length ≤ sizeLine ∧ k = ((y.length : Int) != 0)
  | .byt y => y.size ≤ sizeLine ∧ k = ((y.size : Int) != 0)
  | .ref p => (∃ xs, SqL K H p xs ∧ k = !xs.isEmpty) ∨ (∃ xs, SqT K H p xs ∧ k = !xs.isEmpty) ∨ ∃ kvs, H p = some (.dK kvs) ∧ k = !kvs.isEmpty
  | _ => False
theorem isEmpty_kv {κ : Type} {kvs : List (κ × V)} {vs : List (κ × Value)} (r : KV kvs vs) : (!vs.isEmpty) = !kvs.isEmpty := by
  cases r <;> rfl
theorem isEmpty_of {xs : List V} {its : List Value} (r : Vals xs its) : (!its.toArray.isEmpty) = !xs.isEmpty := by
  cases r <;> simp
theorem line63 : (sizeLine : Nat) < 2 ^ 63 := by rw [sizeLine_eq]; decide
theorem tru_ok : TruR X (fun x H Q => ∃ k, TruV X.K x H k ∧ Q k H) := by
  intro pins s σ H x v Q I rx h
  obtain ⟨k, e, q⟩ := h
  have hl := line63
  have hs : sizeLine = 16777216 := sizeLine_eq
  cases x with
  | non =>
    cases rx
    have e' : k = false := e
    subst e'
    exact truthy_none ⟨H, I, q⟩
  | bl b =>
    cases rx
    have e' : k = b := e
    subst e'
    exact wpAny_truthy_bool ⟨H, I, q⟩
  | int i =>
    obtain ⟨t, rfl⟩ := rx
    have e' : k = (i != 0) := e
    subst e'
    exact PySem.P.truthy_int ⟨H, I, q⟩
  | str y =>
    obtain ⟨t, rfl⟩ := rx
    obtain ⟨hy, e'⟩ : y.length ≤ sizeLine ∧ k = ((y.length : Int) != 0) := e
    subst e'
    exact PySem.P.truthy_str (by omega) ⟨H, I.tok _, q⟩
  | byt y =>
    obtain ⟨t, rfl⟩ := rx
    obtain ⟨hy, e'⟩ : y.size ≤ sizeLine ∧ k = ((y.size : Int) != 0) := e
    subst e'
    exact PySem.W.truthy_bytes (by omega) ⟨H, I.tok _, q⟩
  | ref p =>
    cases rx
    have e' : (∃ xs, SqL X.K H p xs ∧ k = !xs.isEmpty) ∨ (∃ xs, SqT X.K H p xs ∧ k = !xs.isEmpty) ∨ ∃ kvs, H p = some (.dK kvs) ∧ k = !kvs.isEmpty := e
    rcases e' with ⟨xs, hx, e'⟩ | ⟨xs, hx, e'⟩ | ⟨kvs, hx, e'⟩
    · subst e'
      obtain ⟨its, r, pl, hz⟩ := I.list hx
      have hlen := r.length
      exact wpAny_truthy_list pl.isList (by simp only [List.size_toArray]; omega) ⟨H, I.tok _, by rw [isEmpty_of r]; exact q⟩
    · subst e'
      obtain ⟨its, r, pl, hz⟩ := I.tuple hx
      have hlen := r.length
      exact truthy_tuple pl (by simp only [List.size_toArray]; omega) ⟨H, I.tok _, by rw [isEmpty_of r]; exact q⟩
    · subst e'
      obtain ⟨hz, hS, vs, r, m⟩ : kvs.length ≤ sizeLine ∧ (p == sysModules) = false ∧ ∃ vs, KV kvs vs ∧ s.heap.DictOf (mixKind X.prog X.w) p vs := I.hok p _ hx
      have hlen : kvs.length = vs.length := Paired.length r
      exact wpAny_truthy_dict hS m (by omega) ⟨H, I.tok _, by rw [isEmpty_kv r]; exact q⟩
  | _ => exact (show False from e).elim
/-- any expression whose test is its value's truth (a name, a call, a subscript, a field ..: he by fun _ => rfl) -/
theorem pt_truth (ha : PE X a ta) (he : ∀ whole, isTrue a X.env whole = (do let v ← whole; standAt a.pos; holding [v] (truthy v))) :
    PT X a (fun σ H Q => ta σ H fun x H' => ∃ k, TruV X.K x H' k ∧ Q k H') := by
  intro pins s σ H Q I h
  exact isTrue_plain (thn (ha pins s σ H _ I h) fun v s1 ⟨x, H1, I1, r1, q1⟩ => tru_ok pins s1 σ H1 x v Q I1 r1 q1) (he _)

/-! ### strs and bytes -/
theorem pe_byt {x : List UInt8} {k : Nat} : PE X (.Constant (.bytes x) k pos) (fun _ H Q => Q (.byt x.toArray) H) := fun _ _ _ H _ I h => PySem.W.Constant_bytes ⟨.byt x.toArray, H, I.tok _, ⟨_, rfl⟩, h⟩
theorem op_add_str : OpR X (binaryOp .Add) (fun x y H Q => ∃ i j, x = .str i ∧ y = .str j ∧ i.length + j.length ≤ sizeLine ∧ Q (.str (i ++ j)) H) := by
  intro pins s σ H x y v u Q I rx ry h
  obtain ⟨i, j, rfl, rfl, hz, q⟩ := h
  obtain ⟨t, rfl⟩ := rx
  obtain ⟨t', rfl⟩ := ry
  exact add_str (fun t' tk => ⟨.str (i ++ j), H, I.tok _, ⟨_, rfl⟩, q⟩) hz
theorem iop_add_str : OpR X (inplaceOp .Add) (fun x y H Q => ∃ i j, x = .str i ∧ y = .str j ∧ i.length + j.length ≤ sizeLine ∧ Q (.str (i ++ j)) H) := by
  intro pins s σ H x y v u Q I rx ry h
  obtain ⟨i, j, rfl, rfl, hz, q⟩ := h
  obtain ⟨t, rfl⟩ := rx
  obtain ⟨t', rfl⟩ := ry
  exact iadd_str (fun t' tk => ⟨.str (i ++ j), H, I.tok _, ⟨_, rfl⟩, q⟩) hz
theorem op_add_byt : OpR X (binaryOp .Add) (fun x y H Q => ∃ i j, x = .byt i ∧ y = .byt j ∧ i.size + j.size ≤ 16777216 ∧ Q (.byt (i ++ j)) H) := by
  intro pins s σ H x y v u Q I rx ry h
  obtain ⟨i, j, rfl, rfl, hz, q⟩ := h
  obtain ⟨t, rfl⟩ := rx
  obtain ⟨t', rfl⟩ := ry
  exact PySem.W.KBy.add_bytes hz (fun t' tk => ⟨.byt (i ++ j), H, I.tok _, ⟨_, rfl⟩, q⟩)

def PlainIxT (b : Expr) : Prop := ∀ o i, subscripted b false o i = operate [o, i] (getItem o i)
/-- s[i], 0 ≤ i < len -/
theorem pe_item_str (ha : PE X a ta) (hb : PE X b tb) (hs : PlainIxT b) :
    PE X (.Subscript a b pos) (tOp (fun x y H Q => ∃ z i c, x = .str z ∧ y = .int i ∧ 0 ≤ i ∧ i < 2 ^ 63 ∧ i < z.length ∧ z.cps[i.toNat]? = some c ∧ Q (.str ⟨#[c]⟩) H) ta tb) := by
  intro pins s σ H Q I h
  refine Subscript_ (binT ha hb I h fun v u s2 x y H2 I2 rx ry q => ?_)
  obtain ⟨z, i, c, rfl, rfl, h0, h63, h1, hc, q⟩ := q
  obtain ⟨t, rfl⟩ := rx
  obtain ⟨t', rfl⟩ := ry
  have e : seqIndex? i z.length = some i.toNat := PySem.StrLaws.seqIndex_nonneg h0 h1
  exact tail_any (typeIs_str s2 z t) slot_str_getitem.lookup (getItem_str (c := c) (by
    have e1 : decide (i < -(2 ^ 63 : Int)) = false := decide_eq_false (by omega)
    have e2 : decide (i ≥ 2 ^ 63) = false := decide_eq_false (by omega)
    rw [e1, e2] <;> rfl) (by rw [e]; exact hc) ⟨.str ⟨#[c]⟩, H2, I2.tok _, ⟨_, rfl⟩, q⟩) (hs _ _)
/-- b[i], 0 ≤ i < len -/
theorem pe_item_byt (ha : PE X a ta) (hb : PE X b tb) (hs : PlainIxT b) :
    PE X (.Subscript a b pos) (tOp (fun x y H Q => ∃ (z : List UInt8) (i : Int), x = .byt z.toArray ∧ y = .int i ∧ z.length ≤ sizeLine ∧ 0 ≤ i ∧ i < z.length ∧ Q (.int ((z.getD i.toNat 0).toNat : Nat)) H) ta tb) := by
  intro pins s σ H Q I h
  refine Subscript_ (binT ha hb I h fun v u s2 x y H2 I2 rx ry q => ?_)
  obtain ⟨z, i, rfl, rfl, hz, h0, h1, q⟩ := q
  obtain ⟨t, rfl⟩ := rx
  obtain ⟨t', rfl⟩ := ry
  have hl : sizeLine = 16777216 := sizeLine_eq
  exact tail_any (PySem.W.typeIs_bytes s2 z.toArray t) PySem.W.FB.slot_bytes_getitem.lookup (PySem.W.getItem_bytes (by omega) h0 h1 ⟨.int ((z.getD i.toNat 0).toNat : Nat), H2, I2.tok _, ⟨_, rfl⟩, q⟩) (hs _ _)

/-! ### scalar builtins, by CallR -/
theorem vals1 {x : V} {us : List Value} (r : Vals [x] us) : ∃ u, us = [u] ∧ RelV x u := by
  cases r with
  | cons r1 r2 => cases r2; exact ⟨_, rfl, r1⟩
theorem vals2 {x y : V} {us : List Value} (r : Vals [x, y] us) : ∃ u w', us = [u, w'] ∧ RelV x u ∧ RelV y w' := by
  cases r with
  | cons r1 r2 =>
    cases r2 with
    | cons r3 r4 => cases r4; exact ⟨_, _, rfl, r1, r3⟩
theorem call_abs : CallR X (.builtin "abs") (fun xs H Q => ∃ i, xs = [.int i] ∧ Q (.int (if i < 0 then -i else i)) H) := by
  intro pins s σ H xs us Q I r h
  obtain ⟨i, rfl, q⟩ := h
  obtain ⟨u, rfl, t, rfl⟩ := vals1 r
  exact call_abs_int fun u tk => ⟨.int (if i < 0 then -i else i), H, I.tok _, ⟨_, rfl⟩, q⟩
theorem call_max2 (hc : X.calm = true) : CallR X (.builtin "max") (fun xs H Q => ∃ i j, xs = [.int i, .int j] ∧ Q (.int (if j > i then j else i)) H) := by
  intro pins s σ H xs us Q I r h
  obtain ⟨i, j, rfl, q⟩ := h
  obtain ⟨u, w', rfl, ⟨t, rfl⟩, ⟨t', rfl⟩⟩ := vals2 r
  refine max_two_ints (I.ok.hd hc) fun h' tk k => ⟨_, H, I.kept k, ?_, q⟩
  by_cases hj : j > i
  · rw [if_pos hj, if_pos hj]; exact ⟨_, rfl⟩
  · rw [if_neg hj, if_neg hj]; exact ⟨_, rfl⟩
theorem call_min2 (hc : X.calm = true) : CallR X (.builtin "min") (fun xs H Q => ∃ i j, xs = [.int i, .int j] ∧ Q (.int (if j < i then j else i)) H) := by
  intro pins s σ H xs us Q I r h
  obtain ⟨i, j, rfl, q⟩ := h
  obtain ⟨u, w', rfl, ⟨t, rfl⟩, ⟨t', rfl⟩⟩ := vals2 r
  refine min_two_ints (I.ok.hd hc) fun h' tk k => ⟨_, H, I.kept k, ?_, q⟩
  by_cases hj : j < i
  · rw [if_pos hj, if_pos hj]; exact ⟨_, rfl⟩
  · rw [if_neg hj, if_neg hj]; exact ⟨_, rfl⟩
theorem call_int1 : CallR X (.type "int") (fun xs H Q => (∃ i, xs = [.int i] ∧ Q (.int i) H) ∨ ∃ k, xs = [.bl k] ∧ Q (.int (if k then 1 else 0)) H) := by
  intro pins s σ H xs us Q I r h
  rcases h with ⟨i, rfl, q⟩ | ⟨k, rfl, q⟩
  · obtain ⟨u, rfl, t, rfl⟩ := vals1 r
    exact call_int_int ⟨.int i, H, I, ⟨_, rfl⟩, q⟩
  · obtain ⟨u, rfl, r1⟩ := vals1 r
    cases r1
    exact call_int_bool ⟨.int (if k then 1 else 0), H, I.tok _, ⟨_, rfl⟩, q⟩
theorem call_bool1 : CallR X (.type "bool") (fun xs H Q => (∃ i, xs = [.int i] ∧ Q (.bl (i != 0)) H) ∨ ∃ k, xs = [.bl k] ∧ Q (.bl k) H) := by
  intro pins s σ H xs us Q I r h
  rcases h with ⟨i, rfl, q⟩ | ⟨k, rfl, q⟩
  · obtain ⟨u, rfl, t, rfl⟩ := vals1 r
    exact call_bool_int ⟨.bl (i != 0), H, I, rfl, q⟩
  · obtain ⟨u, rfl, r1⟩ := vals1 r
    cases r1
    exact call_bool_bool ⟨.bl k, H, I, rfl, q⟩
theorem call_str_int : CallR X (.type "str") (fun xs H Q => ∃ i, xs = [.int i] ∧ i.natAbs.log2 < 1920 ∧ Q (.str (toString i)) H) := by
  intro pins s σ H xs us Q I r h
  obtain ⟨i, rfl, hz, q⟩ := h
  obtain ⟨u, rfl, t, rfl⟩ := vals1 r
  exact PySem.P.str_of_int hz ⟨.str _, H, I.tok _, ⟨_, rfl⟩, q⟩
theorem call_ord : CallR X (.builtin "ord") (fun xs H Q => ∃ x, xs = [.str x] ∧ x.length = 1 ∧ Q (.int (x.cps.getD 0 0 : Nat)) H) := by
  intro pins s σ H xs us Q I r h
  obtain ⟨x, rfl, hz, q⟩ := h
  obtain ⟨u, rfl, t, rfl⟩ := vals1 r
  exact ord_of_one hz ⟨.int _, H, I.tok _, ⟨_, rfl⟩, q⟩
theorem call_chr : CallR X (.builtin "chr") (fun xs H Q => ∃ i, xs = [.int i] ∧ 0 ≤ i ∧ i ≤ 1114111 ∧ Q (.str ⟨#[i.toNat]⟩) H) := by
  intro pins s σ H xs us Q I r h
  obtain ⟨i, rfl, h0, h1, q⟩ := h
  obtain ⟨u, rfl, t, rfl⟩ := vals1 r
  exact chr_of_range h0 h1 ⟨.str _, H, I.tok _, ⟨_, rfl⟩, q⟩
/-- len of a str, a bytes, a list, a tuple -/
def LenV (K : PySem.W.Frag) (x : V) (H : Hp) (n : Nat) : Prop :=
  match x with
  | .str y => y.length ≤ sizeLine ∧ n = y.length
  | .byt y => y.size ≤ sizeLine ∧ n = y.size
  | .ref p => (∃ xs, SqL K H p xs ∧ n = xs.length) ∨ ∃ xs, SqT K H p xs ∧ n = xs.length
  | _ => False
theorem call_len : CallR X (.builtin "len") (fun xs H Q => ∃ x n, xs = [x] ∧ LenV X.K x H n ∧ Q (.int n) H) := by
  intro pins s σ H xs us Q I r h
  obtain ⟨x, n, rfl, e, q⟩ := h
  obtain ⟨u, rfl, rx⟩ := vals1 r
  have hl := line63
  have hs : sizeLine = 16777216 := sizeLine_eq
  cases x with
  | str y =>
    obtain ⟨t, rfl⟩ := rx
    obtain ⟨hy, e'⟩ : y.length ≤ sizeLine ∧ n = y.length := e
    subst e'
    exact len_str (by omega) ⟨.int _, H, I.tok _, ⟨_, rfl⟩, q⟩
  | byt y =>
    obtain ⟨t, rfl⟩ := rx
    obtain ⟨hy, e'⟩ : y.size ≤ sizeLine ∧ n = y.size := e
    subst e'
    exact PySem.W.len_bytes (by omega) ⟨.int _, H, I.tok _, ⟨_, rfl⟩, q⟩
  | ref p =>
    cases rx
    have e' : (∃ xs, SqL X.K H p xs ∧ n = xs.length) ∨ ∃ xs, SqT X.K H p xs ∧ n = xs.length := e
    rcases e' with ⟨xs, hx, e'⟩ | ⟨xs, hx, e'⟩
    · subst e'
      obtain ⟨its, r', pl, hz⟩ := I.list hx
      have hlen := r'.length
      exact Calls.call_len_list pl.isList (by simp only [List.size_toArray]; omega) ⟨.int xs.length, H, I.tok _, ⟨_, by simp only [List.size_toArray]; rw [hlen]⟩, q⟩
    · subst e'
      obtain ⟨its, r', pl, hz⟩ := I.tuple hx
      have hlen := r'.length
      exact len_tuple pl (by simp only [List.size_toArray]; omega) ⟨.int xs.length, H, I.tok _, ⟨_, by simp only [List.size_toArray]; rw [hlen]⟩, q⟩
  | _ => exact (show False from e).elim
/-- divmod: a new tuple -/
theorem call_divmod : CallR X (.builtin "divmod") (fun xs H Q => ∃ i j, xs = [.int i, .int j] ∧ CDiv i j ∧ ∀ p, H p = none → Q (.ref p) (upd H p (.tup [.int (i / j), .int (i % j)]))) := by
  intro pins s σ H xs us Q I r h
  obtain ⟨i, j, rfl, ⟨h1, h2⟩, q⟩ := h
  obtain ⟨u, w', rfl, ⟨t, rfl⟩, ⟨t', rfl⟩⟩ := vals2 r
  refine divmod_int (by omega) ?_ (.inl (PyProof.noPylong_small (by omega)))
  rw [Int.fdiv_eq_ediv_of_nonneg i (by omega), Int.fmod_eq_emod_of_nonneg i (by omega)]
  have hn : H s.heap.objs.size = none := I.hok.fresh (Nat.le_refl _)
  refine ⟨.ref s.heap.objs.size, _, ?_, rfl, q _ hn⟩
  refine I.laid (fun b o e => Heap.get?_push_of_some _ e) (Nat.le_refl _) ⟨by simp only [List.length_cons, List.length_nil]; rw [sizeLine_eq]; decide, [.int (i / j) s.toks, .int (i % j) (s.toks + 1)], .cons ⟨_, rfl⟩ (.cons ⟨_, rfl⟩ .nil), ?_⟩
  exact ⟨_, Heap.get?_push_size s.heap rfl, rfl, 0, rfl⟩
end
end L2

namespace L2
open PySem PySem.Spec PyProof.Rows

/-! ### an instance, its attributes a map -/
structure ObjM (h : Heap) (x dx C : Addr) (mA : Str → Option Value) : Prop where
  obj : h.get? x = some (PySem.W.instObj C dx)
  ns : h.Ns1 dx mA
  ne : dx ≠ x

theorem lookIn_ns {h : Heap} {dx : Addr} {mA : Str → Option Value} (n : h.Ns1 dx mA) : ∃ od, h.get? dx = some od ∧ ∀ name, PySem.W.lookIn name od = some (mA name) := by
  obtain ⟨o, es, ep, ho, hd, hk, _, hm⟩ := n
  refine ⟨o, ho, fun name => ?_⟩
  have e := hm name
  unfold nsFind findBy at e
  rw [← Array.find?_toList] at e
  unfold PySem.W.lookIn
  rw [hd]
  dsimp only
  split
  · rename_i y q
    rw [q] at e
    exact congrArg some e
  · rename_i q
    rw [q] at e
    have a : es.toList.any (·.refKey) = false := by
      rw [List.any_eq_false]
      intro y hy
      obtain ⟨z, t, hkey⟩ := hk y (Array.mem_toList_iff.mp hy)
      simp [DictEntry.refKey, hkey]
    have a' : ¬ es.toList.any (·.refKey) = true := by rw [a]; exact Bool.false_ne_true
    rw [if_neg a']
    exact congrArg some e

theorem ObjM.look {h : Heap} {x dx C : Addr} {mA : Str → Option Value} (I : ObjM h x dx C mA) : ∃ od, PySem.W.InstAt h x (PySem.W.instObj C dx) C (some od) ∧ ∀ name, PySem.W.lookIn name od = some (mA name) :=
  let ⟨od, ho, hl⟩ := lookIn_ns I.ns
  ⟨od, ⟨I.obj, rfl, rfl, ho⟩, hl⟩

section
variable {prog : Program} {w : World} {A : Around} {E : Value → Shared → Prop} {s : Shared} {K : PySem.W.Frag} {x dx C f : Addr} {mA : Str → Option Value} {name : Str} {v : Value}

theorem get_map {expr : Bool} {Q : Value → Shared → Prop} (X : K.In s.heap) (I : ObjM s.heap x dx C mA) (hg : PySem.W.plainGet K C name = true) (hh : PySem.W.hasDictIn K C = true)
    (ha : PySem.W.findIn K (.ref C) name = some none) (hv : mA name = some v) (hv' : PySem.W.handedIn v = true) (h : Q v { s with toks := s.toks + 1 }) :
    wpAny (model prog w) A (getAttr (.ref x) name expr) Q E s := by
  obtain ⟨od, J, hl⟩ := I.look
  exact PySem.W.get_value X J (PySem.W.plainGet_of hg).1 (PySem.W.findObj_own hh ha rfl (by rw [hl, hv])) hv' h

theorem get_const {expr : Bool} {a : Value} {Q : Value → Shared → Prop} (X : K.In s.heap) (I : ObjM s.heap x dx C mA) (hg : PySem.W.plainGet K C name = true) (hh : PySem.W.hasDictIn K C = true)
    (ha : PySem.W.findIn K (.ref C) name = some (some a)) (hn : PySem.W.specialIn K a "__get__" = some none) (hc : PySem.W.copiedNames.contains name = false) (hv : mA name = none) (hv' : PySem.W.handedIn a = true)
    (h : Q a { s with toks := s.toks + 1 }) : wpAny (model prog w) A (getAttr (.ref x) name expr) Q E s := by
  obtain ⟨od, J, hl⟩ := I.look
  exact PySem.W.get_value X J (PySem.W.plainGet_of hg).1 (PySem.W.findObj_cls hh ha hn hv' hc (by rw [hl, hv])) hv' h

theorem get_meth {pl : Sem Bool} {Q : Value × List Value → Shared → Prop} (X : K.In s.heap) (I : ObjM s.heap x dx C mA) (hg : PySem.W.plainGet K C name = true)
    (hf : PySem.W.findIn K (.ref C) name = some (some (.ref f))) (ht : PySem.W.isFn K (.ref f) = true) (hv : mA name = none) (h : Q (.ref f, [.ref x]) s) :
    wpAny (model prog w) A (getMethod (.ref x) name pl) Q E s := by
  obtain ⟨od, J, hl⟩ := I.look
  exact PySem.W.method_fn X J (PySem.W.plainGet_of hg).1 (PySem.W.plainGet_of hg).2 hf (beq_iff_eq.mp ht) (by show (PySem.W.lookIn name od).map (·.isSome) = some false; rw [hl, hv]; rfl) h

theorem set_map {ns : List Str} {Q : Unit → Shared → Prop} (X : K.In s.heap) (I : ObjM s.heap x dx C mA)
    (hs : PySem.W.findIn K (.ref C) "__setattr__" = some (some (.builtin "object.__setattr__"))) (hp : PySem.W.plainOver K C = true) (ht : PySem.W.takerIn K C name = some none) (hh : PySem.W.hasDictIn K C = true)
    (hw : PySem.Within mA ns) (hsz : ns.length ≤ sizeLine)
    (h : ∀ h', ObjM h' x dx C (fun y => if y = name then some v else mA y) → Heap.SameBut dx s.heap h' → Q () { s with heap := h', toks := s.toks + 2 }) :
    wpAny (model prog w) A (setAttr (.ref x) name v) Q E s := by
  obtain ⟨od, J, hl⟩ := I.look
  refine PySem.W.set_plain X J hs (PySem.W.osa_open (s := { s with toks := s.toks + 1 }) (r := none) X J hp ht fun b => ?_)
  obtain ⟨cd, hc, hd'⟩ := PySem.W.any_some hh
  have hx : s.heap.get? x = some ⟨.ref C, some dx, .plain, #[]⟩ := I.obj
  refine wpAny_bind (wpAny_pure (wpAny_bind (wpAny_bind (wpAny_loadPart hx (wpAny_bind (PySem.W.Looks.here (s := { s with toks := s.toks + 1 }) (PySem.W.looks_clsIn X hc) ?_))))))
  rw [hd']
  refine wpAny_pure (a := some dx) (wpAny_bind (wpAny_pure (wpAny_bind ?_)))
  refine wpAny_nsSet1 (s := { s with toks := s.toks + 1 }) I.ns fun h' hn2 hs2 => ?_
  obtain ⟨oD, esD, epD, hoD, hdD, hcD⟩ := hn2.count (PySem.Within.cons name v hw)
  refine wpAny_bind (wpAny_lookBehind hoD (by rw [hdD]; exact pastItsLine_dict (Nat.le_trans hcD (by rw [List.length_cons]; omega))) ?_)
  exact wpAny_pure (h _ ⟨(hs2.2 _ (Ne.symm I.ne)).trans I.obj, hn2, I.ne⟩ hs2)

/-- C(..): the dict at the heap's end, the instance behind it; then its __init__ -/
theorem make_map {R : Result → Shared → Prop} {vs : List Value} {kw : List (Str × Value)} (X : K.In s.heap) (hm : PySem.W.makesIn K C = true)
    (hi : PySem.W.findIn K (.ref C) "__init__" = some (some (.ref f))) (hf : PySem.W.typeIn K (.ref f) = some (.type "function"))
    (h : codeAny (model prog w) (A.under (.builtin "type.__call__" ⟨.ref C :: vs, kw⟩)) (.call (.ref f) ⟨.ref (s.heap.objs.size + 1) :: vs, kw⟩) (PySem.W.InitBack (s.heap.objs.size + 1) R)
      { s with heap := (s.heap.push PySem.W.emptyDict).push (PySem.W.instObj C s.heap.objs.size) }) :
    codeAny (model prog w) A (.call (.ref C) ⟨vs, kw⟩) R s := by
  obtain ⟨hh, g, d, t, os⟩ := s
  exact PySem.W.make_core (PySem.W.makes_of X hm) (PySem.W.looks_findIn X hi) (fun self => PySem.W.bind_fn X self hf) (.inl rfl) h
/-- C() where there is no __init__ but object's -/
theorem make_map0 {R : Result → Shared → Prop} (X : K.In s.heap) (hm : PySem.W.makesIn K C = true)
    (hi : PySem.W.findIn K (.ref C) "__init__" = some (some (.builtin "object.__init__")))
    (hb : ∀ self, PySem.W.Looks (model prog w) s.heap (bindSpecial (.builtin "object.__init__") self) (.builtin "object.__init__", [self]))
    (h : codeAny (model prog w) (A.under (.builtin "type.__call__" ⟨[.ref C], []⟩)) (.call (.builtin "object.__init__") ⟨[.ref (s.heap.objs.size + 1)], []⟩) (PySem.W.InitBack (s.heap.objs.size + 1) R)
      { s with heap := (s.heap.push PySem.W.emptyDict).push (PySem.W.instObj C s.heap.objs.size) }) :
    codeAny (model prog w) A (.call (.ref C) ⟨[], []⟩) R s := by
  obtain ⟨hh, g, d, t, os⟩ := s
  exact PySem.W.make_core (PySem.W.makes_of X hm) (PySem.W.looks_findIn X hi) hb (.inr ⟨rfl, rfl⟩) h
end

/-! ### the attributes as a list of pairs -/
def putF (f : Str) (v : V) : List (Str × V) → List (Str × V)
  | [] => [(f, v)]
  | (g, x) :: r => if g = f then (g, v) :: r else (g, x) :: putF f v r
theorem lookup_putF (f g : Str) (v : V) : ∀ fs : List (Str × V), (putF f v fs).lookup g = if g = f then some v else fs.lookup g
  | [] => by
    show List.lookup g [(f, v)] = _
    by_cases h : g = f
    · have hb : (g == f) = true := beq_iff_eq.mpr h
      simp only [List.lookup, hb, if_pos h]
    · have hb : (g == f) = false := beq_eq_false_iff_ne.mpr h
      simp only [List.lookup, hb, if_neg h]
  | (k, x) :: r => by
    have ih := lookup_putF f g v r
    rw [show putF f v ((k, x) :: r) = (if k = f then (k, v) :: r else (k, x) :: putF f v r) from rfl]
    by_cases hk : k = f
    · rw [if_pos hk]
      by_cases h : g = k
      · have hb : (g == k) = true := beq_iff_eq.mpr h
        simp only [List.lookup, hb, if_pos (h.trans hk)]
      · have hb : (g == k) = false := beq_eq_false_iff_ne.mpr h
        simp only [List.lookup, hb, if_neg (fun e : g = f => h (e.trans hk.symm))]
    · rw [if_neg hk]
      by_cases h : g = k
      · have hb : (g == k) = true := beq_iff_eq.mpr h
        simp only [List.lookup, hb, if_neg (fun e : g = f => hk (h.symm.trans e))]
      · have hb : (g == k) = false := beq_eq_false_iff_ne.mpr h
        simp only [List.lookup, hb]
        exact ih
theorem keys_putF (f : Str) (v : V) : ∀ fs : List (Str × V), f ∈ (putF f v fs).map (·.1) ∧ ∀ g, g ∈ fs.map (·.1) → g ∈ (putF f v fs).map (·.1)
  | [] => ⟨by simp [putF], fun g h => by simp at h⟩
  | (k, x) :: r => by
    obtain ⟨i1, i2⟩ := keys_putF f v r
    rw [show putF f v ((k, x) :: r) = (if k = f then (k, v) :: r else (k, x) :: putF f v r) from rfl]
    by_cases hk : k = f
    · rw [if_pos hk]
      subst hk
      exact ⟨by simp, fun g h => by simpa using h⟩
    · rw [if_neg hk]
      refine ⟨?_, fun g h => ?_⟩
      · rw [List.map_cons]
        exact List.mem_cons_of_mem _ i1
      · rw [List.map_cons] at h ⊢
        rcases List.mem_cons.mp h with e | e
        · exact List.mem_cons.mpr (.inl e)
        · exact List.mem_cons_of_mem _ (i2 g e)
theorem length_putF (f : Str) (v : V) : ∀ fs : List (Str × V), (putF f v fs).length ≤ fs.length + 1
  | [] => by simp [putF]
  | (k, x) :: r => by
    have ih := length_putF f v r
    rw [show putF f v ((k, x) :: r) = (if k = f then (k, v) :: r else (k, x) :: putF f v r) from rfl]
    by_cases hk : k = f
    · rw [if_pos hk, List.length_cons, List.length_cons]; omega
    · rw [if_neg hk, List.length_cons, List.length_cons]; omega

theorem RelO.some_of {v : V} {o : Option Value} (r : RelO (some v) o) : ∃ u, o = some u ∧ RelV v u := by
  cases o with
  | none => exact (show False from r).elim
  | some u => exact ⟨u, rfl, r⟩
theorem RelO.none_of {o : Option Value} (r : RelO none o) : o = none := by
  cases o with
  | none => rfl
  | some u => exact (show False from r).elim
theorem handed_of {v : V} {u : Value} (r : RelV v u) : PySem.W.handedIn u = true := by
  cases v with
  | non => cases (show u = Value.none from r); rfl
  | bl b => cases (show u = Value.bool b from r); rfl
  | int i => obtain ⟨t, e⟩ := (show ∃ t, u = Value.int i t from r); cases e; rfl
  | str x => obtain ⟨t, e⟩ := (show ∃ t, u = Value.str x t from r); cases e; rfl
  | byt b => obtain ⟨t, e⟩ := (show ∃ t, u = Value.bytes b t from r); cases e; rfl
  | flt b => obtain ⟨t, e⟩ := (show ∃ t, u = Value.float b t from r); cases e; rfl
  | ref a => cases (show u = Value.ref a from r); rfl
  | ty n => cases (show u = Value.type n from r); rfl

section
variable {P : Program} {w : World} {H H' : Hp} {h h' : Heap} {a C dx : Addr} {fs fs' : List (Str × V)}
theorem ins_get (hok : HOk P w H h) (e : H a = some (.ins C dx fs)) : ∃ mA, ObjM h a dx C mA ∧ (∀ f, RelO (fs.lookup f) (mA f)) ∧ PySem.Within mA (fs.map (·.1)) ∧ fs.length ≤ 1000 ∧ H dx = some (.own a) := by
  obtain ⟨d, z, ne, ob, mA, n, r, q⟩ := (show ObjOk P w H h a (.ins C dx fs) from hok a _ e)
  exact ⟨mA, ⟨ob, n, ne⟩, r, q, z, d⟩
end

/-! ### what of the text a class must have -/
structure Cls (K : PySem.W.Frag) (C : Addr) : Prop where
  pg : PySem.W.plainGet K C Str.empty = true
  hd : PySem.W.hasDictIn K C = true
  po : PySem.W.plainOver K C = true
  sa : PySem.W.findIn K (.ref C) "__setattr__" = some (some (.builtin "object.__setattr__"))
theorem Cls.get {K : PySem.W.Frag} {C : Addr} (c : Cls K C) (f : Str) : PySem.W.plainGet K C f = true := c.pg
/-- no class of it has the name -/
def NoAttr (K : PySem.W.Frag) (C : Addr) (f : Str) : Prop := PySem.W.findIn K (.ref C) f = some none
theorem NoAttr.taker {K : PySem.W.Frag} {C : Addr} {f : Str} (n : NoAttr K C f) : PySem.W.takerIn K C f = some none := by
  unfold PySem.W.takerIn
  rw [show PySem.W.findIn K (.ref C) f = some none from n]
  rfl
/-- a constant of the class -/
structure Con (K : PySem.W.Frag) (C : Addr) (f : Str) (v : V) (u : Value) : Prop where
  at_ : PySem.W.findIn K (.ref C) f = some (some u)
  rel : RelV v u
  get : PySem.W.specialIn K u "__get__" = some none
  cp : PySem.W.copiedNames.contains f = false
/-- a method: a plain def of the class or of one above it -/
structure Meth (K : PySem.W.Frag) (C : Addr) (m : Str) (f : Addr) : Prop where
  at_ : PySem.W.findIn K (.ref C) m = some (some (.ref f))
  fn : PySem.W.isFn K (.ref f) = true
  kp : PySem.W.keepIn K (.ref f) = true

section
variable {X : Cx} {pins : List (Addr × Obj)} {σ : St} {H : Hp} {s : Shared} {a C dx : Addr} {fs : List (Str × V)} {f : Str} {v : V} {A : Around} {E : Value → Shared → Prop}

theorem getattr_ok {b : Bool} {Q : Value → Shared → Prop} (I : Inv X pins σ H s) (e : H a = some (.ins C dx fs)) (c : Cls X.K C) (n : NoAttr X.K C f) (l : fs.lookup f = some v)
    (h : ∀ u s', Inv X pins σ H s' → RelV v u → Q u s') : wpAny (model X.prog X.w) A (getAttr (.ref a) f b) Q E s := by
  obtain ⟨mA, O, r, _, _, _⟩ := ins_get I.hok e
  obtain ⟨u, hu, ru⟩ := RelO.some_of (v := v) (o := mA f) (by rw [← l]; exact r f)
  exact get_map I.kIn O (c.get f) c.hd n hu (handed_of ru) (h u _ (I.tok _) ru)

theorem getcon_ok {b : Bool} {u : Value} {Q : Value → Shared → Prop} (I : Inv X pins σ H s) (e : H a = some (.ins C dx fs)) (c : Cls X.K C) (k : Con X.K C f v u) (l : fs.lookup f = none)
    (h : ∀ s', Inv X pins σ H s' → Q u s') : wpAny (model X.prog X.w) A (getAttr (.ref a) f b) Q E s := by
  obtain ⟨mA, O, r, _, _, _⟩ := ins_get I.hok e
  have hn : mA f = none := RelO.none_of (by rw [← l]; exact r f)
  exact get_const I.kIn O (c.get f) c.hd k.at_ k.get k.cp hn (handed_of k.rel) (h _ (I.tok _))

theorem getmeth_ok {m : Str} {g : Addr} {pl : Sem Bool} {Q : Value × List Value → Shared → Prop} (I : Inv X pins σ H s) (e : H a = some (.ins C dx fs)) (c : Cls X.K C) (k : Meth X.K C m g) (l : fs.lookup m = none)
    (h : Q (.ref g, [.ref a]) s) : wpAny (model X.prog X.w) A (getMethod (.ref a) m pl) Q E s := by
  obtain ⟨mA, O, r, _, _, _⟩ := ins_get I.hok e
  have hn : mA m = none := RelO.none_of (by rw [← l]; exact r m)
  exact get_meth I.kIn O (c.get m) k.at_ k.fn hn h

theorem setattr_ok {y : V} {u : Value} {Q : Unit → Shared → Prop} (I : Inv X pins σ H s) (e : H a = some (.ins C dx fs)) (c : Cls X.K C) (n : NoAttr X.K C f) (hl : fs.length < 1000) (ry : RelV y u)
    (h : ∀ s', Inv X pins σ (upd H a (.ins C dx (putF f y fs))) s' → Q () s') : wpAny (model X.prog X.w) A (setAttr (.ref a) f u) Q E s := by
  obtain ⟨mA, O, r, wi, _, ho⟩ := ins_get I.hok e
  have hz : (fs.map (·.1)).length ≤ sizeLine := by rw [List.length_map, sizeLine_eq]; omega
  refine set_map I.kIn O c.sa c.po n.taker c.hd wi hz fun h' O' sb => h _ ?_
  have hd : ∃ o, h'.get? dx = some o := let ⟨o, _, _, e', _⟩ := O'.ns; ⟨o, e'⟩
  refine I.write (x := a) (e := dx) (by rw [e]; exact True.intro) (.inr ho) (fun b q hb z => (sb.2 b hb).trans z) hd ?_
  refine ⟨by rw [upd_ne O.ne]; exact ho, ?_, O.ne, O'.obj, _, O'.ns, fun g => ?_, fun g hg => ?_⟩
  · have := length_putF f y fs; omega
  · show RelO ((putF f y fs).lookup g) (if g = f then some u else mA g)
    rw [lookup_putF]
    by_cases q : g = f
    · rw [if_pos q, if_pos q]; exact ry
    · rw [if_neg q, if_neg q]; exact r g
  · by_cases q : g = f
    · rw [q]; exact (keys_putF f y fs).1
    · refine (keys_putF f y fs).2 g (wi g fun z => hg ?_)
      show (if g = f then some u else mA g) = none
      rw [if_neg q]; exact z

/-- a new instance, tracked, without attributes -/
theorem Inv.made (I : Inv X pins σ H s) : Inv X pins σ (upd (upd H s.heap.objs.size (.own (s.heap.objs.size + 1))) (s.heap.objs.size + 1) (.ins C s.heap.objs.size []))
    { s with heap := (s.heap.push PySem.W.emptyDict).push (PySem.W.instObj C s.heap.objs.size) } := by
  have e1 : (s.heap.push PySem.W.emptyDict).get? s.heap.objs.size = some PySem.W.emptyDict := Heap.get?_push_size s.heap rfl
  have e2 : ((s.heap.push PySem.W.emptyDict).push (PySem.W.instObj C s.heap.objs.size)).get? (s.heap.objs.size + 1) = some (PySem.W.instObj C s.heap.objs.size) := by
    have := Heap.get?_push_size (s.heap.push PySem.W.emptyDict) (o := PySem.W.instObj C s.heap.objs.size) rfl
    rwa [Heap.size_push] at this
  have e3 : (s.heap.push PySem.W.emptyDict).Ns s.heap.objs.size (fun _ => none) := ⟨PySem.W.emptyDict, #[], _, e1, rfl, (fun e he => absurd he (by simp)), fun _ => rfl⟩
  have I1 := I.laid (a := s.heap.objs.size) (o := .own (s.heap.objs.size + 1)) (h' := s.heap.push PySem.W.emptyDict) (t' := s.toks) (fun b u q => Heap.get?_push_of_some _ q) (Nat.le_refl _) ⟨_, e1⟩
  refine I1.laid (a := s.heap.objs.size + 1) (o := .ins C s.heap.objs.size []) (t' := s.toks) (fun b u q => Heap.get?_push_of_some _ q) (Nat.le_of_eq (Heap.size_push _ _)) ?_
  have ne : s.heap.objs.size ≠ s.heap.objs.size + 1 := Nat.ne_of_lt (Nat.lt_succ_self _)
  refine ⟨by rw [upd_ne ne, upd_same], Nat.zero_le _, ne, e2, fun _ => none, (Heap.Ns1.of_empty e3).at fun o q => Heap.get?_push_of_some _ q, fun _ => True.intro, fun y hy => absurd rfl hy⟩

/-- e.f where nothing but the object is asked: through attributeBase (super) and the last hold -/
theorem attr_of {prog : Program} {w : World} {env : Env} {e : Expr} {f : Str} {pos : Pos} {s : Shared} {Q : Value → Shared → Prop} (hb : attributeBase e f env (eval e env) = eval e env)
    (h : wpAny (model prog w) A (eval e env) (fun o s₁ => wpAny (model prog w) A (getAttr o f true) Q E s₁) E s) : wpAny (model prog w) A (eval (.Attribute e f pos) env) Q E s :=
  Attribute_any_ h (by rw [arm_eval_Attribute, hb])
end

/-! ### readings and rules -/
/-- e.f, an attribute of the instance -/
def tFld (K : PySem.W.Frag) (ta : TE) (f : Str) : TE := fun σ H Q => ta σ H fun x H1 => ∃ a C dx fs v, x = .ref a ∧ H1 a = some (.ins C dx fs) ∧ Cls K C ∧ NoAttr K C f ∧ fs.lookup f = some v ∧ Q v H1
/-- e.f, a constant of the class -/
def tCon (K : PySem.W.Frag) (ta : TE) (f : Str) : TE := fun σ H Q => ta σ H fun x H1 => ∃ a C dx fs v u, x = .ref a ∧ H1 a = some (.ins C dx fs) ∧ Cls K C ∧ Con K C f v u ∧ fs.lookup f = none ∧ Q v H1
/-- e.f = value -/
def sFld (K : PySem.W.Frag) (ta tv : TE) (f : Str) : TS := fun D σ H => tv σ H fun y H1 => ta σ H1 fun x H2 => ∃ a C dx fs, x = .ref a ∧ H2 a = some (.ins C dx fs) ∧ Cls K C ∧ NoAttr K C f ∧ fs.length < 1000 ∧
  D.nx σ (upd H2 a (.ins C dx (putF f y fs)))
/-- an augmented operator on two values -/
def InOp (X : Cx) (op : Operator) (rd : V → V → Hp → VK → Prop) : Prop :=
  ∀ (pins : List (Addr × Obj)) (s : Shared) (σ : St) (H : Hp) (x y : V) (u v : Value) (Q : VK), Inv X pins σ H s → RelV x u → RelV y v → rd x y H Q → wpAny (model X.prog X.w) X.A (inplaceOp op u v) (EP X pins σ Q) X.xe s
/-- e.f op= value -/
def sFldAug (K : PySem.W.Frag) (ta tv : TE) (rd : V → V → Hp → VK → Prop) (f : Str) : TS := fun D σ H => ta σ H fun x H1 => ∃ a C dx fs v, x = .ref a ∧ H1 a = some (.ins C dx fs) ∧ Cls K C ∧ NoAttr K C f ∧ fs.lookup f = some v ∧
  tv σ H1 fun y H2 => rd v y H2 fun z H3 => ∃ dx' fs', H3 a = some (.ins C dx' fs') ∧ fs'.length < 1000 ∧ D.nx σ (upd H3 a (.ins C dx' (putF f z fs')))

section
variable {X : Cx} {o e value : Expr} {f : Str} {pos pos' tpos : Pos} {ta tv : TE}
theorem pe_fld (he : PE X e ta) (hb : attributeBase e f X.env (eval e X.env) = eval e X.env) : PE X (.Attribute e f pos) (tFld X.K ta f) := by
  intro pins s σ H Q I h
  refine attr_of hb (thn (he pins s σ H _ I h) fun u s1 ⟨x, H1, I1, rx, a, C, dx, fs, v, ex, ea, c, n, l, q⟩ => ?_)
  subst ex
  obtain rfl : u = Value.ref a := rx
  exact getattr_ok I1 ea c n l fun u' s2 I2 ru => ⟨v, H1, I2, ru, q⟩
theorem pe_con (he : PE X e ta) (hb : attributeBase e f X.env (eval e X.env) = eval e X.env) : PE X (.Attribute e f pos) (tCon X.K ta f) := by
  intro pins s σ H Q I h
  refine attr_of hb (thn (he pins s σ H _ I h) fun u s1 ⟨x, H1, I1, rx, a, C, dx, fs, v, u0, ex, ea, c, k, l, q⟩ => ?_)
  subst ex
  obtain rfl : u = Value.ref a := rx
  exact getcon_ok I1 ea c k l fun s2 I2 => ⟨v, H1, I2, k.rel, q⟩
theorem ps_fld (ha : PE X o ta) (hv : PE X value tv) (hs : swapsWith value (some (.Attribute o f pos')) pos.line X.env = pure false) : PS X (.Assign [.Attribute o f pos'] value pos) (sFld X.K ta tv f) := by
  intro pins s σ H D I h
  refine plainObj_wpAny_Assign_Attribute (thn (hv pins s σ H _ I h) fun u s1 ⟨y, H1, I1, ry, q⟩ => thn (ha pins s1 σ H1 _ I1 q) fun ov s2 ⟨x, H2, I2, rx, a, C, dx, fs, ex, ea, c, n, l, q2⟩ => ?_) hs
  subst ex
  obtain rfl : ov = Value.ref a := rx
  exact setattr_ok I2 ea c n l ry fun s3 I3 => ⟨σ, _, I3, q2⟩
theorem ps_fldaug {op : Operator} {rd : V → V → Hp → VK → Prop} (ha : PE X o ta) (hv : PE X value tv) (hop : InOp X op rd) : PS X (.AugAssign (.Attribute o f tpos) op value pos) (sFldAug X.K ta tv rd f) := by
  intro pins s σ H D I h
  refine wpAny_AugAssign_AttributeAny (thn (ha pins s σ H _ I h) fun ov s1 ⟨x, H1, I1, rx, a, C, dx, fs, v, ex, ea, c, n, l, q⟩ => ?_)
  subst ex
  obtain rfl : ov = Value.ref a := rx
  refine getattr_ok I1 ea c n l fun u s2 I2 ru => thn (hv pins s2 σ H1 _ I2 q) fun w3 s3 ⟨y, H2, I3, ry, q3⟩ => thn (hop pins s3 σ H2 v y u w3 _ I3 ru ry q3) fun w4 s4 ⟨z, H3, I4, rz, dx', fs', ea', l', q4⟩ => ?_
  exact setattr_ok I4 ea' c n l' rz fun s5 I5 => ⟨σ, _, I5, q4⟩
def rAdd : V → V → Hp → VK → Prop := fun x y H Q => ∃ i j, x = .int i ∧ y = .int j ∧ Q (.int (i + j)) H
def rSub : V → V → Hp → VK → Prop := fun x y H Q => ∃ i j, x = .int i ∧ y = .int j ∧ Q (.int (i - j)) H
theorem in_add : InOp X .Add rAdd := by
  rintro pins s σ H x y u v Q I rx ry ⟨i, j, rfl, rfl, q⟩
  obtain ⟨t, rfl⟩ := (show ∃ t, u = Value.int i t from rx)
  obtain ⟨t', rfl⟩ := (show ∃ t', v = Value.int j t' from ry)
  exact PyProof.Rows.iadd_int ⟨.int (i + j), H, I.tok _, ⟨_, rfl⟩, q⟩
theorem in_sub : InOp X .Sub rSub := by
  rintro pins s σ H x y u v Q I rx ry ⟨i, j, rfl, rfl, q⟩
  obtain ⟨t, rfl⟩ := (show ∃ t, u = Value.int i t from rx)
  obtain ⟨t', rfl⟩ := (show ∃ t', v = Value.int j t' from ry)
  exact PyProof.Rows.isub_int ⟨.int (i - j), H, I.tok _, ⟨_, rfl⟩, q⟩

/-- what is between an instance and its method: the tree of a method call -/
theorem methcall_of {pl : Sem Bool} {m : Str} {apos : Pos} {args : List Expr} {pins : List (Addr × Obj)} {s : Shared} {σ : St} {H : Hp} {Q : Value → Shared → Prop} {te : TE} (he : PE X e te) (I : Inv X pins σ H s)
    (h : te σ H fun x H1 => ∃ a C dx fs g, x = .ref a ∧ H1 a = some (.ins C dx fs) ∧ Cls X.K C ∧ Meth X.K C m g ∧ fs.lookup m = none ∧
      ∀ s1, Inv X pins σ H1 s1 → wpAny (model X.prog X.w) X.A (callWith pos (.ref g) [.ref a] (backTo pos (starEach args X.env)) (backToKw pos (keywordEach [] X.env))) Q X.xe s1)
    (ht : eval (.Call (.Attribute e m apos) args [] pos) X.env = (do
      let ov ← eval e X.env
      standAt apos.atName
      let (f, first) ← holding [ov] (getMethod ov m pl)
      callWith pos f first (backTo pos (starEach args X.env)) (backToKw pos (keywordEach [] X.env)))) :
    wpAny (model X.prog X.w) X.A (eval (.Call (.Attribute e m apos) args [] pos) X.env) Q X.xe s := by
  refine PySem.W.methodCall_KW (pl := pl) (thn (he pins s σ H _ I h) fun u s1 ⟨x, H1, I1, rx, a, C, dx, fs, g, ex, ea, c, k, l, q⟩ => ?_) ht
  subst ex
  obtain rfl : u = Value.ref a := rx
  exact getmeth_ok I1 ea c k l (q s1 I1)
end

/-! ### isinstance -/
section
variable {X : Cx} {pins : List (Addr × Obj)} {σ : St} {H : Hp} {s : Shared} {A : Around} {E : Value → Shared → Prop} {Q : Value → Shared → Prop} {c : Value} {b : Bool}
/-- the type of a value, as the fragment's deciders take it; for an instance its class -/
inductive TyOf (K : PySem.W.Frag) (H : Hp) : V → Value → Prop where
  | non : TyOf K H .non (.type "NoneType")
  | bl (x : Bool) : TyOf K H (.bl x) (.type "bool")
  | int (i : Int) : TyOf K H (.int i) (.type "int")
  | str (x : Str) : TyOf K H (.str x) (.type "str")
  | flt (x : UInt64) : TyOf K H (.flt x) (.type "float")
  | lst {a : Addr} {xs : List V} (e : H a = some (.lst xs)) : TyOf K H (.ref a) (.type "list")
  | frz {a : Addr} {o : Obj} {xs : List V} (e : H a = some (.frz o (.lst xs))) : TyOf K H (.ref a) (.type "list")
  | tup {a : Addr} {xs : List V} (e : H a = some (.tup xs)) : TyOf K H (.ref a) (.type "tuple")
  | dK {a : Addr} {kvs : List (Key × V)} (e : H a = some (.dK kvs)) : TyOf K H (.ref a) (.type "dict")
  | dT {a : Addr} {kvs : List (List Key × V)} (e : H a = some (.dT kvs)) : TyOf K H (.ref a) (.type "dict")
  | ins {a C dx : Addr} {fs : List (Str × V)} (e : H a = some (.ins C dx fs)) (cl : Cls K C) (ha : PySem.W.findIn K (.ref C) "__class__" = some (some (.builtin "object.__class__")))
      (hn : PySem.W.specialIn K (.builtin "object.__class__") "__get__" = some (some (.builtin "getset_descriptor.__get__"))) (htk : PySem.W.takesIn K (.builtin "object.__class__") = some true)
      (hm : PySem.W.mroIn K C (.type "object") = some true) : TyOf K H (.ref a) (.ref C)
/-- isinstance(x, c) for one class c, a built-in or an own one: kitOne's answer -/
theorem isinst_ok {x : V} {u t : Value} (I : Inv X pins σ H s) (rx : RelV x u) (ty : TyOf X.K H x t) (e : PySem.W.kitOne X.K t c = some b) (h : ∀ tk, Q (.bool b) { s with toks := tk }) :
    wpAny (model X.prog X.w) A (call (.builtin "isinstance") [u, c]) Q E s := by
  cases ty with
  | non => cases (show u = Value.none from rx); exact PySem.W.kia_one PySem.W.kitx_none I.kIn True.intro e (fun z => nomatch z) h
  | bl y => cases (show u = Value.bool y from rx); exact PySem.W.kia_one PySem.W.kitx_bool I.kIn True.intro e (fun z => nomatch z) h
  | int i => obtain ⟨t, q⟩ := (show ∃ t, u = Value.int i t from rx); cases q; exact PySem.W.kia_one PySem.W.kitx_int I.kIn True.intro e (fun z => nomatch z) h
  | str y => obtain ⟨t, q⟩ := (show ∃ t, u = Value.str y t from rx); cases q; exact PySem.W.kia_one PySem.W.kitx_str I.kIn True.intro e (fun z => nomatch z) h
  | flt y => obtain ⟨t, q⟩ := (show ∃ t, u = Value.float y t from rx); cases q; exact PySem.W.kia_one PySem.W.kitx_float I.kIn True.intro e (fun z => nomatch z) h
  | @lst a xs ea =>
    cases (show u = Value.ref a from rx)
    obtain ⟨_, _, n, _, h1⟩ := (show ObjOk X.prog X.w H s.heap a (.lst xs) from I.hok a _ ea)
    exact PySem.W.kia_one PySem.W.kitx_list I.kIn ⟨_, h1, rfl⟩ e (fun z => nomatch z) h
  | @frz a ob xs ea =>
    cases (show u = Value.ref a from rx)
    obtain ⟨_, _, _, n, _, h1⟩ := (show ObjOk X.prog X.w H s.heap a (.frz ob (.lst xs)) from I.hok a _ ea)
    exact PySem.W.kia_one PySem.W.kitx_list I.kIn ⟨_, h1, rfl⟩ e (fun z => nomatch z) h
  | @tup a xs ea =>
    cases (show u = Value.ref a from rx)
    obtain ⟨_, _, _, p⟩ := (show ObjOk X.prog X.w H s.heap a (.tup xs) from I.hok a _ ea)
    obtain ⟨o, h1, h2, _⟩ := p
    exact PySem.W.kia_one PySem.W.kitx_tuple I.kIn ⟨o, h1, h2⟩ e (fun z => nomatch z) h
  | @dK a kvs ea =>
    cases (show u = Value.ref a from rx)
    obtain ⟨_, _, vs, _, p⟩ := (show ObjOk X.prog X.w H s.heap a (.dK kvs) from I.hok a _ ea)
    obtain ⟨o, es, ep, h1, h2, _⟩ := p
    exact PySem.W.kia_one PySem.W.kitx_dict I.kIn ⟨o, h1, h2.1⟩ e (fun z => nomatch z) h
  | @dT a kvs ea =>
    cases (show u = Value.ref a from rx)
    obtain ⟨_, _, xs, _, o, es, ep, h1, h2, _⟩ := (show ObjOk X.prog X.w H s.heap a (.dT kvs) from I.hok a _ ea)
    exact PySem.W.kia_one PySem.W.kitx_dict I.kIn ⟨o, h1, h2.1⟩ e (fun z => nomatch z) h
  | @ins a C dx fs ea cl ha hn htk hm =>
    cases (show u = Value.ref a from rx)
    obtain ⟨mA, O, _⟩ := ins_get I.hok ea
    obtain ⟨od, J, _⟩ := O.look
    exact PySem.W.kia_one (PySem.W.kitx_own (cl.get _) cl.hd ha hn htk hm) I.kIn J e (fun z => nomatch z) h
end
end L2

namespace L2
open PySem PySem.Spec PyProof.Rows

/-! ### room -/
structure Room (k : Nat) (A : Around) : Prop where
  hd : A.handled = none
  dp : A.depth + 3 * k + 5 < recursionLimit
  un : A.units + 16 * k + 200 < cLine
theorem Room.mono {j k : Nat} {A : Around} (r : Room k A) (h : j ≤ k) : Room j A := ⟨r.hd, by have := r.dp; omega, by have := r.un; omega⟩
theorem Room.deeper {k : Nat} {A : Around} (r : Room (k + 1) A) (env : Env) : Room k (A.deeper env) :=
  ⟨r.hd, by have := r.dp; show A.depth + 1 + 3 * k + 5 < _; omega, by have := r.un; show A.units + 3 + 16 * k + 200 < _; omega⟩
theorem Room.in1 {k : Nat} {A : Around} (r : Room (k + 1) A) : Room k A.in1 :=
  ⟨r.hd, by have := r.dp; show A.depth + 3 * k + 5 < _; omega, by have := r.un; show A.units + 1 + 16 * k + 200 < _; omega⟩
theorem make_depth {A : Around} {C : Addr} {us : List Value} {kw : List (Str × Value)} : (A.under (.builtin "type.__call__" ⟨.ref C :: us, kw⟩)).depth = A.depth + 1 := by
  first | rfl | simp [Around.under, Code.weight, Code.isCreation, Code.isGuard, Code.isCaller, Code.frames, Code.isFrame, guardIds]
theorem make_units {A : Around} {C : Addr} {us : List Value} {kw : List (Str × Value)} : (A.under (.builtin "type.__call__" ⟨.ref C :: us, kw⟩)).units = A.units + 1 := by
  first | rfl | simp [Around.under, Code.cUnits, Code.frames, Code.isFrame]
theorem Room.make {k : Nat} {A : Around} (r : Room (k + 1) A) (C : Addr) (us : List Value) (kw : List (Str × Value)) : Room k (A.under (.builtin "type.__call__" ⟨.ref C :: us, kw⟩)) :=
  ⟨r.hd, by have := r.dp; rw [make_depth]; omega, by have := r.un; rw [make_units]; omega⟩
theorem Room.depth {k : Nat} {A : Around} (r : Room k A) : A.depth < recursionLimit := by have := r.dp; omega
theorem Room.units {k : Nat} {A : Around} (r : Room k A) : A.units + 64 < cLine := by have := r.un; omega
theorem Room.units0 {k : Nat} {A : Around} (r : Room k A) : A.units < cLine := by have := r.un; omega

/-! ### argument lists and displays -/
def tNil : TA := fun _ H Q => Q [] H
def tCons (ta : TE) (tr : TA) : TA := fun σ H Q => ta σ H fun x H1 => tr σ H1 fun xs H2 => Q (x :: xs) H2
section
variable {X : Cx} {e : Expr} {es : List Expr} {te : TE} {t : TA} {pos : Pos}
theorem pa_nil : PA X [] tNil := fun _ _ _ _ H Q I h => Calls.spliced_nil ⟨[], H, I, .nil, h⟩
theorem pa_cons (ha : PE X e te) (hr : PA X es t) (hs : starEach (e :: es) X.env = (false, eval e X.env) :: starEach es X.env := by rfl) : PA X (e :: es) (tCons te t) := by
  intro pos pins s σ H Q I h
  rw [hs]
  show wpAny _ _ (spliced ((false, eval e X.env) :: backTo pos (starEach es X.env))) _ _ s
  refine Calls.spliced_cons (thn (ha pins s σ H _ I h) fun u s1 ⟨x, H1, I1, r1, q1⟩ => ?_)
  exact thn (hr pos pins s1 σ H1 _ I1 q1) fun us s2 ⟨xs, H2, I2, r2, q2⟩ => ⟨x :: xs, H2, I2, .cons r1 r2, q2⟩

/-- a tuple, a list of written items -/
def tTup (t : TA) : TE := fun σ H Q => t σ H fun xs H1 => xs.length ≤ sizeLine ∧ ∀ p, H1 p = none → Q (.ref p) (upd H1 p (.tup xs))
def tLst (t : TA) : TE := fun σ H Q => t σ H fun xs H1 => xs.length ≤ sizeLine ∧ ∀ p, H1 p = none → Q (.ref p) (upd H1 p (.lst xs))
theorem pe_tup {x1} (h : PA X es t) : PE X (.Tuple es x1 pos) (tTup t) := by
  intro pins s σ H Q I hq
  refine wpAny_Tuple_spliced (thn (h pos pins s σ H _ I hq) fun us s1 ⟨xs, H1, I1, r, z, q⟩ => ⟨by rw [← r.length]; exact z, ?_⟩)
  have hf : H1 s1.heap.objs.size = none := I1.hok.fresh (Nat.le_refl _)
  refine ⟨.ref s1.heap.objs.size, upd H1 s1.heap.objs.size (.tup xs), I1.laid (t' := s1.toks) (fun b u e => Heap.get?_push_of_some _ e) (Nat.le_refl _) ?_, rfl, q _ hf⟩
  exact ⟨z, us, r, ⟨_, Heap.get?_push_size _ rfl, rfl, _, rfl⟩⟩
theorem pe_lst (h : PA X es t) : PE X (.List es pos) (tLst t) := by
  intro pins s σ H Q I hq
  refine wpAny_List_spliced (thn (h pos pins s σ H _ I hq) fun us s1 ⟨xs, H1, I1, r, z, q⟩ => ⟨by rw [← r.length]; exact z, ?_⟩)
  have hf : H1 s1.heap.objs.size = none := I1.hok.fresh (Nat.le_refl _)
  refine ⟨.ref s1.heap.objs.size, upd H1 s1.heap.objs.size (.lst xs), I1.laid (t' := s1.toks) (fun b u e => Heap.get?_push_of_some _ e) (Nat.le_refl _) ?_, rfl, q _ hf⟩
  exact ⟨z, us, 0, r, Heap.get?_push_size _ rfl⟩
end

/-! ### what a def promises -/
/-- a def's promise: the bound arguments in the parameters' order, the heap, the wanted end, the wanted exception -/
abbrev Sp := List V → Hp → VK → XK → Prop
/-- how an exception lies behind a call (file 08 gives it): the callers' frames, abstract heap and state ahead of the call, the wish, the exception, the state -/
abbrev CXT := List Env → Hp → Shared → XK → Value → Shared → Prop

/-- the state at a call -/
structure Env0 (P : Program) (w : World) (K : PySem.W.Frag) (mg : Str → Option Value) (base : Heap) (A : Around) (outer : List Env) (s : Shared) (H : Hp) : Prop where
  frames : A.frames = some outer
  mod : Mod K mg base
  bs : ∀ b o, base.get? b = some o → s.heap.get? b = some o ∧ H b = none
  bsz : base.objs.size ≤ s.heap.objs.size
  funs : s.heap.FunFrames base outer
  frf : ∀ b ∈ frs outer, H b = none
  hok : HOk P w H s.heap
  bare : AllBare s.gens
/-- a call's end -/
def CE (outer : List Env) (P : Program) (w : World) (H : Hp) (s : Shared) (Q : VK) (u : Value) (s' : Shared) : Prop :=
  ∃ v H', s'.os = s.os ∧ AllBare s'.gens ∧ Un (frs outer) [] H H' s.heap s'.heap ∧ HOk P w H' s'.heap ∧ RelV v u ∧ Q v H'
def CR (CX : CXT) (outer : List Env) (P : Program) (w : World) (H : Hp) (s : Shared) (Q : VK) (E : XK) (r : Result) (s' : Shared) : Prop :=
  match r with
  | .ok (.ret u) => CE outer P w H s Q u s'
  | .ok _ => False
  | .error e => CX outer H s E e s'
structure FnOk (P : Program) (w : World) (K : PySem.W.Frag) (mg : Str → Option Value) (base : Heap) (CX : CXT) (k : Nat) (f : Addr) (fd : FuncData) (ps : List Str) (sp : Sp) : Prop where
  len : ∀ vs H Q E, sp vs H Q E → vs.length = ps.length
  run : ∀ (A : Around) (outer : List Env) (s : Shared) (H : Hp) (args : Args) (us : List Value) (vs : List V) (Q : VK) (E : XK), Room k A → Env0 P w K mg base A outer s H → BindsTo s fd args (ps.zip us) → Vals vs us → sp vs H Q E →
    codeAny (model P w) A (.call (.ref f) args) (CR CX outer P w H s Q E) s
theorem FnOk.mono {P : Program} {w : World} {K : PySem.W.Frag} {mg : Str → Option Value} {base : Heap} {CX : CXT} {j k : Nat} {f : Addr} {fd : FuncData} {ps : List Str} {sp : Sp} (F : FnOk P w K mg base CX j f fd ps sp) (h : j ≤ k) :
    FnOk P w K mg base CX k f fd ps sp := ⟨F.len, fun A outer s H args us vs Q E hr => F.run A outer s H args us vs Q E (hr.mono h)⟩
/-- a weaker promise -/
theorem FnOk.imp {P : Program} {w : World} {K : PySem.W.Frag} {mg : Str → Option Value} {base : Heap} {CX : CXT} {k : Nat} {f : Addr} {fd : FuncData} {ps : List Str} {sp sp' : Sp} (F : FnOk P w K mg base CX k f fd ps sp)
    (h : ∀ vs H Q E, sp' vs H Q E → sp vs H Q E) : FnOk P w K mg base CX k f fd ps sp' :=
  ⟨fun vs H Q E q => F.len vs H Q E (h _ _ _ _ q), fun A outer s H args us vs Q E hr he hb hv hs => F.run A outer s H args us vs Q E hr he hb hv (h _ _ _ _ hs)⟩

theorem Env0.make {P : Program} {w : World} {K : PySem.W.Frag} {mg : Str → Option Value} {base : Heap} {A : Around} {outer : List Env} {s : Shared} {H : Hp} (e : Env0 P w K mg base A outer s H) (C : Addr) (us : List Value) (kw : List (Str × Value)) :
    Env0 P w K mg base (A.under (.builtin "type.__call__" ⟨.ref C :: us, kw⟩)) outer s H := ⟨by first | exact e.frames | (simpa [Around.under, Code.envs, Code.isFrame, pushEnvs] using e.frames), e.mod, e.bs, e.bsz, e.funs, e.frf, e.hok, e.bare⟩
theorem Env0.in1 {P : Program} {w : World} {K : PySem.W.Frag} {mg : Str → Option Value} {base : Heap} {A : Around} {outer : List Env} {s : Shared} {H : Hp} (e : Env0 P w K mg base A outer s H) :
    Env0 P w K mg base A.in1 outer s H := ⟨e.frames, e.mod, e.bs, e.bsz, e.funs, e.frf, e.hok, e.bare⟩

section
variable {X : Cx} {pins : List (Addr × Obj)} {σ : St} {H : Hp} {s s' : Shared}
/-- from a body: what a callee wants -/
theorem Inv.env0 (I : Inv X pins σ H s) : Env0 X.prog X.w X.K X.mg X.base X.A X.stack s H :=
  ⟨I.ok.frames, I.ok.mod, I.bs, Nat.le_trans I.ok.bsz I.sz, I.stack, I.stkFree, I.hok, I.bare⟩
/-- behind a call -/
theorem Inv.after {Q : VK} {u : Value} (I : Inv X pins σ H s) (h : CE X.stack X.prog X.w H s Q u s') : EP X pins σ Q u s' := by
  obtain ⟨v, H', os, bare, un, hok, r, q⟩ := h
  obtain ⟨hh, g, d, t, os'⟩ := s'
  obtain rfl : os' = s.os := os
  exact ⟨v, H', I.call (h' := hh) (g' := g) (d' := d) (t' := t) (ch := []) un hok bare (fun b z => absurd z (by simp)), r, q⟩
end

/-! ### calls -/
/-- f(..): the written arguments, then the defaults dvs; E: what is wanted of an exception -/
def tCall (sp : Sp) (dvs : List V) (E : XK) (t : TA) : TE := fun σ H Q => t σ H fun vs H1 => sp (vs ++ dvs) H1 Q E
/-- o.m(..) of an instance of the class at C -/
def tMeth (C : Addr) (m : Str) (sp : Sp) (dvs : List V) (E : XK) (ta : TE) (t : TA) : TE := fun σ H Q => ta σ H fun x H1 => ∃ a dx fs, x = .ref a ∧ H1 a = some (.ins C dx fs) ∧ fs.lookup m = none ∧
  t σ H1 fun vs H2 => sp (x :: (vs ++ dvs)) H2 Q E
/-- C(..): a new instance and its dict, then __init__ -/
def tMake (C : Addr) (sp : Sp) (dvs : List V) (E : XK) (t : TA) : TE := fun σ H Q => t σ H fun vs H1 => ∀ x dx, H1 x = none → H1 dx = none → dx ≠ x →
  sp (.ref x :: (vs ++ dvs)) (upd (upd H1 dx (.own x)) x (.ins C dx [])) (fun v H2 => v = .non ∧ Q (.ref x) H2) E

/-- how the parameters are bound: us the positional arguments, kw the keywords' values by name, ds the defaults that fill up -/
def Binds (K : PySem.W.Frag) (fd : FuncData) (ps : List Str) (ds : List Value) : Prop :=
  ∀ (s : Shared) (us : List Value), K.In s.heap → (us ++ ds).length = ps.length → BindsTo s fd ⟨us, []⟩ (ps.zip (us ++ ds))
/-- every parameter is given -/
theorem Binds.all {K : PySem.W.Frag} {fd : FuncData} {ps : List Str} (h : ∀ us : List Value, us.length = ps.length → bindArgs fd ⟨us, []⟩ = pure (ps.zip us)) : Binds K fd ps [] := fun s us _ hl => by
  rw [List.append_nil] at hl ⊢
  exact .of_eq (h us hl)

/-- an exception of a callee reaches what this body wants of exceptions -/
def Passes (CX : CXT) (X : Cx) (E : XK) : Prop := ∀ (pins : List (Addr × Obj)) (σ : St) (H : Hp) (s : Shared) (e : Value) (s' : Shared), Inv X pins σ H s → CX X.stack H s E e s' → X.xe e s'

section
variable {X : Cx} {CX : CXT} {k : Nat} {f C : Addr} {fd : FuncData} {ps : List Str} {sp : Sp} {dvs : List V} {ds : List Value} {E : XK} {x m : Str} {p pos apos : Pos} {e o : Expr} {es : List Expr} {ta : TE} {t : TA}

/-- the callee runs -/
theorem run_fn {pins : List (Addr × Obj)} {σ : St} {H : Hp} {s : Shared} {Q : VK} {us : List Value} {vs : List V} (F : FnOk X.prog X.w X.K X.mg X.base CX k f fd ps sp) (hr : Room k X.A) (hb : Binds X.K fd ps ds) (hd : Vals dvs ds) (hx : Passes CX X E)
    (I : Inv X pins σ H s) (r : Vals vs us) (h : sp (vs ++ dvs) H Q E) : wpAny (model X.prog X.w) X.A (call (.ref f) us) (EP X pins σ Q) X.xe s := by
  have r2 : Vals (vs ++ dvs) (us ++ ds) := r.append hd
  have hl : (us ++ ds).length = ps.length := by rw [← r2.length]; exact F.len _ _ _ _ h
  refine wpAny_call (codeAny_mono (F.run X.A X.stack s H ⟨us, []⟩ (us ++ ds) (vs ++ dvs) Q E hr I.env0 (hb s us I.kIn hl) r2 h) fun r s' hq => ?_)
  cases r with
  | error e => exact hx pins σ H s e s' I hq
  | ok fl =>
    cases fl with
    | ret u => exact I.after hq
    | next => exact False.elim hq
    | brk => exact False.elim hq
    | cont => exact False.elim hq

theorem pe_call (F : FnOk X.prog X.w X.K X.mg X.base CX k f fd ps sp) (hr : Room k X.A) (hg : Gl X x) (hm : X.mg x = some (.ref f)) (hk : PySem.W.keepIn X.K (.ref f) = true) (hb : Binds X.K fd ps ds) (hd : Vals dvs ds) (hx : Passes CX X E)
    (ha : PA X (e :: es) t) (hdb : (x == ("__debug__" : Str)) = false := by decide) (he : starEach (e :: es) X.env = (false, eval e X.env) :: starEach es X.env := by rfl) (hpl : (backTo pos (starEach es X.env)).any (·.1) = false := by rfl) :
    PE X (.Call (.Name x p) (e :: es) [] pos) (tCall sp dvs E t) := by
  intro pins s σ H Q I h
  refine wpAny_Call_Name_kw (ld_glob I hg hm ?_ hdb)
  refine PySem.W.callWith_K (h₀ := X.base) I.ok.mod.kin hk (thn (ha pos pins s σ H _ I h) fun us s1 ⟨vs, H1, I1, r, q⟩ => ⟨I1.kIn, ?_⟩) he hpl
  exact run_fn F hr hb hd hx I1 r q
theorem pe_call0 (F : FnOk X.prog X.w X.K X.mg X.base CX k f fd ps sp) (hr : Room k X.A) (hg : Gl X x) (hm : X.mg x = some (.ref f)) (hk : PySem.W.keepIn X.K (.ref f) = true) (hb : Binds X.K fd ps ds) (hd : Vals dvs ds) (hx : Passes CX X E)
    (hdb : (x == ("__debug__" : Str)) = false := by decide) : PE X (.Call (.Name x p) [] [] pos) (tCall sp dvs E tNil) := by
  intro pins s σ H Q I h
  refine wpAny_Call_Name_kw (ld_glob I hg hm ?_ hdb)
  exact PySem.W.callWith_K0 I.kIn hk (run_fn (us := []) F hr hb hd hx I .nil h)

/-- o.m(e, ..) -/
theorem pe_meth {pl : Sem Bool} (he : PE X o ta) (c : Cls X.K C) (hm : Meth X.K C m f) (F : FnOk X.prog X.w X.K X.mg X.base CX k f fd ps sp) (hr : Room k X.A) (hb : Binds X.K fd ps ds) (hd : Vals dvs ds) (hx : Passes CX X E) (ha : PA X (e :: es) t)
    (hst : starEach (e :: es) X.env = (false, eval e X.env) :: starEach es X.env := by rfl) (hpl : (backTo pos (starEach es X.env)).any (·.1) = false := by rfl)
    (ht : eval (.Call (.Attribute o m apos) (e :: es) [] pos) X.env = (do
      let ov ← eval o X.env
      standAt apos.atName
      let (f, first) ← holding [ov] (getMethod ov m pl)
      callWith pos f first (backTo pos (starEach (e :: es) X.env)) (backToKw pos (keywordEach [] X.env))) := by rfl) :
    PE X (.Call (.Attribute o m apos) (e :: es) [] pos) (tMeth C m sp dvs E ta t) := by
  intro pins s σ H Q I h
  refine PySem.W.methodCall_KW (pl := pl) (thn (he pins s σ H _ I h) fun u s1 ⟨x, H1, I1, rx, a, dx, fs, ex, ea, l, q⟩ => ?_) ht
  subst ex
  obtain rfl : u = Value.ref a := rx
  refine getmeth_ok I1 ea c hm l ?_
  refine PySem.W.callWith_K (first := [.ref a]) (h₀ := X.base) I.ok.mod.kin hm.kp (thn (ha pos pins s1 σ H1 _ I1 q) fun us s2 ⟨vs, H2, I2, r, q2⟩ => ⟨I2.kIn, ?_⟩) hst hpl
  exact run_fn (us := .ref a :: us) (vs := .ref a :: vs) F hr hb hd hx I2 (.cons rfl r) q2
/-- o.m() -/
theorem pe_meth0 {pl : Sem Bool} (he : PE X o ta) (c : Cls X.K C) (hm : Meth X.K C m f) (F : FnOk X.prog X.w X.K X.mg X.base CX k f fd ps sp) (hr : Room k X.A) (hb : Binds X.K fd ps ds) (hd : Vals dvs ds) (hx : Passes CX X E)
    (ht : eval (.Call (.Attribute o m apos) [] [] pos) X.env = (do
      let ov ← eval o X.env
      standAt apos.atName
      let (f, first) ← holding [ov] (getMethod ov m pl)
      callWith pos f first (backTo pos (starEach [] X.env)) (backToKw pos (keywordEach [] X.env))) := by rfl) :
    PE X (.Call (.Attribute o m apos) [] [] pos) (tMeth C m sp dvs E ta tNil) := by
  intro pins s σ H Q I h
  refine PySem.W.methodCall_KW (pl := pl) (thn (he pins s σ H _ I h) fun u s1 ⟨x, H1, I1, rx, a, dx, fs, ex, ea, l, q⟩ => ?_) ht
  subst ex
  obtain rfl : u = Value.ref a := rx
  refine getmeth_ok I1 ea c hm l ?_
  exact PySem.W.callWith_K0 (first := [.ref a]) I1.kIn hm.kp (run_fn (us := [.ref a]) (vs := [.ref a]) F hr hb hd hx I1 (.cons rfl .nil) q)

/-- what a class must have to be made -/
structure Mk (K : PySem.W.Frag) (C f : Addr) : Prop where
  makes : PySem.W.makesIn K C = true
  init : PySem.W.findIn K (.ref C) "__init__" = some (some (.ref f))
  fn : PySem.W.isFn K (.ref f) = true
  kp : PySem.W.keepIn K (.ref C) = true

theorem run_make {pins : List (Addr × Obj)} {σ : St} {H : Hp} {s : Shared} {Q : VK} {us : List Value} {vs : List V} (M : Mk X.K C f) (F : FnOk X.prog X.w X.K X.mg X.base CX k f fd ps sp) (hr : Room (k + 1) X.A) (hb : Binds X.K fd ps ds) (hd : Vals dvs ds)
    (hx : Passes CX X E) (I : Inv X pins σ H s) (r : Vals vs us)
    (h : ∀ x dx, H x = none → H dx = none → dx ≠ x → sp (.ref x :: (vs ++ dvs)) (upd (upd H dx (.own x)) x (.ins C dx [])) (fun v H2 => v = .non ∧ Q (.ref x) H2) E) :
    wpAny (model X.prog X.w) X.A (call (.ref C) us) (EP X pins σ Q) X.xe s := by
  have hq := h (s.heap.objs.size + 1) s.heap.objs.size (I.hok.fresh (Nat.le_succ _)) (I.hok.fresh (Nat.le_refl _)) (Nat.ne_of_lt (Nat.lt_succ_self _))
  have I2 := Inv.made (C := C) I
  have r2 : Vals (V.ref (s.heap.objs.size + 1) :: (vs ++ dvs)) (Value.ref (s.heap.objs.size + 1) :: (us ++ ds)) := .cons rfl (r.append hd)
  have hl : (Value.ref (s.heap.objs.size + 1) :: us ++ ds).length = ps.length := by
    have e := r2.length
    rw [F.len _ _ _ _ hq] at e
    exact e.symm
  refine wpAny_call (make_map (f := f) I.kIn M.makes M.init (beq_iff_eq.mp M.fn) (codeAny_mono (F.run _ X.stack _ _ ⟨Value.ref (s.heap.objs.size + 1) :: us, []⟩ (Value.ref (s.heap.objs.size + 1) :: (us ++ ds)) _ _ E (hr.make C us [])
    (I2.env0.make C us []) (hb _ (Value.ref (s.heap.objs.size + 1) :: us) I2.kIn hl) r2 hq) fun r s' hq' => ?_))
  cases r with
  | error e => exact hx pins σ _ _ e s' I2 hq'
  | ok fl =>
    cases fl with
    | ret u =>
      obtain ⟨v, H', I3, rv, ev, q3⟩ := I2.after hq'
      subst ev
      exact ⟨rv, ⟨V.ref (s.heap.objs.size + 1), H', I3, rfl, q3⟩⟩
    | next => exact False.elim hq'
    | brk => exact False.elim hq'
    | cont => exact False.elim hq'
theorem pe_make (M : Mk X.K C f) (F : FnOk X.prog X.w X.K X.mg X.base CX k f fd ps sp) (hr : Room (k + 1) X.A) (hg : Gl X x) (hm : X.mg x = some (.ref C)) (hb : Binds X.K fd ps ds) (hd : Vals dvs ds) (hx : Passes CX X E)
    (ha : PA X (e :: es) t) (hdb : (x == ("__debug__" : Str)) = false := by decide) (he : starEach (e :: es) X.env = (false, eval e X.env) :: starEach es X.env := by rfl) (hpl : (backTo pos (starEach es X.env)).any (·.1) = false := by rfl) :
    PE X (.Call (.Name x p) (e :: es) [] pos) (tMake C sp dvs E t) := by
  intro pins s σ H Q I h
  refine wpAny_Call_Name_kw (ld_glob I hg hm ?_ hdb)
  refine PySem.W.callWith_K (h₀ := X.base) I.ok.mod.kin M.kp (thn (ha pos pins s σ H _ I h) fun us s1 ⟨vs, H1, I1, r, q⟩ => ⟨I1.kIn, ?_⟩) he hpl
  exact run_make M F hr hb hd hx I1 r q
theorem pe_make0 (M : Mk X.K C f) (F : FnOk X.prog X.w X.K X.mg X.base CX k f fd ps sp) (hr : Room (k + 1) X.A) (hg : Gl X x) (hm : X.mg x = some (.ref C)) (hb : Binds X.K fd ps ds) (hd : Vals dvs ds) (hx : Passes CX X E)
    (hdb : (x == ("__debug__" : Str)) = false := by decide) : PE X (.Call (.Name x p) [] [] pos) (tMake C sp dvs E tNil) := by
  intro pins s σ H Q I h
  refine wpAny_Call_Name_kw (ld_glob I hg hm ?_ hdb)
  exact PySem.W.callWith_K0 I.kIn M.kp (run_make (us := []) M F hr hb hd hx I .nil h)
end

/-! ### keywords -/
/-- the values of the keywords, from the left -/
def PK (X : Cx) (kws : List Keyword) (t : TA) : Prop :=
  ∀ (pos : Pos) (pins : List (Addr × Obj)) (s : Shared) (σ : St) (H : Hp) (Q : List V → Hp → Prop), Inv X pins σ H s → t σ H Q → wpAny (model X.prog X.w) X.A (evalAll ((backToKw pos (keywordEach kws X.env)).map (·.2))) (AP X pins σ Q) X.xe s
section
variable {X : Cx} {CX : CXT} {k : Nat} {f C : Addr} {fd : FuncData} {ps ks : List Str} {sp : Sp} {E : XK} {x m : Str} {p pos apos kpos : Pos} {e o : Expr} {es : List Expr} {kws : List Keyword} {te ta : TE} {t tk : TA} {nm : Option Str}
theorem pk_nil : PK X [] tNil := fun _ _ _ _ H Q I h => wpAny_evalAll_nil ⟨[], H, I, .nil, h⟩
theorem pk_cons (ha : PE X e te) (hr : PK X kws t) : PK X (⟨nm, e, kpos⟩ :: kws) (tCons te t) := by
  intro pos pins s σ H Q I h
  show wpAny _ _ (evalAll ((do let v ← eval e X.env; standAt pos; pure v) :: (backToKw pos (keywordEach kws X.env)).map (·.2))) _ _ s
  refine wpAny_evalAll_cons (wpAny_bind (thn (ha pins s σ H _ I h) fun u s1 ⟨x, H1, I1, r1, q1⟩ => wpAny_bind (wpAny_standAt (wpAny_pure ?_))))
  exact thn (hr pos pins s1 σ H1 _ I1 q1) fun us s2 ⟨xs, H2, I2, r2, q2⟩ => ⟨x :: xs, H2, I2, .cons r1 r2, q2⟩

/-- how a call with keywords binds: g puts the positional values us and the keywords' values ws (names ks) in the parameters' order, defaults among them -/
structure KBinds (K : PySem.W.Frag) (fd : FuncData) (ps ks : List Str) (g : List Value → List Value → List Value) (gV : List V → List V → List V) : Prop where
  to : ∀ (s : Shared) (us ws : List Value), K.In s.heap → (g us ws).length = ps.length → BindsTo s fd ⟨us, ks.zip ws⟩ (ps.zip (g us ws))
  rel : ∀ {vs : List V} {us : List Value} {zs : List V} {ws : List Value}, Vals vs us → Vals zs ws → Vals (gV vs zs) (g us ws)
def tCallK (sp : Sp) (gV : List V → List V → List V) (E : XK) (t tk : TA) : TE := fun σ H Q => t σ H fun vs H1 => tk σ H1 fun zs H2 => sp (gV vs zs) H2 Q E
variable {g : List Value → List Value → List Value} {gV : List V → List V → List V}
theorem run_fnk {pins : List (Addr × Obj)} {σ : St} {H : Hp} {s : Shared} {Q : VK} {us ws : List Value} {vs zs : List V} (F : FnOk X.prog X.w X.K X.mg X.base CX k f fd ps sp) (hr : Room k X.A) (hb : KBinds X.K fd ps ks g gV) (hx : Passes CX X E)
    (I : Inv X pins σ H s) (r : Vals vs us) (rz : Vals zs ws) (h : sp (gV vs zs) H Q E) : wpAny (model X.prog X.w) X.A (call (.ref f) us (ks.zip ws)) (EP X pins σ Q) X.xe s := by
  have r2 := hb.rel r rz
  have hl : (g us ws).length = ps.length := by rw [← r2.length]; exact F.len _ _ _ _ h
  refine wpAny_call (codeAny_mono (F.run X.A X.stack s H ⟨us, ks.zip ws⟩ (g us ws) (gV vs zs) Q E hr I.env0 (hb.to s us ws I.kIn hl) r2 h) fun r s' hq => ?_)
  cases r with
  | error e => exact hx pins σ H s e s' I hq
  | ok fl =>
    cases fl with
    | ret u => exact I.after hq
    | next => exact False.elim hq
    | brk => exact False.elim hq
    | cont => exact False.elim hq
/-- f(e, .., k = v, ..) -/
theorem pe_callK (F : FnOk X.prog X.w X.K X.mg X.base CX k f fd ps sp) (hr : Room k X.A) (hg : Gl X x) (hm : X.mg x = some (.ref f)) (hk : PySem.W.keepIn X.K (.ref f) = true) (hb : KBinds X.K fd ps ks g gV) (hx : Passes CX X E)
    (ha : PA X (e :: es) t) (hkw : PK X kws tk) (hall : (backToKw pos (keywordEach kws X.env)).all (·.1.isSome) = true := by rfl) (hks : (backToKw pos (keywordEach kws X.env)).filterMap (·.1) = ks := by rfl)
    (hdb : (x == ("__debug__" : Str)) = false := by decide) (he : starEach (e :: es) X.env = (false, eval e X.env) :: starEach es X.env := by rfl)
    (hpl : ((backTo pos (starEach (e :: es) X.env)).any (·.1) || (backToKw pos (keywordEach kws X.env)).any (·.1.isNone)) = false := by rfl) :
    PE X (.Call (.Name x p) (e :: es) kws pos) (tCallK sp gV E t tk) := by
  intro pins s σ H Q I h
  refine wpAny_Call_Name_kw (ld_glob I hg hm ?_ hdb)
  refine PySem.W.callWith_KW (h₀ := X.base) I.ok.mod.kin hk hall (thn (ha pos pins s σ H _ I h) fun us s1 ⟨vs, H1, I1, r, q⟩ => ?_) hpl he
  refine thn (hkw pos pins s1 σ H1 _ I1 q) fun ws s2 ⟨zs, H2, I2, rz, q2⟩ => ⟨I2.kIn, ?_⟩
  rw [hks]
  exact run_fnk F hr hb hx I2 r rz q2
end

/-! ### a def's body keeps its promise -/
/-- names: the parameters first -/
structure FnScope (N P : List Str) (sc : Scope) : Prop where
  kind : sc.kind = .function
  co : sc.isCoroutine = false
  gen : sc.isGenerator = false
  nd : N.Nodup
  pre : N.take P.length = P
  par : ∀ x ∈ P, sc.names.lookup x = some .local ∨ sc.names.lookup x = some .cell
  nofree : ∀ y ∈ sc.names, y.2 ≠ .free

theorem bindL_out {kindOf : Str → Option NameKind} {x : Str} : ∀ {binds : List (Str × Value)} {m : Str → Option Value}, (∀ v, (x, v) ∉ binds) → bindL kindOf binds m x = m x
  | [], _, _ => rfl
  | (n, v) :: r, m, h => by
    unfold bindL
    rw [bindL_out fun w hw => h w (List.mem_cons_of_mem _ hw)]
    split
    · have : x ≠ n := by rintro rfl; exact h v List.mem_cons_self
      simp [this]
    · rfl
theorem bindC_out {kindOf : Str → Option NameKind} {x : Str} : ∀ {binds : List (Str × Value)} {m : Str → Option Value}, (∀ v, (x, v) ∉ binds) → bindC kindOf binds m x = m x
  | [], _, _ => rfl
  | (n, v) :: r, m, h => by
    unfold bindC
    rw [bindC_out fun w hw => h w (List.mem_cons_of_mem _ hw)]
    split
    · rfl
    · have : x ≠ n := by rintro rfl; exact h v List.mem_cons_self
      simp [this]
theorem bindL_get {kindOf : Str → Option NameKind} {x : Str} {v : Value} : ∀ {P : List Str} {vs : List Value} {i : Nat} {m : Str → Option Value}, P.Nodup → P[i]? = some x → vs[i]? = some v → kindOf x = some .local →
    bindL kindOf (P.zip vs) m x = some v
  | [], _, _, _, _, h, _, _ => by simp at h
  | _ :: _, [], _, _, _, _, h, _ => by simp at h
  | p :: P, w :: vs, 0, m, nd, h1, h2, hk => by
    simp at h1 h2; subst h1; subst h2
    show bindL kindOf ((p, w) :: P.zip vs) m p = _
    unfold bindL
    rw [bindL_out fun v hv => (List.nodup_cons.mp nd).1 (List.of_mem_zip hv).1, if_pos hk]
    simp
  | p :: P, w :: vs, i + 1, m, nd, h1, h2, hk => by
    show bindL kindOf ((p, w) :: P.zip vs) m x = _
    unfold bindL
    exact bindL_get (i := i) (List.nodup_cons.mp nd).2 (by simpa using h1) (by simpa using h2) hk
theorem bindC_get {kindOf : Str → Option NameKind} {x : Str} {v : Value} : ∀ {P : List Str} {vs : List Value} {i : Nat} {m : Str → Option Value}, P.Nodup → P[i]? = some x → vs[i]? = some v → kindOf x ≠ some .local →
    bindC kindOf (P.zip vs) m x = some v
  | [], _, _, _, _, h, _, _ => by simp at h
  | _ :: _, [], _, _, _, _, h, _ => by simp at h
  | p :: P, w :: vs, 0, m, nd, h1, h2, hk => by
    simp at h1 h2; subst h1; subst h2
    show bindC kindOf ((p, w) :: P.zip vs) m p = _
    unfold bindC
    rw [bindC_out fun v hv => (List.nodup_cons.mp nd).1 (List.of_mem_zip hv).1, if_neg hk]
    simp
  | p :: P, w :: vs, i + 1, m, nd, h1, h2, hk => by
    show bindC kindOf ((p, w) :: P.zip vs) m x = _
    unfold bindC
    exact bindC_get (i := i) (List.nodup_cons.mp nd).2 (by simpa using h1) (by simpa using h2) hk

/-- the names' values at the entry -/
def start (N : List Str) (vs : List V) : St := vs.map some ++ List.replicate (N.length - vs.length) none

/-- the context of a def's body, at its entry; an exception leaves the frame, then lies as CX says -/
def cxOf (CX : CXT) (P : Program) (w : World) (K : PySem.W.Frag) (mg : Str → Option Value) (base : Heap) (N : List Str) (qual : Str) (scope : Scope) (f : Addr) (cd : Value) (A : Around) (outer : List Env) (s : Shared) (H : Hp) (E : XK) : Cx where
  prog := P
  w := w
  K := K
  mg := mg
  base := base
  A := A.deeper (envOfC qual scope s.heap.objs.size f cd)
  N := N
  s₀ := s
  H₀ := H
  env := envOfC qual scope s.heap.objs.size f cd
  outer := outer
  stack := envOfC qual scope s.heap.objs.size f cd :: outer
  ex := []
  calm := true
  fn := fun _ => true
  pn := []
  xe := fun e s' => wpAny (model P w) (A.deeper (envOfC qual scope s.heap.objs.size f cd)) (leaving (envOfC qual scope s.heap.objs.size f cd) e) (fun _ s'' => CX outer H s E e s'') (fun e' s'' => CX outer H s E e' s'') s'

theorem cell_has {sc : Scope} {n : Nat} {x : Str} (h : sc.names.lookup x = some .cell) : ∃ c, (cellsFrom n sc.names []).lookup x = some c := by
  have q := PySem.W.cellsFrom_some sc.names n [] (.inl h)
  exact Option.isSome_iff_exists.mp q

theorem inv_start {CX : CXT} {P : Program} {w : World} {K : PySem.W.Frag} {mg : Str → Option Value} {base : Heap} {N ps : List Str} {qual : Str} {scope : Scope} {f : Addr} {cd : Value} {A : Around} {outer : List Env} {s s1 : Shared} {H : Hp} {E : XK} {us : List Value} {vs : List V}
    (S : FnScope N ps scope) (hd : A.handled = none) (e0 : Env0 P w K mg base A outer s H) (hl : vs.length = ps.length) (r : Vals vs us)
    (x : InCallC s s.heap.objs.size (bindL (envOfC qual scope s.heap.objs.size f cd).kindOf (ps.zip us) fun _ => none) (cellsFrom (s.heap.objs.size + 1) scope.names []) (bindC (envOfC qual scope s.heap.objs.size f cd).kindOf (ps.zip us) fun _ => none) s1) :
    Inv (cxOf CX P w K mg base N qual scope f cd A outer s H E) [] (start N vs) H s1 := by
  have hpl : ps.length ≤ N.length := by have := congrArg List.length S.pre; rw [List.length_take] at this; omega
  obtain ⟨h1, tk, rfl, hk⟩ := x.done
  have noA : ∀ b : Addr, b ∉ (cxOf CX P w K mg base N qual scope f cd A outer s H E).ex := fun b z => absurd (show b ∈ ([] : List Addr) from z) (by simp)
  refine ⟨⟨e0.mod, S.kind, rfl, rfl, Nat.le_refl _, fun y z c h1 h2 => ?_, fun y hy => ?_, fun y c _ h => ?_, fun _ => hd, Around.frames_deeper e0.frames, .inr ⟨rfl, rfl⟩, fun b z => absurd z (noA b), e0.bs, e0.bsz, fun b _ _ => noA b, fun b z => absurd z (noA b), e0.funs, e0.frf⟩,
    rfl, e0.bare, Un.kept hk, ⟨_, x.toInCall.ns, fun i y v h1 h2 h3 => ?_⟩, fun y c h => ⟨_, x.cell y c h⟩, e0.hok.fresh (Nat.le_refl _), fun y c h => ?_, fun p hp => absurd (show p ∈ ([] : List (Addr × Obj)) from hp) (by simp), e0.hok.kept hk, ?_⟩
  · exact name_of_addr x.apart (PySem.mem_of_lookup h1) (PySem.mem_of_lookup h2)
  · have hy : scope.names.lookup y = some .cell ∨ scope.names.lookup y = some .free := hy
    rcases hy with hy | hy
    · exact cell_has hy
    · exact absurd rfl (S.nofree _ (PySem.mem_of_lookup hy))
  · exact Nat.le_of_lt (x.above y c (PySem.mem_of_lookup h))
  · have hi : i < vs.length := by
      unfold start at h2
      by_cases hi : i < vs.length
      · exact hi
      · rw [List.getElem?_append_right (by simpa using hi)] at h2
        rw [List.getElem?_replicate] at h2
        split at h2 <;> cases h2
    have ha : vs[i]? = some v := by
      unfold start at h2
      rw [List.getElem?_append_left (by simpa using hi), List.getElem?_map] at h2
      cases e : vs[i]? with
      | none => rw [e] at h2; cases h2
      | some a => rw [e] at h2; cases h2; rfl
    obtain ⟨u, hu, rv⟩ := r.get ha
    have hp : ps[i]? = some y := by
      rw [← S.pre, List.getElem?_take_of_lt (by omega)]; exact h1
    have ndP : ps.Nodup := by rw [← S.pre]; exact S.nd.sublist (List.take_sublist _ _)
    refine ⟨u, rv, ?_⟩
    rcases S.par y (List.mem_of_getElem? hp) with k | k
    · exact .inl ⟨k, bindL_get ndP hp hu k⟩
    · obtain ⟨c, e⟩ := cell_has (n := s.heap.objs.size + 1) k
      refine .inr ⟨.inl k, c, e, ?_⟩
      have q := x.cell y c e
      rw [bindC_get ndP hp hu (by show scope.names.lookup y ≠ _; rw [k]; decide)] at q
      exact q
  · exact e0.hok.fresh (Nat.le_of_lt (x.above y c (PySem.mem_of_lookup h)))
  · unfold start
    show _ = N.length
    rw [List.length_append, List.length_map, List.length_replicate]
    omega

/-- THE RULE: a def (or a method) of the text, by its body. The body's reading t is chosen for each entry; it is run at the parameters' values -/
theorem fn_of {CX : CXT} {P : Program} {w : World} {K : PySem.W.Frag} {mg : Str → Option Value} {base : Heap} {k : Nat} {f : Addr} {name qual : Str} {params : Arguments} {body : List Stmt} {scope : Scope} {dV kV doc pm cdv ct oc : Value} {an od : Option Addr}
    {osl : Array (Option Value)} {N ps : List Str} {sp : Sp} (lk : K.lookup f = some ⟨oc, od, .func (PySem.W.fnOf name qual params body scope dV kV doc pm an cdv ct), osl⟩) (hcd : PySem.W.codeIn K cdv qual = true) (S : FnScope N ps scope)
    (len : ∀ vs H Q E, sp vs H Q E → vs.length = ps.length)
    (hbody : ∀ (A : Around) (outer : List Env) (s : Shared) (H : Hp) (vs : List V) (Q : VK) (E : XK), Room k (A.deeper (envOfC qual scope s.heap.objs.size f cdv)) → sp vs H Q E →
      ∃ t, PSs (cxOf CX P w K mg base N qual scope f cdv A outer s H E) body t ∧ t { nx := fun _ H' => Q .non H', rt := Q } (start N vs) H) :
    FnOk P w K mg base CX (k + 1) f (PySem.W.fnOf name qual params body scope dV kV doc pm an cdv ct) ps sp := by
  refine ⟨len, fun A outer s H args us vs Q E hr e0 hb r hsp => ?_⟩
  have hl := len _ _ _ _ hsp
  have KX : K.In s.heap := e0.mod.kin.keeps fun b o e => (e0.bs b o e).1
  have lim : s.heap.NoLimit := e0.mod.nolimit.keeps fun b o e => (e0.bs b o e).1
  have hkind : ∀ y ∈ ps.zip us, scope.names.lookup y.1 = some .local ∨ (scope.names.lookup y.1 = some .cell ∧ ((cellsFrom (s.heap.objs.size + 1) scope.names []).lookup y.1).isSome = true) := fun ⟨n, v⟩ hy => by
    rcases S.par n (List.of_mem_zip hy).1 with q | q
    · exact .inl q
    · exact .inr ⟨q, PySem.W.cellsFrom_some _ _ _ (.inl q)⟩
  refine codeAny_call_function hr.depth (KX _ _ lk) rfl S.co S.gen rfl (PySem.W.codeRec_of KX hcd) (hb _ _ _ _ ?_)
  refine wpAny_newFunctionEnv_cells S.kind hkind fun env he s1 x => ?_
  subst he
  refine ⟨lim.keeps x.toInCall.keep, codeAny_func ?_⟩
  obtain ⟨t, ht, hq⟩ := hbody A outer s H vs Q E (hr.deeper _) hsp
  have I : Inv (cxOf CX P w K mg base N qual scope f cdv A outer s H E) [] (start N vs) H s1 := inv_start S hr.hd e0 hl r x
  refine wpAny_mono (ht [] s1 (start N vs) H _ I hq) (fun fl s' hs => ?_) fun e s' hs => hs
  have fin : ∀ {σ' : St} {H' : Hp} {v : V} {u : Value}, Inv (cxOf CX P w K mg base N qual scope f cdv A outer s H E) [] σ' H' s' → RelV v u → Q v H' → CE outer P w H s Q u s' :=
    fun {σ' H' v u} J rv q => ⟨v, H', J.os, J.bare, J.base, J.hok, rv, q⟩
  cases fl with
  | ret u =>
    obtain ⟨v, σ', H', J, rv, q⟩ := hs
    exact fin J rv q
  | next =>
    obtain ⟨σ', H', J, q⟩ := hs
    exact fin (v := V.non) (u := Value.none) J rfl q
  | brk =>
    obtain ⟨_, _, _, q⟩ := hs
    exact False.elim q
  | cont =>
    obtain ⟨_, _, _, q⟩ := hs
    exact False.elim q
end L2

namespace L2
open PySem PySem.Spec PyProof.Rows
section
variable {X : Cx} {x : Str} {p pos : Pos} {e : Expr} {es : List Expr} {t : TA} {id T : String} {r : List V → Hp → VK → Prop}

def tCB (r : List V → Hp → VK → Prop) (t : TA) : TE := fun σ H Q => t σ H fun vs H1 => r vs H1 Q
/-- f(e, ..), f a built-in function -/
theorem pe_callB (hc : CallR X (.builtin id) r) (hg : Gl X x) (hm : X.mg x = none) (hv : bootBuiltins x = some (.builtin id)) (ha : PA X (e :: es) t) (hn : x ≠ "__name__" := by decide) (hdb : (x == ("__debug__" : Str)) = false := by decide)
    (he : starEach (e :: es) X.env = (false, eval e X.env) :: starEach es X.env := by rfl) (hpl : (backTo pos (starEach es X.env)).any (·.1) = false := by rfl) : PE X (.Call (.Name x p) (e :: es) [] pos) (tCB r t) := by
  intro pins s σ H Q I h
  refine wpAny_Call_Name_kw (ld_blt I hg hm hv ?_ hn hdb)
  exact PyProof.Rows.callWith_builtin1 (thn (ha pos pins s σ H _ I h) fun us s1 ⟨vs, H1, I1, r1, q1⟩ => hc pins s1 σ H1 vs us Q I1 r1 q1) he hpl
/-- T(e, ..), T a built-in type -/
theorem pe_callTy (hc : CallR X (.type T) r) (hg : Gl X x) (hm : X.mg x = none) (hv : bootBuiltins x = some (.type T)) (ha : PA X (e :: es) t) (hn : x ≠ "__name__" := by decide) (hdb : (x == ("__debug__" : Str)) = false := by decide)
    (he : starEach (e :: es) X.env = (false, eval e X.env) :: starEach es X.env := by rfl) (hpl : (backTo pos (starEach es X.env)).any (·.1) = false := by rfl) : PE X (.Call (.Name x p) (e :: es) [] pos) (tCB r t) := by
  intro pins s σ H Q I h
  refine wpAny_Call_Name_kw (ld_blt I hg hm hv ?_ hn hdb)
  exact PyProof.Rows.callWith_type1 (thn (ha pos pins s σ H _ I h) fun us s1 ⟨vs, H1, I1, r1, q1⟩ => hc pins s1 σ H1 vs us Q I1 r1 q1) he hpl
/-- T() -/
theorem pe_callTy0 (hc : CallR X (.type T) r) (hg : Gl X x) (hm : X.mg x = none) (hv : bootBuiltins x = some (.type T)) (hn : x ≠ "__name__" := by decide) (hdb : (x == ("__debug__" : Str)) = false := by decide) :
    PE X (.Call (.Name x p) [] [] pos) (tCB r tNil) := by
  intro pins s σ H Q I h
  refine wpAny_Call_Name_kw (ld_blt I hg hm hv ?_ hn hdb)
  exact PyProof.Rows.callWith_type0 (hc pins s σ H [] [] Q I .nil h)
end
end L2

namespace HT
open PySem PyProof.Rows

/-- t < u of tuples of ints -/
def lexLt : List Int → List Int → Bool
  | [], [] => false
  | [], _ :: _ => true
  | _ :: _, [] => false
  | x :: xs, y :: ys => if x = y then lexLt xs ys else decide (x < y)
theorem lexLt_cons (x y : Int) (xs ys : List Int) : lexLt (x :: xs) (y :: ys) = if x = y then lexLt xs ys else decide (x < y) := rfl
theorem lexLt_nil_nil : lexLt [] [] = false := rfl
theorem lexLt_nil_cons (y : Int) (ys : List Int) : lexLt [] (y :: ys) = true := rfl
theorem lexLt_cons_nil (x : Int) (xs : List Int) : lexLt (x :: xs) [] = false := rfl

theorem eqAt_int (A : Around) (s : Shared) (a : Int) (t : Tok) (c : Int) (u : Tok) : ∃ e, SeqAt.EqAt A s (.int a t) (.int c u) e ∧ (e = true ↔ a = c) :=
  ⟨(a == c), SeqAt.EqAt.int_int a t c u, by simp⟩
theorem rcLt_int (A : Around) (s : Shared) (a : Int) (t : Tok) (c : Int) (u : Tok) (prog : Program) (w : World) (E : Value → Shared → Prop) (Q : Value → Shared → Prop) (h : Q (.bool (decide (a < c))) s) :
    wpAny (model prog w) A (richCompare .Lt (.int a t) (.int c u)) Q E s :=
  (PyProof.Rows.lt_int h : wpAny (model prog w) A (compareOp .Lt (.int a t) (.int c u)) Q E s)

section
open PySem.SeqAt
open PySem.AutoSeq1 (wpAny_loadPart')
open PySem.MeetsSeq PySem.MeetsSeq2 PySem.MeetsSeq3

theorem tuple_lt_ints (l b : Addr) (items items2 : Array Value) (n n2 : Nat) (dd dd2 : Option Addr) (sl sl2 : Array (Option Value)) (ns ms : List Int) (hi : IntsAre items.toList ns) (hj : IntsAre items2.toList ms) :
    Meets (Builtin.«tuple.__lt__» ⟨[.ref l, .ref b], []⟩)
      (fun _ R s => s.heap.get? l = some { cls := .type "tuple", dict := dd, data := .seq items n, slots := sl } ∧ s.heap.get? b = some { cls := .type "tuple", dict := dd2, data := .seq items2 n2, slots := sl2 } ∧
        R (.ok (.ret (.bool (lexLt ns ms)))) s) :=
  .of_wp fun prog w A R s h => by
    obtain ⟨hp, g, d, tk, os⟩ := s; obtain ⟨hl, hb, h⟩ := h
    have f2 := AutoSeq1.sub_tuple_tuple
    have z1 : items.size = ns.length := by rw [← hi.length]; simp
    have z2 : items2.size = ms.length := by rw [← hj.length]; simp
    wp_walk using wpAny_loadPart' hl, wpAny_loadPart' hb, wpAny_forIn_list _ (fun rest b s' => b.1 = none ∧ s' = ⟨hp, g, d, tk, os⟩ ∧ ∃ (vs ws : List Value) (ns' ms' : List Int), rest = vs.zip ws ∧
      IntsAre vs ns' ∧ IntsAre ws ms' ∧ ns'.length + items2.size = ms'.length + items.size ∧ R (.ok (.ret (.bool (lexLt ns' ms')))) ⟨hp, g, d, tk, os⟩) _
    case turn =>
      rintro ⟨y, x⟩ rest b s' ⟨hb', rfl, vs, ws, ns', ms', hz, hvi, hwi, hlen, hR⟩
      cases hvi with
      | nil => rw [List.zip_nil_left] at hz; cases hz
      | cons a t hvi' =>
        cases hwi with
        | nil => rw [List.zip_nil_right] at hz; cases hz
        | cons c u hwi' =>
          rw [List.zip_cons_cons] at hz
          injection hz with hyx hrest
          injection hyx with hy hx
          subst hy hx
          rw [lexLt_cons] at hR
          simp only [List.length_cons] at hlen
          obtain ⟨e, he, hiff⟩ := eqAt_int A.in1 ⟨hp, g, d, tk, os⟩ a t c u
          refine wpAny_bind (he prog w _ _ ?_)
          cases e with
          | true =>
            rw [if_pos (hiff.mp rfl)] at hR
            wp_walk
            exact ⟨rfl, rfl, _, _, _, _, hrest, hvi', hwi', by omega, hR⟩
          | false =>
            rw [if_neg (fun q => absurd (hiff.mpr q) Bool.false_ne_true)] at hR
            have hri := rcLt_int A.in1 ⟨hp, g, d, tk, os⟩ a t c u prog w
            wp_walk using hri
            exact ⟨_, rfl, by simpa using hR⟩
    case fin =>
      rintro ⟨b1, b2⟩ s' ⟨hb', rfl, vs, ws, ns', ms', hz, hvi, hwi, hlen, hR⟩
      simp only at hb'
      subst hb'
      have hv : lexLt ns' ms' = decide (items.size < items2.size) := by
        cases hvi with
        | nil =>
          cases hwi with
          | nil =>
            simp only [List.length_nil] at hlen
            rw [lexLt_nil_nil]
            exact (decide_eq_false (by omega)).symm
          | cons c u hw =>
            simp only [List.length_nil, List.length_cons] at hlen
            rw [lexLt_nil_cons]
            exact (decide_eq_true (by omega)).symm
        | cons a t hv =>
          cases hwi with
          | nil =>
            simp only [List.length_nil, List.length_cons] at hlen
            rw [lexLt_cons_nil]
            exact (decide_eq_false (by omega)).symm
          | cons c u hw =>
            rw [List.zip_cons_cons] at hz
            cases hz
      rw [hv] at hR
      wp_walk
      exact ⟨_, rfl, by simpa [Builtin.Tuple.tupleCompareSizes] using hR⟩
    case h =>
      exact ⟨rfl, rfl, items.toList, items2.toList, ns, ms, rfl, hi, hj, by omega, h⟩
end

section
variable {prog : Program} {w : World} {A : Around} {E : Value → Shared → Prop} {s : Shared}

theorem lt_tupInts {l b : Addr} {items items2 : Array Value} {ns ms : List Int} {Q : Value → Shared → Prop} (hl : IsTup s.heap l items) (hb : IsTup s.heap b items2) (hi : IntsAre items.toList ns) (hj : IntsAre items2.toList ms)
    (hu : A.units < cLine) (h : Q (.bool (lexLt ns ms)) s) : wpAny (model prog w) A (compareOp .Lt (.ref l) (.ref b)) Q E s := by
  obtain ⟨⟨cls, dd, data, sl⟩, ho, hc, n, hd⟩ := id hl
  obtain ⟨⟨cls2, dd2, data2, sl2⟩, ho2, hc2, n2, hd2⟩ := id hb
  simp only at hc hd hc2 hd2
  subst hc hd hc2 hd2
  exact richCompare_meets_room (op := .Lt) ⟨_, ho, rfl⟩ ⟨_, ho2, rfl⟩ PySem.F.slot_tuple_lt PySem.F.entry_tuple_lt (PySem.F.args_tuple_lt_2 _ _) (tuple_lt_ints l b items items2 n n2 dd dd2 sl sl2 ns ms hi hj)
    ⟨ho, ho2, show Value.bool (lexLt ns ms) ≠ Value.notImplemented ∧ Q (.bool (lexLt ns ms)) s from ⟨(fun x => nomatch x), h⟩⟩ hu

/-- t + u, t not empty -/
theorem cat_tup {t b : Addr} {vs ws : List Value} {Q : Value → Shared → Prop} (ht : IsTup s.heap t vs.toArray) (hb : IsTup s.heap b ws.toArray) (hv : vs ≠ [])
    (h1 : ws = [] → Q (.ref t) s) (h2 : ws ≠ [] → Q (.ref s.heap.objs.size) { s with heap := s.heap.push { cls := .type "tuple", data := .seq (vs ++ ws).toArray } })
    (hsz : vs.length + ws.length ≤ sizeLine) : wpAny (model prog w) A (binaryOp .Add (.ref t) (.ref b)) Q E s := by
  obtain ⟨⟨cls, dd, data, sl⟩, ho, hc, n, hd⟩ := id ht
  obtain ⟨⟨cls2, dd2, data2, sl2⟩, ho2, hc2, n2, hd2⟩ := id hb
  simp only at hc hd hc2 hd2
  subst hc hd hc2 hd2
  have e : vs.toArray ++ ws.toArray = (vs ++ ws).toArray := by simp
  by_cases hw : ws = []
  · exact concat_meets ⟨_, ho, rfl⟩ ⟨_, ho2, rfl⟩ noFill_tuple_add seq_tuple_add PySem.F.slot_tuple_add PySem.F.entry_tuple_add (PySem.F.args_tuple_add_2 _ _)
      (tuple_addW1 t b vs.toArray ws.toArray n n2 dd dd2 sl sl2 (by simpa using hv) (by simp [hw])) ⟨ho, ho2, h1 hw⟩
  · refine concat_meets ⟨_, ho, rfl⟩ ⟨_, ho2, rfl⟩ noFill_tuple_add seq_tuple_add PySem.F.slot_tuple_add PySem.F.entry_tuple_add (PySem.F.args_tuple_add_2 _ _)
      (tuple_addW2 t b vs.toArray ws.toArray n n2 dd dd2 sl sl2 (by simpa using hv) (by simpa using hw) (by rw [List.size_toArray, List.size_toArray]; exact hsz)) ⟨ho, ho2, ?_⟩
    rw [e]
    exact h2 hw

/-! ### t[a:b], not the whole -/
/-- a slice's bound as a place among n (d where it is left out) -/
def sIx (n d : Nat) : Option Int → Nat
  | none => d
  | some v => if v < 0 then (v + (n : Int)).toNat else min v.toNat n
theorem sIx_none (n d : Nat) : sIx n d none = d := rfl
theorem sIx_nat (n d k : Nat) : sIx n d (some (k : Int)) = min k n := by
  show (if (k : Int) < 0 then ((k : Int) + (n : Int)).toNat else min (k : Int).toNat n) = min k n
  rw [if_neg (by omega), Int.toNat_natCast]
theorem sIx_le (n d : Nat) (hd : d ≤ n) (o : Option Int) : sIx n d o ≤ n := by
  cases o with
  | none => exact hd
  | some v =>
    show (if v < 0 then (v + (n : Int)).toNat else min v.toNat n) ≤ n
    by_cases hv : v < 0
    · rw [if_pos hv]; omega
    · rw [if_neg hv]; exact Nat.min_le_right _ _
theorem clip_eq (v : Int) (n d : Nat) : (if v < 0 then max (v + (n : Int)) 0 else min v (n : Int)) = ((sIx n d (some v) : Nat) : Int) := by
  show (if v < 0 then max (v + (n : Int)) 0 else min v (n : Int)) = (((if v < 0 then (v + (n : Int)).toNat else min v.toNat n) : Nat) : Int)
  by_cases hv : v < 0
  · simp only [if_pos hv]; omega
  · simp only [if_neg hv]; omega
theorem adjust_gen (lo hi : Option Int) (n : Nat) : Builtin.Slice.sliceAdjust lo hi 1 (n : Int) = (((sIx n 0 lo : Nat) : Int), ((sIx n n hi : Nat) : Int)) := by
  have h1 : ¬ ((1 : Int) < 0) := by omega
  unfold Builtin.Slice.sliceAdjust
  simp only [h1, if_false]
  refine Prod.ext ?_ ?_
  · cases lo with
    | none => rfl
    | some v => exact clip_eq v n 0
  · cases hi with
    | none => rfl
    | some v => exact clip_eq v n n
theorem places_gen (i j : Nat) : Builtin.Slice.slicePlaces (i : Int) (j : Int) 1 = j - i := by
  unfold Builtin.Slice.slicePlaces
  have h1 : (1 : Int) > 0 := by omega
  simp only [h1, if_true, Int.ediv_one]
  split <;> omega
theorem slicePart_ {v : Value} {o : Option Int} {Q : Option Int → Shared → Prop} (p : IsPart v o) (h : Q o s) : wpAny (model prog w) A (Builtin.Slice.slicePartIndex v) Q E s := by
  cases p with
  | none => exact slicePart_none h
  | int i t => exact slicePart_int h
theorem sliceApplied_gen {sl : Addr} {vl vu : Value} {lo hi : Option Int} {n : Nat} {Q : Int × Int × Nat → Shared → Prop} (hs : s.heap.IsSliceOf sl vl vu .none) (pl : IsPart vl lo) (pu : IsPart vu hi)
    (h : Q (((sIx n 0 lo : Nat) : Int), 1, sIx n n hi - sIx n 0 lo) s) : wpAny (model prog w) A (Builtin.Slice.sliceApplied (.ref sl) (pure (n : Int))) Q E s := by
  obtain ⟨os, hos, hcs, hds⟩ := id hs
  unfold Builtin.Slice.sliceApplied Builtin.Slice.sliceFields
  refine wpAny_bind (wpAny_bind (wpAny_field hos hds (x := vl) rfl (wpAny_bind (wpAny_field hos hds (x := vu) rfl (wpAny_bind (wpAny_field hos hds (x := .none) rfl (wpAny_pure ?_)))))))
  refine wpAny_bind (slicePart_none ?_)
  show wpAny _ _ (if ((1 : Int) == 0) = true then _ else _) _ _ s
  rw [if_neg (by decide)]
  refine wpAny_bind (slicePart_ pl (wpAny_bind (slicePart_ pu (wpAny_bind (wpAny_pure ?_)))))
  show wpAny _ _ (match Builtin.Slice.sliceAdjust lo hi 1 (n : Int) with | (lo, hi) => pure (lo, (1 : Int), Builtin.Slice.slicePlaces lo hi 1)) _ _ s
  rw [adjust_gen lo hi n]
  show wpAny _ _ (pure (((sIx n 0 lo : Nat) : Int), (1 : Int), Builtin.Slice.slicePlaces ((sIx n 0 lo : Nat) : Int) ((sIx n n hi : Nat) : Int) 1)) _ _ s
  rw [places_gen]
  exact wpAny_pure h
theorem pick_gen (xs : Array Value) (i k : Nat) : ((List.range k).filterMap fun (m : Nat) => xs[((i : Int) + (m : Int) * 1).toNat]?).toArray = ((xs.toList.drop i).take k).toArray := by
  have e : (fun (m : Nat) => xs[((i : Int) + (m : Int) * 1).toNat]?) = fun m => xs[i + m]? := by
    funext m
    have : ((i : Int) + (m : Int) * 1).toNat = i + m := by omega
    rw [this]
  rw [e]
  have := pick_run xs i k
  rw [List.filterMap_map] at this
  have e2 : ((fun x => xs[x]?) ∘ fun x => i + x) = fun m => xs[i + m]? := rfl
  rw [e2] at this
  rw [this]

theorem getItem_tuple_cut {t sl : Addr} {items : Array Value} {vl vu : Value} {lo hi : Option Int} {Q : Value → Shared → Prop} (ht : IsTup s.heap t items) (hs : s.heap.IsSliceOf sl vl vu .none) (pl : IsPart vl lo) (pu : IsPart vu hi)
    (hw : ¬ (sIx items.size 0 lo = 0 ∧ sIx items.size items.size hi = items.size))
    (h : Q (.ref s.heap.objs.size) { s with heap := s.heap.push { cls := .type "tuple", data := .seq ((items.toList.drop (sIx items.size 0 lo)).take (sIx items.size items.size hi - sIx items.size 0 lo)).toArray } })
    (hsz : items.size ≤ sizeLine) : wpAny (model prog w) A (getItem (.ref t) (.ref sl)) Q E s := by
  have htake : sizeOk (.seq ((items.toList.drop (sIx items.size 0 lo)).take (sIx items.size items.size hi - sIx items.size 0 lo)).toArray) := by
    show ((items.toList.drop (sIx items.size 0 lo)).take (sIx items.size items.size hi - sIx items.size 0 lo)).toArray.size ≤ sizeLine
    rw [List.size_toArray, List.length_take, List.length_drop, Array.length_toList]
    omega
  have hj : sIx items.size items.size hi ≤ items.size := sIx_le _ _ (Nat.le_refl _) hi
  obtain ⟨os, hos, hcs, hds⟩ := id hs
  have hTs : s.TypeIs (.ref sl) "slice" := ⟨os, hos, hcs⟩
  unfold getItem
  try with_reducible refine wpAny_holding ?_
  first | refine wpAny_bind (wpAny_pure ?_) | skip
  refine wpAny_bind (wpAny_sequenceKey ht.typeIs (by decide) ?_)
  refine wpAny_bind (wpAny_callSpecial?_slot (name := Str.ofString "__getitem__") ht.typeIs PyProof.Rows.slot_tuple_getitem
    (wpAny_call_entry PyProof.Rows.slot_tuple_getitem ht.typeIs entry_tuple_getitem ?_ (args_tuple_getitem _ _)))
  show wpAny _ _ (Builtin.Tuple.tupleItemsOf (.ref t) >>= _) _ _ s
  refine wpAny_bind (tupleItemsOf_ ht ?_)
  refine wpAny_bind (wpAny_typeOf hTs ?_)
  rw [if_pos (by decide)]
  refine wpAny_bind (sliceApplied_gen hs pl pu ?_)
  have hno : ¬ ((((sIx items.size 0 lo : Nat) : Int) == 0 && (1 : Int) == 1 && (sIx items.size items.size hi - sIx items.size 0 lo) == items.size) = true) := by
    intro q
    rw [Bool.and_eq_true, Bool.and_eq_true] at q
    have q1 : ((sIx items.size 0 lo : Nat) : Int) = 0 := eq_of_beq q.1.1
    have q2 : sIx items.size items.size hi - sIx items.size 0 lo = items.size := eq_of_beq q.2
    exact hw ⟨by omega, by omega⟩
  show wpAny _ _ (if (((sIx items.size 0 lo : Nat) : Int) == 0 && (1 : Int) == 1 && (sIx items.size items.size hi - sIx items.size 0 lo) == items.size) = true then _ else _) _ _ s
  rw [if_neg hno, pick_gen]
  first
    | exact wpAny_bind (m := Builtin.Tuple.tupleExact _) (wpAny_newObj_type (wpAny_pure ⟨_, rfl, wpAny_pure h⟩) htake)
    | exact wpAny_bind (m := Builtin.Tuple.tupleExact _) (wpAny_newObj_type (wpAny_bind (wpAny_pure (wpAny_pure ⟨_, rfl, wpAny_pure h⟩))) htake)
    | exact wpAny_bind (wpAny_bind (m := Builtin.Tuple.tupleExact _) (wpAny_newObj_type (wpAny_pure (wpAny_pure ⟨_, rfl, wpAny_pure h⟩)) htake))
    | exact wpAny_bind (wpAny_bind (m := Builtin.Tuple.tupleExact _) (wpAny_newObj_type (wpAny_pure ⟨_, rfl, wpAny_pure h⟩) htake))
end
end HT

namespace L2
open PySem PySem.Spec PyProof.Rows

/-! ### the parts of a slice -/
abbrev TO := St → Hp → (Option Int → Hp → Prop) → Prop
/-- a slice's part (left out, or an int) -/
def PO (X : Cx) (e : Option Expr) (t : TO) : Prop :=
  ∀ (pins : List (Addr × Obj)) (s : Shared) (σ : St) (H : Hp) (Q : Option Int → Hp → Prop), Inv X pins σ H s → t σ H Q →
    wpAny (model X.prog X.w) X.A (evalPart e X.env) (fun u s' => ∃ o H', Inv X pins σ H' s' ∧ IsPart u o ∧ Q o H') X.xe s
def tNoPart : TO := fun _ H Q => Q none H
def tPart (t : TE) : TO := fun σ H Q => t σ H fun x H1 => ∃ i, x = .int i ∧ Q (some i) H1

theorem intsAre_of {ns : List Int} : ∀ {us : List Value}, Vals (ns.map V.int) us → IntsAre us ns := by
  induction ns with
  | nil => intro us r; rw [List.map_nil] at r; cases r; exact .nil
  | cons n ns ih =>
    intro us r
    rw [List.map_cons] at r
    cases r with
    | cons r1 r2 =>
      obtain ⟨t, e⟩ := r1
      subst e
      exact .cons n t (ih r2)

section
variable {X : Cx} {e : Expr} {te : TE} {lo hi : Option Expr} {tl th : TO} {pos p2 : Pos}

theorem po_none : PO X none tNoPart := by
  intro pins s σ H Q I h
  rw [evalPart_none]
  exact wpAny_pure ⟨none, H, I, .none, h⟩
theorem po_some (h : PE X e te) : PO X (some e) (tPart te) := by
  intro pins s σ H Q I hw
  rw [evalPart_some]
  refine thn (h pins s σ H _ I hw) fun u s1 ⟨x, H1, I1, r1, q1⟩ => ?_
  obtain ⟨i, rfl, q⟩ := q1
  obtain ⟨t, rfl⟩ := r1
  exact ⟨some i, H1, I1, .int i t, q⟩

/-- what a slice of a value is, by values: the slice object stands at sl -/
def SlR (X : Cx) (r : V → Option Int → Option Int → Hp → VK → Prop) : Prop :=
  ∀ (pins : List (Addr × Obj)) (s : Shared) (σ : St) (H : Hp) (x : V) (v vl vu : Value) (lo hi : Option Int) (sl : Addr) (Q : VK), Inv X pins σ H s → RelV x v → s.heap.IsSliceOf sl vl vu .none → IsPart vl lo → IsPart vu hi → r x lo hi H Q →
    ∃ T id, typeLookup (.type T) "__getitem__" = pure (some (.builtin id)) ∧ s.TypeIs v T ∧ wpAny (model X.prog X.w) X.A (getItem v (.ref sl)) (EP X pins σ Q) X.xe s
theorem SlR.or {r r' : V → Option Int → Option Int → Hp → VK → Prop} (h : SlR X r) (h' : SlR X r') : SlR X (fun x lo hi H Q => r x lo hi H Q ∨ r' x lo hi H Q) := by
  intro pins s σ H x v vl vu lo hi sl Q I rx hs pl pu q
  rcases q with q | q
  · exact h pins s σ H x v vl vu lo hi sl Q I rx hs pl pu q
  · exact h' pins s σ H x v vl vu lo hi sl Q I rx hs pl pu q
def tSl (r : V → Option Int → Option Int → Hp → VK → Prop) (te : TE) (tl th : TO) : TE := fun σ H Q => te σ H fun x H1 => tl σ H1 fun l H2 => th σ H2 fun u H3 => r x l u H3 Q
/-- a[lo:hi], any a -/
theorem pe_slice {r : V → Option Int → Option Int → Hp → VK → Prop} (hr : SlR X r) (he : PE X e te) (hl : PO X lo tl) (hu : PO X hi th) : PE X (.Subscript e (.Slice lo hi none p2) pos) (tSl r te tl th) := by
  intro pins s σ H Q I h
  refine Subscript_ (thn (he pins s σ H _ I h) fun v s1 ⟨x, H1, I1, r1, q1⟩ => ?_)
  refine wpAny_Slice (thn (hl pins s1 σ H1 _ I1 q1) fun vl s2 ⟨l, H2, I2, pl, q2⟩ => thn (hu pins s2 σ H2 _ I2 q2) fun vu s3 ⟨u, H3, I3, pu, q3⟩ => ?_)
  rw [evalPart_none]
  refine wpAny_pure ?_
  have I4 : Inv X pins σ H3 { s3 with heap := s3.heap.push { cls := .type "slice", data := .fields #[vl, vu, .none] } } := I3.kept (t' := s3.toks) fun b ob q => Heap.get?_push_of_some _ q
  obtain ⟨T, id, hT, ht, hg⟩ := hr pins { s3 with heap := s3.heap.push { cls := .type "slice", data := .fields #[vl, vu, .none] } } σ H3 x v vl vu l u s3.heap.objs.size Q I4 r1 (Heap.IsSliceOf.new ..) pl pu q3
  show wpAny (model X.prog X.w) X.A (subscriptTail e (.Slice lo hi none p2) v (.ref s3.heap.objs.size)) (EP X pins σ Q) X.xe { s3 with heap := s3.heap.push { cls := .type "slice", data := .fields #[vl, vu, .none] } }
  exact tail_any (ops := [.ref s3.heap.objs.size, v]) ht hT hg (by with_unfolding_all rfl)

/-- the items of xs[lo:hi] -/
def cutV (xs : List V) (lo hi : Option Int) : List V := (xs.drop (HT.sIx xs.length 0 lo)).take (HT.sIx xs.length xs.length hi - HT.sIx xs.length 0 lo)
theorem cutV_length (xs : List V) (lo hi : Option Int) : (cutV xs lo hi).length ≤ xs.length := by
  unfold cutV
  rw [List.length_take, List.length_drop]
  omega
/-- t[lo:hi], not the whole of it (the whole would be t itself) -/
def rSlT (K : PySem.W.Frag) : V → Option Int → Option Int → Hp → VK → Prop := fun x lo hi H Q => ∃ a xs, x = .ref a ∧ SqT K H a xs ∧
  ¬ (HT.sIx xs.length 0 lo = 0 ∧ HT.sIx xs.length xs.length hi = xs.length) ∧ ∀ p, H p = none → Q (.ref p) (upd H p (.tup (cutV xs lo hi)))
theorem sl_tup : SlR X (rSlT X.K) := by
  intro pins s σ H x v vl vu lo hi sl Q I rx hs pl pu h
  obtain ⟨a, xs, rfl, hx, hw, q⟩ := h
  cases rx
  obtain ⟨its, r, ht, hz⟩ := I.tuple hx
  have hlen : its.toArray.size = xs.length := by rw [List.size_toArray]; exact r.length.symm
  refine ⟨"tuple", _, PyProof.Rows.slot_tuple_getitem.lookup, ht.typeIs, ?_⟩
  refine HT.getItem_tuple_cut ht hs pl pu (by rw [hlen]; exact hw) ?_ (by rw [hlen]; exact hz)
  rw [hlen]
  refine ⟨.ref s.heap.objs.size, _, I.laid (t' := s.toks) (o := .tup (cutV xs lo hi)) (fun b ob q => Heap.get?_push_of_some _ q) (Nat.le_refl _) ?_, rfl, q _ (I.hok.fresh (Nat.le_refl _))⟩
  exact ⟨Nat.le_trans (cutV_length xs lo hi) hz, _, (r.drop (HT.sIx xs.length 0 lo)).take (HT.sIx xs.length xs.length hi - HT.sIx xs.length 0 lo), IsTup.new _ _⟩

/-! ### t < u, t + u -/
def rLtT (K : PySem.W.Frag) : R2 := fun x y H Q => ∃ a b ns ms, x = .ref a ∧ y = .ref b ∧ SqT K H a (ns.map V.int) ∧ SqT K H b (ms.map V.int) ∧ Q (.bl (HT.lexLt ns ms)) H
theorem op_ltT (hu : X.A.units < cLine) : OpR X (compareOp .Lt) (rLtT X.K) := by
  intro pins s σ H x y v u Q I rx ry h
  obtain ⟨a, b, ns, ms, rfl, rfl, ha, hb, q⟩ := h
  cases rx
  cases ry
  obtain ⟨its, r1, p1, _⟩ := I.tuple ha
  obtain ⟨its2, r2, p2, _⟩ := I.tuple hb
  have i1 : IntsAre its.toArray.toList ns := intsAre_of r1
  have i2 : IntsAre its2.toArray.toList ms := intsAre_of r2
  exact HT.lt_tupInts p1 p2 i1 i2 hu ⟨.bl (HT.lexLt ns ms), H, I, rfl, q⟩
/-- t + u, t not empty: u empty gives t itself -/
def rCatT (K : PySem.W.Frag) : R2 := fun x y H Q => ∃ a b xs ys, x = .ref a ∧ y = .ref b ∧ SqT K H a xs ∧ SqT K H b ys ∧ xs ≠ [] ∧ xs.length + ys.length ≤ sizeLine ∧
  (ys = [] → Q (.ref a) H) ∧ (ys ≠ [] → ∀ p, H p = none → Q (.ref p) (upd H p (.tup (xs ++ ys))))
theorem Vals.nil_iff {xs : List V} {us : List Value} (r : Vals xs us) : us = [] ↔ xs = [] := by
  cases r with
  | nil => simp
  | cons _ _ => simp
theorem op_catT : OpR X (binaryOp .Add) (rCatT X.K) := by
  intro pins s σ H x y v u Q I rx ry h
  obtain ⟨a, b, xs, ys, rfl, rfl, ha, hb, hx, hz, q1, q2⟩ := h
  cases rx
  cases ry
  obtain ⟨its, r1, p1, _⟩ := I.tuple ha
  obtain ⟨its2, r2, p2, _⟩ := I.tuple hb
  refine HT.cat_tup p1 p2 (fun z => hx (r1.nil_iff.mp z)) (fun z => ⟨.ref a, H, I, rfl, q1 (r2.nil_iff.mp z)⟩) (fun z => ?_) (by rw [← r1.length, ← r2.length]; exact hz)
  refine ⟨.ref s.heap.objs.size, _, I.laid (t' := s.toks) (o := .tup (xs ++ ys)) (fun b ob q => Heap.get?_push_of_some _ q) (Nat.le_refl _) ?_, rfl, q2 (fun w => z (r2.nil_iff.mpr w)) _ (I.hok.fresh (Nat.le_refl _))⟩
  exact ⟨by rw [List.length_append]; exact hz, _, r1.append r2, IsTup.new _ _⟩
/-- tuple(t) -/
theorem call_tupleT : CallR X (.type "tuple") (fun xs H Q => ∃ a ys, xs = [.ref a] ∧ SqT X.K H a ys ∧ Q (.ref a) H) := by
  intro pins s σ H xs us Q I r h
  obtain ⟨a, ys, rfl, ha, q⟩ := h
  obtain ⟨u, rfl, ru⟩ := vals1 r
  cases ru
  obtain ⟨its, _, p1, _⟩ := I.tuple ha
  exact call_tuple_same (items := its.toArray) p1 ⟨.ref a, H, I, rfl, q⟩
end
end L2

namespace L2
open PySem PySem.Spec PyProof.Rows

/-! ### places -/
/-- the place that an index of any sign means -/
def ixN (n : Nat) (i : Int) : Option Nat := if 0 ≤ i then (if i < n then some i.toNat else none) else if -(n : Int) ≤ i then some (i + n).toNat else none
def atI {α : Type} (xs : List α) (i : Int) : Option α := (ixN xs.length i).bind fun j => xs[j]?
theorem ixN_seq {n : Nat} {i : Int} {j : Nat} (h : ixN n i = some j) : seqIndex? i n = some j ∧ j < n ∧ -(n : Int) ≤ i ∧ i < n := by
  unfold ixN at h
  by_cases h0 : 0 ≤ i
  · rw [if_pos h0] at h
    by_cases h1 : i < n
    · rw [if_pos h1] at h
      have e : i.toNat = j := Option.some.inj h
      exact ⟨by rw [seqIndex_of h0 h1, e], by omega, by omega, h1⟩
    · rw [if_neg h1] at h; cases h
  · rw [if_neg h0] at h
    by_cases h1 : -(n : Int) ≤ i
    · rw [if_pos h1] at h
      have e : (i + n).toNat = j := Option.some.inj h
      exact ⟨by rw [seqIndex_neg (by omega) h1, e], by omega, h1, by omega⟩
    · rw [if_neg h1] at h; cases h
theorem atI_get {α : Type} {xs : List α} {i : Int} {v : α} (h : atI xs i = some v) : ∃ j, seqIndex? i xs.length = some j ∧ xs[j]? = some v ∧ j < xs.length ∧ -(xs.length : Int) ≤ i ∧ i < xs.length := by
  unfold atI at h
  cases e : ixN xs.length i with
  | none => rw [e] at h; cases h
  | some j =>
    rw [e] at h
    obtain ⟨h1, h2, h3, h4⟩ := ixN_seq e
    exact ⟨j, h1, h, h2, h3, h4⟩
theorem atI_nat {α : Type} {xs : List α} {j : Nat} {v : α} (h : xs[j]? = some v) : atI xs (j : Int) = some v := by
  have hj : j < xs.length := (List.getElem?_eq_some_iff.mp h).1
  have e : ixN xs.length (j : Int) = some j := by
    unfold ixN
    rw [if_pos (by omega), if_pos (by omega)]; simp
  unfold atI; rw [e]; exact h
theorem atI_last {α : Type} (xs : List α) (v : α) : atI (xs ++ [v]) (-1) = some v := by
  have hl : (xs ++ [v]).length = xs.length + 1 := by simp
  have e : ixN (xs ++ [v]).length (-1) = some xs.length := by
    unfold ixN
    rw [hl, if_neg (by decide), if_pos (by omega)]
    congr 1
    omega
  unfold atI
  rw [e]
  show (xs ++ [v])[xs.length]? = some v
  simp

/-! ### what may be subscripted -/
/-- what stands as an index of a plain subscript -/
def PlainIx (b : Expr) : Prop := ∀ o i, subscripted b false o i = operate [o, i] (getItem o i)
/-- a subscript by values -/
def IxR (X : Cx) (r : R2) : Prop :=
  ∀ (value slice : Expr) (pins : List (Addr × Obj)) (s : Shared) (σ : St) (H : Hp) (x y : V) (v u : Value) (Q : VK), Inv X pins σ H s → RelV x v → RelV y u → r x y H Q →
    subscripted slice false v u = operate [v, u] (getItem v u) → wpAny (model X.prog X.w) X.A (subscriptTail value slice v u) (EP X pins σ Q) X.xe s
/-- a call of a builtin's method by values: the receiver, the arguments -/
def MtR (X : Cx) (id : String) (r : V → List V → Hp → VK → Prop) : Prop :=
  ∀ (pins : List (Addr × Obj)) (s : Shared) (σ : St) (H : Hp) (x : V) (xs : List V) (v : Value) (us : List Value) (Q : VK), Inv X pins σ H s → RelV x v → Vals xs us → r x xs H Q →
    wpAny (model X.prog X.w) X.A (call (.builtin id) (v :: us)) (EP X pins σ Q) X.xe s
section
variable {X : Cx} {a b : Expr} {ta tb : TE} {pos : Pos}
theorem IxR.or {r r' : R2} (h : IxR X r) (h' : IxR X r') : IxR X (fun x y H Q => r x y H Q ∨ r' x y H Q) := by
  intro value slice pins s σ H x y v u Q I rx ry q hs
  rcases q with q | q
  · exact h value slice pins s σ H x y v u Q I rx ry q hs
  · exact h' value slice pins s σ H x y v u Q I rx ry q hs
theorem MtR.or {id : String} {r r' : V → List V → Hp → VK → Prop} (h : MtR X id r) (h' : MtR X id r') : MtR X id (fun x xs H Q => r x xs H Q ∨ r' x xs H Q) := by
  intro pins s σ H x xs v us Q I rx rs q
  rcases q with q | q
  · exact h pins s σ H x xs v us Q I rx rs q
  · exact h' pins s σ H x xs v us Q I rx rs q
/-- a[b] -/
theorem pe_ix {r : R2} (hr : IxR X r) (ha : PE X a ta) (hb : PE X b tb) (hs : PlainIx b) : PE X (.Subscript a b pos) (tOp r ta tb) := by
  intro pins s σ H Q I h
  exact Subscript_ (binT ha hb I h fun v u s2 x y H2 I2 rx ry q => hr a b pins s2 σ H2 x y v u Q I2 rx ry q (hs _ _))

def rIxL (K : PySem.W.Frag) : R2 := fun x y H Q => ∃ p xs i v, x = .ref p ∧ y = .int i ∧ SqL K H p xs ∧ atI xs i = some v ∧ Q v H
def rIxT (K : PySem.W.Frag) : R2 := fun x y H Q => ∃ p xs i v, x = .ref p ∧ y = .int i ∧ SqT K H p xs ∧ atI xs i = some v ∧ Q v H
def rIxS : R2 := fun x y H Q => ∃ z i c, x = .str z ∧ y = .int i ∧ z.length ≤ sizeLine ∧ atI z.cps.toList i = some c ∧ Q (.str ⟨#[c]⟩) H
theorem ix_list : IxR X (rIxL X.K) := by
  intro value slice pins s σ H x y v u Q I rx ry h hs
  obtain ⟨p, xs, i, z, rfl, rfl, hq, he, q⟩ := h
  cases rx
  obtain ⟨t, rfl⟩ := ry
  obtain ⟨its, r, pl, hz⟩ := I.list hq
  obtain ⟨j, h1, h2, h3, h4, h5⟩ := atI_get he
  obtain ⟨w, ew, rw'⟩ := r.get h2
  have hl := r.length
  have hn := line63
  have fin : EP X pins σ Q w s := ⟨z, H, I, rw', q⟩
  by_cases h0 : 0 ≤ i
  · have hj : i.toNat = j := by
      rw [seqIndex_of h0 h5] at h1
      exact Option.some.inj h1
    exact item_listR pl.isList h0 (by omega) (by rw [hj]; simpa using ew) fin hs
  · have hj : (i + (its.toArray.size : Int)).toNat = j := by
      rw [seqIndex_neg (by omega) h4] at h1
      rw [List.size_toArray, ← hl]
      exact Option.some.inj h1
    exact subscriptTail_builtinR (x := w) pl.isList.typeIs slot_list_getitem.lookup
      (wpAny_getItem_list_neg (Q := fun r s' => r = w ∧ EP X pins σ Q r s') pl.isList (by omega) (by rw [List.size_toArray] <;> omega) (by omega) (by rw [hj]; simpa using ew) ⟨rfl, fin⟩) hs
theorem ix_tup : IxR X (rIxT X.K) := by
  intro value slice pins s σ H x y v u Q I rx ry h hs
  obtain ⟨p, xs, i, z, rfl, rfl, hq, he, q⟩ := h
  cases rx
  obtain ⟨t, rfl⟩ := ry
  obtain ⟨its, r, pl, hz⟩ := I.tuple hq
  obtain ⟨j, h1, h2, h3, h4, h5⟩ := atI_get he
  obtain ⟨w, ew, rw'⟩ := r.get h2
  have hl := r.length
  have hn := line63
  have fin : EP X pins σ Q w s := ⟨z, H, I, rw', q⟩
  exact subscriptTail_builtinR (x := w) pl.typeIs slot_tuple_getitem.lookup
    (getItem_tuple (j := j) (Q := fun r s' => r = w ∧ EP X pins σ Q r s') pl (by omega) (by omega) (by rw [List.size_toArray, ← hl]; exact h1) (by simpa using ew) ⟨rfl, fin⟩) hs
theorem ix_str : IxR X rIxS := by
  intro value slice pins s σ H x y v u Q I rx ry h hs
  obtain ⟨z, i, c, rfl, rfl, hz, he, q⟩ := h
  obtain ⟨t, rfl⟩ := rx
  obtain ⟨t', rfl⟩ := ry
  obtain ⟨j, h1, h2, h3, h4, h5⟩ := atI_get he
  have hl : z.cps.toList.length = z.length := by simp [Str.length]
  rw [hl] at h1 h4 h5
  have hn := line63
  exact tail_any (typeIs_str s z t) slot_str_getitem.lookup (getItem_str (c := c) (by
    have e1 : decide (i < -(2 ^ 63 : Int)) = false := decide_eq_false (by omega)
    have e2 : decide (i ≥ 2 ^ 63) = false := decide_eq_false (by omega)
    rw [e1, e2, Bool.or_false]) (by rw [h1]; simpa using h2) ⟨.str ⟨#[c]⟩, H, I.tok _, ⟨_, rfl⟩, q⟩) hs
/-- list, tuple or str -/
def rIx (K : PySem.W.Frag) : R2 := fun x y H Q => rIxL K x y H Q ∨ rIxT K x y H Q ∨ rIxS x y H Q
theorem ix_seq : IxR X (rIx X.K) := ix_list.or (ix_tup.or ix_str)

/-! ### xs[i] = v, any sign -/
/-- the list's object behind a store -/
theorem mapSeq_set (its : List Value) (n j : Nat) (u : Value) : Obj.mapSeq (·.setIfInBounds j u) { cls := .type "list", data := .seq its.toArray n } = { cls := .type "list", data := .seq (its.set j u).toArray n } := by
  simp [Obj.mapSeq]
theorem Inv.lst {pins : List (Addr × Obj)} {σ : St} {H : Hp} {s : Shared} {p : Addr} {xs : List V} (I : Inv X pins σ H s) (h : H p = some (.lst xs)) :
    ∃ (its : List Value) (n : Nat), Vals xs its ∧ s.heap.get? p = some { cls := .type "list", data := .seq its.toArray n } ∧ xs.length ≤ sizeLine := by
  obtain ⟨z, its, n, r, e⟩ := I.hok p _ h
  exact ⟨its, n, r, e, z⟩
/-- the list at p is written by an update of its object -/
theorem Inv.lstUpd {pins : List (Addr × Obj)} {σ : St} {H : Hp} {s : Shared} {p : Addr} {xs ys : List V} {its its' : List Value} {n n' : Nat} {f : Obj → Obj} (I : Inv X pins σ H s) (h : H p = some (.lst xs))
    (ho : s.heap.get? p = some { cls := .type "list", data := .seq its.toArray n }) (hf : f { cls := .type "list", data := .seq its.toArray n } = { cls := .type "list", data := .seq its'.toArray n' }) (r : Vals ys its') (hz : ys.length ≤ sizeLine) (t : Nat) :
    Inv X pins σ (upd H p (.lst ys)) { s with heap := s.heap.update p f, toks := t } := by
  have e : (s.heap.update p f).get? p = some { cls := .type "list", data := .seq its'.toArray n' } := by
    rw [Heap.get?_update_self f ho (by rw [hf] <;> rfl), hf]
  refine I.write (x := p) (e := p) (by rw [h]; trivial) (.inl rfl) (fun b u hb q => (Heap.get?_update_other _ _ (Ne.symm hb)).trans q) ⟨_, e⟩ ?_
  exact ⟨hz, its', n', r, e⟩
def rSetL : V → V → V → Hp → (Hp → Prop) → Prop := fun o i v H Q => ∃ p xs k j, o = .ref p ∧ i = .int k ∧ H p = some (.lst xs) ∧ ixN xs.length k = some j ∧ Q (upd H p (.lst (xs.set j v)))
theorem set_list : PSet X rSetL := by
  intro pins s σ H o i v ov iv u Q I ro ri rv h
  obtain ⟨p, xs, k, j, rfl, rfl, hp, hj, q⟩ := h
  cases ro
  obtain ⟨t, rfl⟩ := ri
  obtain ⟨its, n, r, ho, hz⟩ := I.lst hp
  obtain ⟨h1, h2, h3, h4⟩ := ixN_seq hj
  have hl := r.length
  have hn := line63
  have I' : Inv X pins σ (upd H p (.lst (xs.set j v))) { s with heap := s.heap.update p (Obj.mapSeq (·.setIfInBounds j u)) } :=
    I.lstUpd hp ho (mapSeq_set its n j u) (r.set rv j) (by rw [List.length_set]; exact hz) s.toks
  by_cases h0 : 0 ≤ k
  · have hk : k.toNat = j := by
      rw [seqIndex_of h0 h4] at h1
      exact Option.some.inj h1
    exact PySem.W.ki_setAt ho h0 (by omega) (by rw [List.size_toArray, ← hl]; exact h4) (by rw [hk]; exact ⟨_, I', q⟩)
  · have hk : (k + (its.toArray.size : Int)).toNat = j := by
      rw [seqIndex_neg (by omega) h3] at h1
      rw [List.size_toArray, ← hl]
      exact Option.some.inj h1
    exact PySem.W.ki_setBack ho (by omega) (by rw [List.size_toArray, ← hl]; exact h3) (by omega) (by rw [hk]; exact ⟨_, I', q⟩)

/-! ### slices -/
theorem slice_bounds (lo hi : Option Int) (n : Nat) : (sliceBounds lo hi none n).1 = ((HT.sIx n 0 lo : Nat) : Int) ∧ (sliceBounds lo hi none n).2.1 = ((HT.sIx n n hi : Nat) : Int) ∧ (sliceBounds lo hi none n).2.2 = 1 := by
  refine ⟨?_, ?_, rfl⟩
  · cases lo with
    | none => simp [sliceBounds, HT.sIx]
    | some i =>
      simp only [sliceBounds, HT.sIx, Option.getD_none, show (1 : Int) > 0 by decide, if_true]
      by_cases h : i < 0
      · simp only [h, if_true] <;> omega
      · simp only [h, if_false] <;> omega
  · cases hi with
    | none => simp [sliceBounds, HT.sIx]
    | some i =>
      simp only [sliceBounds, HT.sIx, Option.getD_none, show (1 : Int) > 0 by decide, if_true]
      by_cases h : i < 0
      · simp only [h, if_true] <;> omega
      · simp only [h, if_false] <;> omega
theorem slicePick_cut (its : List Value) (lo hi : Option Int) : slicePick its.toArray lo hi none = ((its.drop (HT.sIx its.length 0 lo)).take (HT.sIx its.length its.length hi - HT.sIx its.length 0 lo)).toArray := by
  obtain ⟨h1, h2, h3⟩ := slice_bounds lo hi its.toArray.size
  unfold slicePick
  rw [h1, h2, h3]
  simp only [sliceRange_one, pick_run, List.size_toArray] <;> rfl
/-- xs[lo:hi] of a list: a new list -/
def rSlL (K : PySem.W.Frag) : V → Option Int → Option Int → Hp → VK → Prop := fun x lo hi H Q => ∃ a xs, x = .ref a ∧ SqL K H a xs ∧ ∀ p, H p = none → Q (.ref p) (upd H p (.lst (cutV xs lo hi)))
theorem sl_list : SlR X (rSlL X.K) := by
  intro pins s σ H x v vl vu lo hi sl Q I rx hs pl pu h
  obtain ⟨a, xs, rfl, hx, q⟩ := h
  cases rx
  obtain ⟨its, r, ht, hz⟩ := I.list hx
  have hlen := r.length
  refine ⟨"list", _, slot_list_getitem.lookup, ht.isList.typeIs, ?_⟩
  refine wpAny_getItem_list_slice ht.isList hs pl pu .none (by simp) ?_ (by rw [List.size_toArray] <;> omega)
  rw [slicePick_cut, ← hlen]
  refine ⟨.ref s.heap.objs.size, _, I.laid (t' := s.toks) (o := .lst (cutV xs lo hi)) (fun b ob q => Heap.get?_push_of_some _ q) (Nat.le_refl _) ?_, rfl, q _ (I.hok.fresh (Nat.le_refl _))⟩
  exact ⟨Nat.le_trans (cutV_length xs lo hi) hz, _, 0, (r.drop (HT.sIx xs.length 0 lo)).take (HT.sIx xs.length xs.length hi - HT.sIx xs.length 0 lo), Heap.get?_push_size _ rfl⟩

/-! ### in, not in: flat items -/
def flatV : V → Bool
  | .non => true
  | .bl _ => true
  | .int _ => true
  | .str _ => true
  | _ => false
/-- == of flat values -/
def eqV : V → V → Bool
  | .non, .non => true
  | .bl a, .bl b => a == b
  | .bl a, .int b => (if a then 1 else 0) == b
  | .int a, .bl b => a == (if b then 1 else 0)
  | .int a, .int b => a == b
  | .str a, .str b => a == b
  | _, _ => false
theorem eqAt_V {A : Around} {s : Shared} {y x : V} {u v : Value} (ry : RelV y u) (rx : RelV x v) (fy : flatV y = true) (fx : flatV x = true) : SeqAt.EqAt A s u v (eqV y x) := by
  cases y with
  | non =>
    cases ry
    cases x with
    | non => cases rx; exact SeqAt.EqAt.same _
    | bl b => cases rx; exact SeqAt.EqAt.none_bool b
    | int b => obtain ⟨t, rfl⟩ := rx; exact SeqAt.EqAt.none_int b t
    | str b => obtain ⟨t, rfl⟩ := rx; exact SeqAt.EqAt.none_str b t
    | _ => exact absurd (show false = true from fx) Bool.false_ne_true
  | bl a =>
    cases ry
    cases x with
    | non => cases rx; exact SeqAt.EqAt.bool_none a
    | bl b => cases rx; exact SeqAt.EqAt.bool_bool a b
    | int b => obtain ⟨t, rfl⟩ := rx; exact SeqAt.EqAt.bool_int a b t
    | str b => obtain ⟨t, rfl⟩ := rx; exact SeqAt.EqAt.bool_str a b t
    | _ => exact absurd (show false = true from fx) Bool.false_ne_true
  | int a =>
    obtain ⟨t', rfl⟩ := ry
    cases x with
    | non => cases rx; exact SeqAt.EqAt.int_none a t'
    | bl b => cases rx; exact SeqAt.EqAt.int_bool a t' b
    | int b => obtain ⟨t, rfl⟩ := rx; exact SeqAt.EqAt.int_int a t' b t
    | str b => obtain ⟨t, rfl⟩ := rx; exact SeqAt.EqAt.int_str a t' b t
    | _ => exact absurd (show false = true from fx) Bool.false_ne_true
  | str a =>
    obtain ⟨t', rfl⟩ := ry
    cases x with
    | non => cases rx; exact SeqAt.EqAt.str_none a t'
    | bl b => cases rx; exact SeqAt.EqAt.str_bool a t' b
    | int b => obtain ⟨t, rfl⟩ := rx; exact SeqAt.EqAt.str_int a t' b t
    | str b => obtain ⟨t, rfl⟩ := rx; exact SeqAt.EqAt.str_str a t' b t
    | _ => exact absurd (show false = true from fx) Bool.false_ne_true
  | _ => exact absurd (show false = true from fy) Bool.false_ne_true
/-- the items' answers, read off the values (a value's own answer does not lean on its token) -/
def eqU (x : V) (u : Value) : Bool := match u with
  | .none => eqV .non x
  | .bool b => eqV (.bl b) x
  | .int i _ => eqV (.int i) x
  | .str z _ => eqV (.str z) x
  | _ => false
theorem eqU_of {x y : V} {u : Value} (r : RelV y u) (f : flatV y = true) : eqU x u = eqV y x := by
  cases y with
  | non => cases r; rfl
  | bl b => cases r; rfl
  | int i => obtain ⟨t, rfl⟩ := r; rfl
  | str z => obtain ⟨t, rfl⟩ := r; rfl
  | _ => exact absurd (show false = true from f) Bool.false_ne_true
theorem any_eqU {x : V} : ∀ {xs : List V} {us : List Value}, Vals xs us → xs.all flatV = true → us.any (eqU x) = xs.any fun y => eqV y x
  | _, _, .nil, _ => rfl
  | y :: xs, u :: us, .cons r t, f => by
    rw [List.all_cons, Bool.and_eq_true] at f
    rw [List.any_cons, List.any_cons, eqU_of r f.1, any_eqU t f.2]
theorem mem_eqAt {A : Around} {s : Shared} {x : V} {v : Value} (rx : RelV x v) (fx : flatV x = true) : ∀ {xs : List V} {us : List Value}, Vals xs us → xs.all flatV = true → ∀ u ∈ us, SeqAt.EqAt A s u v (eqU x u)
  | _, _, .nil, _ => fun u hu => by cases hu
  | y :: xs, u :: us, .cons r t, f => fun u' hu => by
    rw [List.all_cons, Bool.and_eq_true] at f
    rcases List.mem_cons.mp hu with rfl | hu
    · rw [eqU_of r f.1]; exact eqAt_V r rx f.1 fx
    · exact mem_eqAt rx fx t f.2 u' hu
def inV (x : V) (xs : List V) : Bool := xs.any fun y => eqV y x
/-- x in a list or tuple of flat items -/
def rIn (K : PySem.W.Frag) (neg : Bool) : R2 := fun x y H Q => ∃ p xs, y = .ref p ∧ (SqL K H p xs ∨ SqT K H p xs) ∧ flatV x = true ∧ xs.all flatV = true ∧ Q (.bl (if neg then !inV x xs else inV x xs)) H
theorem op_in_seq : OpR X (compareOp .In) (rIn X.K false) := by
  intro pins s σ H x y v u Q I rx ry h
  obtain ⟨p, xs, rfl, hq, fx, fs, q⟩ := h
  cases ry
  rcases hq with hq | hq
  · obtain ⟨its, r, pl, hz⟩ := I.list hq
    refine SeqAt.in_listAt (eqU x) pl.isList (fun w hw => mem_eqAt rx fx r fs w (by simpa using hw)) ⟨.bl _, H, I, rfl, ?_⟩
    rw [show its.toArray.any (eqU x) = its.any (eqU x) by simp, any_eqU r fs]
    exact q
  · obtain ⟨its, r, pl, hz⟩ := I.tuple hq
    refine SeqAt.in_tupleAt (eqU x) pl (fun w hw => mem_eqAt rx fx r fs w (by simpa using hw)) ⟨.bl _, H, I, rfl, ?_⟩
    rw [show its.toArray.any (eqU x) = its.any (eqU x) by simp, any_eqU r fs]
    exact q
theorem op_notIn_seq : OpR X (compareOp .NotIn) (rIn X.K true) := by
  intro pins s σ H x y v u Q I rx ry h
  obtain ⟨p, xs, rfl, hq, fx, fs, q⟩ := h
  cases ry
  rcases hq with hq | hq
  · obtain ⟨its, r, pl, hz⟩ := I.list hq
    refine SeqAt.notIn_listAt (eqU x) pl.isList (fun w hw => mem_eqAt rx fx r fs w (by simpa using hw)) ⟨.bl _, H, I, rfl, ?_⟩
    rw [show its.toArray.any (eqU x) = its.any (eqU x) by simp, any_eqU r fs]
    exact q
  · obtain ⟨its, r, pl, hz⟩ := I.tuple hq
    refine SeqAt.notIn_tupleAt (eqU x) pl (fun w hw => mem_eqAt rx fx r fs w (by simpa using hw)) ⟨.bl _, H, I, rfl, ?_⟩
    rw [show its.toArray.any (eqU x) = its.any (eqU x) by simp, any_eqU r fs]
    exact q
theorem op_notIn_str : OpR X (compareOp .NotIn) (fun x y H Q => ∃ i j, x = .str i ∧ y = .str j ∧ Q (.bl (!(!(Builtin.Str.occurrences j i 0 j.length 1).isEmpty))) H) := by
  intro pins s σ H x y v u Q I rx ry h
  obtain ⟨i, j, rfl, rfl, q⟩ := h
  obtain ⟨t, rfl⟩ := rx
  obtain ⟨t', rfl⟩ := ry
  exact notIn_str ⟨.bl _, H, I, rfl, q⟩

/-! ### len, list(x), tuple(x) of any list or tuple that is read -/
theorem call_len_seq : CallR X (.builtin "len") (fun xs H Q => ∃ p ys, xs = [.ref p] ∧ (SqL X.K H p ys ∨ SqT X.K H p ys) ∧ Q (.int ys.length) H) := by
  intro pins s σ H xs us Q I r h
  obtain ⟨p, ys, rfl, hq, q⟩ := h
  obtain ⟨u, rfl, rx⟩ := vals1 r
  cases rx
  have hn := line63
  rcases hq with hq | hq
  · obtain ⟨its, r', pl, hz⟩ := I.list hq
    have hlen := r'.length
    exact Calls.call_len_list pl.isList (by simp only [List.size_toArray] <;> omega) ⟨.int ys.length, H, I.tok _, ⟨s.toks + 1, by rw [List.size_toArray, hlen]⟩, q⟩
  · obtain ⟨its, r', pl, hz⟩ := I.tuple hq
    have hlen := r'.length
    exact len_tuple pl (by simp only [List.size_toArray] <;> omega) ⟨.int ys.length, H, I.tok _, ⟨s.toks + 1, by rw [List.size_toArray, hlen]⟩, q⟩
theorem call_len_str : CallR X (.builtin "len") (fun xs H Q => ∃ z, xs = [.str z] ∧ z.length ≤ sizeLine ∧ Q (.int z.length) H) := by
  intro pins s σ H xs us Q I r h
  obtain ⟨z, rfl, hz, q⟩ := h
  obtain ⟨u, rfl, t, rfl⟩ := vals1 r
  have hn := line63
  exact len_str (by omega) ⟨.int z.length, H, I.tok _, ⟨_, rfl⟩, q⟩
theorem CallR.or {f : Value} {r r' : List V → Hp → VK → Prop} (h : CallR X f r) (h' : CallR X f r') : CallR X f (fun xs H Q => r xs H Q ∨ r' xs H Q) := by
  intro pins s σ H xs us Q I rs q
  rcases q with q | q
  · exact h pins s σ H xs us Q I rs q
  · exact h' pins s σ H xs us Q I rs q
theorem call_list_of : CallR X (.type "list") (fun xs H Q => ∃ p ys, xs = [.ref p] ∧ (SqL X.K H p ys ∨ SqT X.K H p ys) ∧ ∀ l, H l = none → Q (.ref l) (upd H l (.lst ys))) := by
  intro pins s σ H xs us Q I r h
  obtain ⟨p, ys, rfl, hq, q⟩ := h
  obtain ⟨u, rfl, rx⟩ := vals1 r
  cases rx
  have fin : ∀ (its : List Value), Vals ys its → ys.length ≤ sizeLine → ∀ (h' : Heap) (c' : Nat), (∀ b o', s.heap.get? b = some o' → h'.get? b = some o') →
      h'.get? s.heap.objs.size = some { cls := .type "list", dict := none, data := .seq its.toArray c', slots := #[] } → EP X pins σ Q (.ref s.heap.objs.size) { s with heap := h' } := fun its r' hz h' c' kp e =>
    ⟨.ref s.heap.objs.size, _, I.laid (t' := s.toks) kp (Nat.le_refl _) (show ObjOk X.prog X.w _ h' _ (.lst ys) from ⟨hz, its, c', r', e⟩), rfl, q _ (I.hok.fresh (Nat.le_refl _))⟩
  rcases hq with hq | hq
  · obtain ⟨its, r', pl, hz⟩ := I.list hq
    have hlen := r'.length
    obtain ⟨o, ho, hc, n, hd⟩ := pl.isList
    exact call_list_seq p (.inl rfl) ho hc hd (fun h' c' kp e => fin its r' hz h' c' kp e) (by simp only [List.size_toArray] <;> omega)
  · obtain ⟨its, r', pl, hz⟩ := I.tuple hq
    have hlen := r'.length
    obtain ⟨o, ho, hc, n, hd⟩ := pl
    exact call_list_seq p (.inr rfl) ho hc hd (fun h' c' kp e => fin its r' hz h' c' kp e) (by simp only [List.size_toArray] <;> omega)
theorem call_tuple_of : CallR X (.type "tuple") (fun xs H Q => ∃ p ys, xs = [.ref p] ∧ ((SqL X.K H p ys ∧ ∀ l, H l = none → Q (.ref l) (upd H l (.tup ys))) ∨ (SqT X.K H p ys ∧ Q (.ref p) H))) := by
  intro pins s σ H xs us Q I r h
  obtain ⟨p, ys, rfl, h⟩ := h
  obtain ⟨u, rfl, rx⟩ := vals1 r
  cases rx
  rcases h with ⟨hq, q⟩ | ⟨hq, q⟩
  · obtain ⟨its, r', pl, hz⟩ := I.list hq
    have hlen := r'.length
    refine call_tuple_list pl.isList (fun h' kp => ?_) (by simp only [List.size_toArray] <;> omega)
    have I1 : Inv X pins σ H { s with heap := h' } := I.kept (t' := s.toks) kp
    have I2 : Inv X pins σ (upd H h'.objs.size (.tup ys)) { s with heap := h'.push { cls := .type "tuple", data := .seq its.toArray } } :=
      I1.laid (t' := s.toks) (fun b o e => Heap.get?_push_of_some _ e) (Nat.le_refl _) (show ObjOk X.prog X.w _ _ _ (.tup ys) from ⟨hz, its, r', IsTup.new _ _⟩)
    exact ⟨.ref h'.objs.size, _, I2, rfl, q _ (I1.hok.fresh (Nat.le_refl _))⟩
  · obtain ⟨its, r', pl, hz⟩ := I.tuple hq
    exact call_tuple_same pl ⟨.ref p, H, I, rfl, q⟩

/-! ### the call of a builtin's method: o.m(..) -/
/-- the value is of that builtin type -/
def tyV (K : PySem.W.Frag) (T : String) (x : V) (H : Hp) : Prop := match x with
  | .str _ => T = "str"
  | .int _ => T = "int"
  | .ref p => (T = "list" ∧ ∃ xs, SqL K H p xs) ∨ (T = "tuple" ∧ ∃ o, K.lookup p = some o ∧ o.cls = .type "tuple" ∧ o.dict = none) ∨
      (T = "dict" ∧ ((∃ kvs, H p = some (.dK kvs)) ∨ ∃ kvs, H p = some (.dT kvs))) ∨ (T = "set" ∧ ∃ S n, H p = some (.set S n))
  | _ => False
theorem tyV_is {pins : List (Addr × Obj)} {σ : St} {H : Hp} {s : Shared} {T : String} {x : V} {v : Value} (I : Inv X pins σ H s) (r : RelV x v) (ty : tyV X.K T x H) :
    s.TypeIs v T ∧ ∀ a, v = .ref a → ∃ ob, s.heap.get? a = some ob ∧ ob.dict = none := by
  cases x with
  | str z =>
    obtain ⟨t, rfl⟩ := r
    cases (show T = "str" from ty)
    exact ⟨typeIs_str s z t, fun _ e => nomatch e⟩
  | int i =>
    obtain ⟨t, rfl⟩ := r
    cases (show T = "int" from ty)
    exact ⟨typeIs_int s i t, fun _ e => nomatch e⟩
  | ref p =>
    cases r
    rcases ty with ⟨rfl, xs, hq⟩ | ⟨rfl, o, hk, hc, hd⟩ | ⟨rfl, hk⟩ | ⟨rfl, S, n, hk⟩
    · obtain ⟨its, _, pl, _⟩ := I.list hq
      refine ⟨pl.isList.typeIs, fun a e => ?_⟩
      cases e
      obtain ⟨o, n, e, c, hd, _⟩ := pl
      exact ⟨o, e, hd⟩
    · refine ⟨⟨o, I.kIn p o hk, hc⟩, fun a e => ?_⟩
      cases e
      exact ⟨o, I.kIn _ o hk, hd⟩
    · have z : ∃ o, s.heap.get? p = some o ∧ o.ExactDict := by
        rcases hk with ⟨kvs, hk⟩ | ⟨kvs, hk⟩
        · obtain ⟨_, _, _, _, o, _, _, e, ex, _⟩ := I.hok p _ hk
          exact ⟨o, e, ex⟩
        · obtain ⟨_, _, _, _, o, _, _, e, ex, _⟩ := I.hok p _ hk
          exact ⟨o, e, ex⟩
      obtain ⟨o, e, ex⟩ := z
      refine ⟨⟨o, e, ex.1⟩, fun a e2 => ?_⟩
      cases e2
      exact ⟨o, e, ex.2.1⟩
    · obtain ⟨o, _, _, _, e, ex, _⟩ := I.hok p _ hk
      refine ⟨⟨o, e, ex.1⟩, fun a e2 => ?_⟩
      cases e2
      exact ⟨o, e, ex.2.1⟩
  | _ => exact False.elim ty
def tBM0 (K : PySem.W.Frag) (T : String) (r : V → List V → Hp → VK → Prop) (to : TE) : TE := fun σ H Q => to σ H fun x H1 => tyV K T x H1 ∧ r x [] H1 Q
def tBM (K : PySem.W.Frag) (T : String) (r : V → List V → Hp → VK → Prop) (to : TE) (t : TA) : TE := fun σ H Q => to σ H fun x H1 => tyV K T x H1 ∧ t σ H1 fun xs H2 => r x xs H2 Q
variable {o e : Expr} {es : List Expr} {to : TE} {t : TA} {name : Str} {apos cpos : Pos} {T id : String} {r : V → List V → Hp → VK → Prop}
theorem pe_bm0 (pa : PlainAttrs T) (slot : Slot T name id) (hty : typeOf (.builtin id) = pure (.type "method_descriptor")) (hm : MtR X id r) (ho : PE X o to)
    (hbase : attributeBase o name X.env (eval o X.env) = eval o X.env := by rfl) (hline : (apos.endLine == cpos.line) = true := by rfl) : PE X (.Call (.Attribute o name apos) [] [] cpos) (tBM0 X.K T r to) := by
  intro pins s σ H Q I h
  refine wpAny_Call_method0_late hbase hline (thn (ho pins s σ H _ I h) fun v s1 ⟨x, H1, I1, r1, ty, q1⟩ => ?_)
  obtain ⟨h1, h2⟩ := tyV_is I1 r1 ty
  exact ⟨T, id, pa, slot, hty, h1, h2, Calls.callWith_builtin rfl (PySem.evalArgs_none (hm pins s1 σ H1 x [] v [] Q I1 r1 .nil q1))⟩
theorem pe_bm (pa : PlainAttrs T) (slot : Slot T name id) (hty : typeOf (.builtin id) = pure (.type "method_descriptor")) (hm : MtR X id r) (ho : PE X o to) (ha : PA X (e :: es) t)
    (hbase : attributeBase o name X.env (eval o X.env) = eval o X.env := by rfl)
    (hfew : ((backTo cpos (starEach (e :: es) X.env)).all (fun x => !x.1) && (backToKw cpos (keywordEach [] X.env)).all (fun x => x.1.isSome)
      && decide ((e :: es).length + ([] : List Keyword).length + (if ([] : List Keyword).isEmpty then 0 else 1) < 30)) = true := by rfl)
    (hline : (apos.endLine == cpos.line) = true := by rfl) (hs : starEach (e :: es) X.env = (false, eval e X.env) :: starEach es X.env := by rfl) (hplain : (backTo cpos (starEach es X.env)).any (·.1) = false := by rfl) :
    PE X (.Call (.Attribute o name apos) (e :: es) [] cpos) (tBM X.K T r to t) := by
  intro pins s σ H Q I h
  refine wpAny_Call_method_late hbase hfew hline rfl (thn (ho pins s σ H _ I h) fun v s1 ⟨x, H1, I1, r1, ty, q1⟩ => ?_)
  obtain ⟨h1, h2⟩ := tyV_is I1 r1 ty
  refine ⟨T, id, pa, slot, hty, h1, h2, ?_⟩
  have hA := ha cpos pins s1 σ H1 _ I1 q1
  rw [hs] at hA ⊢
  refine Calls.callWith_builtin (by show (false || (backTo cpos (starEach es X.env)).any (·.1)) = false; rw [hplain] <;> rfl) (Calls.evalArgs_plain ?_)
  exact thn hA fun us s2 ⟨vs, H2, I2, r2, q2⟩ => hm pins s2 σ H2 x vs v us Q I2 r1 r2 q2
/- xs.append(e), list.index on a module's tuple .. are MtR facts of 06m -/
end
end L2

namespace L2
open PySem PySem.Spec PyProof.Rows

def MtM (X : Cx) (id : String) (r : V → List V → Hp → VK → Prop) : Prop :=
  ∀ (pins : List (Addr × Obj)) (s : Shared) (σ : St) (H : Hp) (x : V) (xs : List V) (v : Value) (us : List Value) (Q : VK), Inv X pins σ H s → RelV x v → Vals xs us → r x xs H Q →
    wpAny (model X.prog X.w) X.A (call (.builtin id) (v :: us)) (EP X pins σ Q) X.xe s

/-! ### lists of values -/
theorem Vals.one : ∀ {x : V} {us : List Value}, Vals [x] us → ∃ u, us = [u] ∧ RelV x u
  | _, _, .cons r .nil => ⟨_, rfl, r⟩
theorem Vals.two : ∀ {x y : V} {us : List Value}, Vals [x, y] us → ∃ u v, us = [u, v] ∧ RelV x u ∧ RelV y v
  | _, _, _, .cons r (.cons q .nil) => ⟨_, _, rfl, r, q⟩
theorem Vals.zero : ∀ {us : List Value}, Vals [] us → us = []
  | _, .nil => rfl
theorem Vals.dropLast {xs : List V} {us : List Value} (h : Vals xs us) : Vals xs.dropLast us.dropLast := by
  induction h with
  | nil => exact .nil
  | cons r t ih =>
    cases t with
    | nil => exact .nil
    | cons q t' => exact .cons r ih
theorem Vals.eraseIdx : ∀ {xs : List V} {us : List Value} (i : Nat), Vals xs us → Vals (xs.eraseIdx i) (us.eraseIdx i)
  | _, _, _, .nil => .nil
  | _, _, 0, .cons _ t => t
  | _, _, i + 1, .cons r t => .cons r (Vals.eraseIdx i t)
theorem Vals.reverse {xs : List V} {us : List Value} (h : Vals xs us) : Vals xs.reverse us.reverse := by
  induction h with
  | nil => exact .nil
  | cons r t ih => rw [List.reverse_cons, List.reverse_cons]; exact Vals.append ih (.cons r .nil)
theorem Vals.rep {xs : List V} {us : List Value} (h : Vals xs us) : ∀ k : Nat, Vals (List.replicate k xs).flatten (List.replicate k us).flatten
  | 0 => .nil
  | k + 1 => by
    rw [List.replicate_succ, List.replicate_succ, List.flatten_cons, List.flatten_cons]
    exact Vals.append h (Vals.rep h k)
theorem erase_last {α : Type} (l : List α) : l.eraseIdx (l.length - 1) = l.dropLast := by
  induction l with
  | nil => rfl
  | cons a r ih =>
    cases r with
    | nil => rfl
    | cons b r =>
      have e : (a :: b :: r).length - 1 = ((b :: r).length - 1) + 1 := by
        have h1 : (a :: b :: r).length = r.length + 2 := rfl
        have h2 : (b :: r).length = r.length + 1 := rfl
        omega
      rw [e, List.eraseIdx_cons_succ, ih]
      all_goals rfl
theorem len_erase {α : Type} : ∀ (l : List α) (i : Nat), (l.eraseIdx i).length ≤ l.length
  | [], _ => Nat.le_refl _
  | _ :: _, 0 => Nat.le_succ _
  | _ :: r, i + 1 => Nat.succ_le_succ (len_erase r i)
theorem foldl_rep (its : List Value) : ∀ (k : Nat) (acc : List Value),
    List.foldl (fun x1 x2 => x1 ++ x2) acc.toArray (List.replicate k its.toArray) = (acc ++ (List.replicate k its).flatten).toArray
  | 0, acc => by simp
  | k + 1, acc => by
    have e : acc.toArray ++ its.toArray = (acc ++ its).toArray := by simp
    have e2 : (acc ++ its) ++ (List.replicate k its).flatten = acc ++ (List.replicate (k + 1) its).flatten := by
      rw [List.replicate_succ, List.flatten_cons, List.append_assoc]
    rw [← e2, ← foldl_rep its k (acc ++ its), ← e, List.replicate_succ, List.foldl_cons]

section
variable {X : Cx} {pins : List (Addr × Obj)} {σ : St} {H : Hp} {s : Shared} {l b : Addr} {xs ys zs : List V}

/-! ### the two steps: a tracked list is rewritten, a new list is laid -/
theorem Inv.lset {its its' : List Value} {n : Nat} {f : Array Value → Array Value} {t' : Nat} (I : Inv X pins σ H s) (hH : H l = some (.lst xs))
    (e : s.heap.get? l = some { cls := .type "list", data := .seq its.toArray n }) (hf : f its.toArray = its'.toArray) (hv : Vals ys its') (hz : ys.length ≤ sizeLine) :
    Inv X pins σ (upd H l (.lst ys)) { s with heap := s.heap.update l (Obj.mapSeq f), toks := t' } := by
  have q := PySem.IsL.update e f
  rw [hf] at q
  refine I.write (x := l) (e := l) (by rw [hH]; exact trivial) (.inl rfl) (fun b' u hb hu => (Heap.get?_update_other s.heap (Obj.mapSeq f) (Ne.symm hb)).trans hu) ⟨_, q⟩ ?_
  exact ⟨hz, its', _, hv, q⟩
theorem Inv.lnew {its : List Value} {t' : Nat} (I : Inv X pins σ H s) (hv : Vals ys its) (hz : ys.length ≤ sizeLine) :
    Inv X pins σ (upd H s.heap.objs.size (.lst ys)) { s with heap := s.heap.push { cls := .type "list", data := .seq its.toArray }, toks := t' } :=
  I.laid (fun _ _ q => Heap.get?_push_of_some _ q) (Nat.le_refl _) ⟨hz, its, 0, hv, Heap.get?_push_size _ rfl⟩
theorem Inv.fresh (I : Inv X pins σ H s) : H s.heap.objs.size = none := I.hok.fresh (Nat.le_refl _)
theorem Inv.lstM (I : Inv X pins σ H s) (hH : H l = some (.lst xs)) : xs.length ≤ sizeLine ∧ ∃ (its : List Value) (n : Nat), Vals xs its ∧ xs.length = its.length ∧ s.heap.get? l = some { cls := .type "list", data := .seq its.toArray n } := by
  obtain ⟨z, its, n, r, e⟩ := I.hok l _ hH
  exact ⟨z, its, n, r, r.length, e⟩

theorem notLongL {n : Nat} (h : n ≤ sizeLine) : Builtin.List.listTooLong n = false := by
  unfold Builtin.List.listTooLong
  exact decide_eq_false (by omega)
end

section
variable {X : Cx}

/-! ### methods -/
def rAppend : V → List V → Hp → VK → Prop := fun x vs H Q => ∃ l xs y, x = .ref l ∧ vs = [y] ∧ H l = some (.lst xs) ∧ xs.length < sizeLine ∧ Q .non (upd H l (.lst (xs ++ [y])))
theorem mt_append : MtM X "list.append" rAppend := by
  intro pins s σ H x vs v us Q I rx rv h
  obtain ⟨l, xs, y, rfl, rfl, hH, hz, q⟩ := h
  cases rx
  obtain ⟨u, rfl, ru⟩ := rv.one
  obtain ⟨z, its, n, r, hl, e⟩ := I.lstM hH
  refine call_meets F.slot_list_append ⟨_, e, rfl⟩ F.entry_list_append (F.args_list_append_2 _ _) (PySem.list_append l its.toArray n u (by rw [List.size_toArray]; omega)) ⟨e, ?_⟩
  refine ⟨.non, _, I.lset (its' := its ++ [u]) hH e (by simp) (r.append (.cons ru .nil)) ?_, rfl, q⟩
  rw [List.length_append, List.length_singleton]
  omega

def rExtend : V → List V → Hp → VK → Prop := fun x vs H Q => ∃ l b xs zs, x = .ref l ∧ vs = [.ref b] ∧ H l = some (.lst xs) ∧ H b = some (.lst zs) ∧ xs.length + zs.length ≤ sizeLine ∧ Q .non (upd H l (.lst (xs ++ zs)))
theorem mt_extend : MtM X "list.extend" rExtend := by
  intro pins s σ H x vs v us Q I rx rv h
  obtain ⟨l, b, xs, zs, rfl, rfl, hH, hB, hz, q⟩ := h
  cases rx
  obtain ⟨u, rfl, ru⟩ := rv.one
  cases ru
  obtain ⟨z, its, n, r, hl, e⟩ := I.lstM hH
  obtain ⟨z2, its2, n2, r2, hl2, e2⟩ := I.lstM hB
  have hsz : its.toArray.size + its2.toArray.size ≤ sizeLine := by rw [List.size_toArray, List.size_toArray]; omega
  have hlong : ¬ (!its.toArray.isEmpty && Builtin.List.listTooLong (its.toArray.size + its2.toArray.size)) = true := by
    rw [notLongL hsz, Bool.and_false]
    exact Bool.false_ne_true
  refine call_meets F.slot_list_extend ⟨_, e, rfl⟩ F.entry_list_extend (F.args_list_extend_2 _ _)
    (AutoSeq1.list_extend_list_list_0 l its.toArray n b its2.toArray n2 hlong (by rw [List.size_toArray]; omega) (by omega)) ⟨e, e2, ?_⟩
  refine ⟨.non, _, I.lset (its' := its ++ its2) hH e (by simp) (r.append r2) ?_, rfl, q⟩
  rw [List.length_append]
  omega

def rPop : V → List V → Hp → VK → Prop := fun x vs H Q => ∃ l xs y, x = .ref l ∧ vs = [] ∧ H l = some (.lst xs) ∧ xs[xs.length - 1]? = some y ∧ Q y (upd H l (.lst xs.dropLast))
theorem mt_pop : MtM X "list.pop" rPop := by
  intro pins s σ H x vs v us Q I rx rv h
  obtain ⟨l, xs, y, rfl, rfl, hH, hy, q⟩ := h
  cases rx
  have hus := rv.zero
  subst hus
  obtain ⟨z, its, n, r, hl, e⟩ := I.lstM hH
  obtain ⟨u, hu, ru⟩ := r.get hy
  have hy' : its.toArray[its.toArray.size - 1]? = some u := by
    show its.toArray[its.length - 1]? = some u
    rw [← Array.getElem?_toList, ← hl]
    exact hu
  refine call_meets F.slot_list_pop ⟨_, e, rfl⟩ F.entry_list_pop (F.args_list_pop_1 _) (MeetsSeq.list_pop_last l its.toArray n u hy' (by rw [List.size_toArray]; omega)) ⟨e, ?_⟩
  refine ⟨y, _, I.lset (its' := its.dropLast) hH e ?_ r.dropLast ?_, ru, q⟩
  · show its.toArray.eraseIdxIfInBounds (its.toArray.size - 1) = its.dropLast.toArray
    rw [List.size_toArray, List.eraseIdxIfInBounds_toArray, erase_last]
  · rw [List.length_dropLast]
    omega

def rPopAt : V → List V → Hp → VK → Prop := fun x vs H Q => ∃ l xs i k y, x = .ref l ∧ vs = [.int i] ∧ H l = some (.lst xs) ∧ -(2 ^ 63) ≤ i ∧ i < 2 ^ 63 ∧ seqIndex? i xs.length = some k ∧ xs[k]? = some y ∧ Q y (upd H l (.lst (xs.eraseIdx k)))
theorem mt_popAt : MtM X "list.pop" rPopAt := by
  intro pins s σ H x vs v us Q I rx rv h
  obtain ⟨l, xs, i, k, y, rfl, rfl, hH, h1, h2, hk, hy, q⟩ := h
  cases rx
  obtain ⟨u, rfl, ru⟩ := rv.one
  obtain ⟨t, rfl⟩ := ru
  obtain ⟨z, its, n, r, hl, e⟩ := I.lstM hH
  obtain ⟨w, hw, rw'⟩ := r.get hy
  refine call_meets F.slot_list_pop ⟨_, e, rfl⟩ F.entry_list_pop (F.args_list_pop_2 _ _)
    (MeetsSeq.list_pop_at l its.toArray n i t k w (fitsIndex_both h1 h2) (by rw [List.size_toArray, ← hl]; exact hk) (by rw [← Array.getElem?_toList]; exact hw) (by rw [List.size_toArray]; omega)) ⟨e, ?_⟩
  refine ⟨y, _, I.lset (its' := its.eraseIdx k) hH e ?_ (r.eraseIdx k) ?_, rw', q⟩
  · show its.toArray.eraseIdxIfInBounds k = (its.eraseIdx k).toArray
    rw [List.eraseIdxIfInBounds_toArray]
  · have := len_erase xs k
    omega

def rReverse : V → List V → Hp → VK → Prop := fun x vs H Q => ∃ l xs, x = .ref l ∧ vs = [] ∧ H l = some (.lst xs) ∧ Q .non (upd H l (.lst xs.reverse))
theorem mt_reverse : MtM X "list.reverse" rReverse := by
  intro pins s σ H x vs v us Q I rx rv h
  obtain ⟨l, xs, rfl, rfl, hH, q⟩ := h
  cases rx
  have hus := rv.zero
  subst hus
  obtain ⟨z, its, n, r, hl, e⟩ := I.lstM hH
  refine call_meets F.slot_list_reverse ⟨_, e, rfl⟩ F.entry_list_reverse (F.args_list_reverse_1 _) (AutoSeq1.list_reverse_list_0 l its.toArray n (by rw [List.size_toArray]; omega)) ⟨e, ?_⟩
  refine ⟨.non, _, I.lset (its' := its.reverse) hH e (by simp) r.reverse ?_, rfl, q⟩
  rw [List.length_reverse]
  omega

def rClear : V → List V → Hp → VK → Prop := fun x vs H Q => ∃ l xs, x = .ref l ∧ vs = [] ∧ H l = some (.lst xs) ∧ Q .non (upd H l (.lst []))
theorem mt_clear : MtM X "list.clear" rClear := by
  intro pins s σ H x vs v us Q I rx rv h
  obtain ⟨l, xs, rfl, rfl, hH, q⟩ := h
  cases rx
  have hus := rv.zero
  subst hus
  obtain ⟨z, its, n, r, hl, e⟩ := I.lstM hH
  refine call_meets F.slot_list_clear ⟨_, e, rfl⟩ F.entry_list_clear (F.args_list_clear_1 _) (AutoSeq1.list_clear_list_0 l its.toArray n (by rw [List.size_toArray]; omega)) ⟨e, ?_⟩
  exact ⟨.non, _, I.lset (its' := []) (ys := []) hH e rfl .nil (Nat.zero_le _), rfl, q⟩

/-! ### list + list, list += list, list * int -/
def rCat : R2 := fun x y H Q => ∃ l b xs zs, x = .ref l ∧ y = .ref b ∧ H l = some (.lst xs) ∧ H b = some (.lst zs) ∧ xs.length + zs.length ≤ sizeLine ∧ ∀ p, H p = none → Q (.ref p) (upd H p (.lst (xs ++ zs)))
theorem op_cat : OpR X (binaryOp .Add) rCat := by
  intro pins s σ H x y v u Q I rx ry h
  obtain ⟨l, b, xs, zs, rfl, rfl, hH, hB, hz, q⟩ := h
  cases rx
  cases ry
  obtain ⟨z, its, n, r, hl, e⟩ := I.lstM hH
  obtain ⟨z2, its2, n2, r2, hl2, e2⟩ := I.lstM hB
  refine PySem.P.add_list e e2 ?_ (by rw [List.size_toArray, List.size_toArray]; omega)
  have ea : its.toArray ++ its2.toArray = (its ++ its2).toArray := by simp
  rw [ea]
  exact ⟨.ref _, _, I.lnew (t' := s.toks) (r.append r2) (by rw [List.length_append]; omega), rfl, q _ I.fresh⟩
/-- a list times an int (a negative one is nothing) -/
def rRep : R2 := fun x y H Q => ∃ l k xs, x = .ref l ∧ y = .int k ∧ H l = some (.lst xs) ∧ -(2 ^ 63) ≤ k ∧ k < 2 ^ 63 ∧ xs.length * k.toNat ≤ sizeLine ∧
  ∀ p, H p = none → Q (.ref p) (upd H p (.lst (List.replicate k.toNat xs).flatten))
theorem len_rep {α : Type} (xs : List α) (k : Nat) : (List.replicate k xs).flatten.length = k * xs.length := by
  induction k with
  | zero => simp
  | succ k ih => rw [List.replicate_succ, List.flatten_cons, List.length_append, ih, Nat.succ_mul, Nat.add_comm]
theorem op_rep : OpR X (binaryOp .Mult) rRep := by
  intro pins s σ H x y v u Q I rx ry h
  obtain ⟨l, k, xs, rfl, rfl, hH, h1, h2, hz, q⟩ := h
  cases rx
  obtain ⟨t, rfl⟩ := ry
  obtain ⟨z, its, n, r, hl, e⟩ := I.lstM hH
  have hlen : its.toArray.size * k.toNat ≤ sizeLine := by rw [List.size_toArray, ← hl]; exact hz
  have hcap : ¬ its.toArray.size * k.toNat > (2 ^ 63 - 1) / 8 := by
    have : (sizeLine : Nat) ≤ (2 ^ 63 - 1) / 8 := by decide
    omega
  have hfit : ¬ (!Builtin.List.listFitsIndex k) = true := by
    rw [fitsIndex_both h1 h2]
    exact Bool.false_ne_true
  have hlong : ¬ Builtin.List.listTooLong (its.toArray.size * k.toNat) = true := by
    rw [notLongL hlen]
    exact Bool.false_ne_true
  have hnew : List.foldl (fun x1 x2 => x1 ++ x2) #[] (List.replicate (if its.toArray.isEmpty = true then 0 else k.toNat) its.toArray) = (List.replicate k.toNat its).flatten.toArray := by
    have f0 : ∀ m : Nat, List.foldl (fun x1 x2 => x1 ++ x2) #[] (List.replicate m its.toArray) = (List.replicate m its).flatten.toArray := fun m => by
      have := foldl_rep its m []
      rw [List.nil_append] at this
      exact this
    rw [f0]
    cases its with
    | nil => simp
    | cons a r' => rw [if_neg (by simp)]
  refine wpAny_binaryOp_repeat_ref (T := "list") (U := "int") (by decide) ⟨_, e, rfl⟩ (fun s' => typeIs_int s' k t) noFill_list_mul F.fills_int_mul F.slot_int_rmul repeat_list F.slot_int_index.lookup
    (call_meets F.slot_int_rmul (typeIs_int s k t) F.entry_int_rmul (F.args_int_rmul_2 _ _) (int___rmul___int_list k t l its.toArray n)
      ⟨e, rfl, ⟨_, e, rfl⟩, call_meets F.slot_list_mul ⟨_, e, rfl⟩ F.entry_list_mul (F.args_list_mul_2 _ _) (AutoListH.list___mul___list_int_3 l its.toArray n k t hfit hcap hlong) ⟨e, ?_⟩⟩)
  rw [hnew]
  exact ⟨.ref _, _, I.lnew (t' := s.toks) (r.rep k.toNat) (by rw [len_rep, Nat.mul_comm]; exact hz), rfl, q _ I.fresh⟩

/-! ### del xs[i] -/
theorem del_list {pins : List (Addr × Obj)} {s : Shared} {σ : St} {H : Hp} {l : Addr} {xs : List V} {i : Int} {t : Tok} {k : Nat} {Q : Unit → Shared → Prop} (I : Inv X pins σ H s) (hH : H l = some (.lst xs))
    (h1 : -(2 ^ 63) ≤ i) (h2 : i < 2 ^ 63) (hk : seqIndex? i xs.length = some k) (h : ∀ s', Inv X pins σ (upd H l (.lst (xs.eraseIdx k))) s' → Q () s') :
    wpAny (model X.prog X.w) X.A (delItem (.ref l) (.int i t)) Q X.xe s := by
  obtain ⟨z, its, n, r, hl, e⟩ := I.lstM hH
  refine PySem.P.delItem_list (k := k) e (fitsIndex_both h1 h2) (by rw [List.size_toArray, ← hl]; exact hk) (h _ ?_) (by rw [List.size_toArray]; omega)
  refine I.lset (its' := its.eraseIdx k) (t' := s.toks) hH e ?_ (r.eraseIdx k) ?_
  · show its.toArray.eraseIdxIfInBounds k = (its.eraseIdx k).toArray
    rw [List.eraseIdxIfInBounds_toArray]
  · have := len_erase xs k
    omega
end

/-! ### xs[a:b] = ys -/
section
variable {prog : Program} {w : World} {A : Around} {E : Value → Shared → Prop} {s : Shared}
theorem splice_eq (its its2 : List Value) (a c : Nat) : its.toArray.extract 0 a ++ its2.toArray ++ its.toArray.extract c its.toArray.size = (its.take a ++ its2 ++ its.drop c).toArray := by
  apply Array.toList_inj.mp
  first
    | (simp
       exact List.take_of_length_le (by simp))
    | simp [List.take_of_length_le]
    | simp
theorem bounds_run {a c n : Nat} (hac : a ≤ c) (hc : c ≤ n) : sliceBounds (some (a : Int)) (some (c : Int)) none n = ((a : Int), (c : Int), 1) := by
  simp only [sliceBounds, Option.getD_none]
  have h1 : ¬ ((a : Int) < 0) := by omega
  have h2 : ¬ ((c : Int) < 0) := by omega
  simp only [h1, h2, if_false, show (1 : Int) > 0 by decide, if_true]
  congr 1
  · omega
  · congr 1; omega
set_option maxRecDepth 100000 in
/-- list.__setitem__ with a slice of step one and another list -/
theorem setItem_slice {l b sl : Addr} {items new : Array Value} {n n2 : Nat} {vl vu : Value} {a c : Nat} {Q : Unit → Shared → Prop}
    (e : s.heap.get? l = some { cls := .type "list", data := .seq items n }) (e2 : s.heap.get? b = some { cls := .type "list", data := .seq new n2 }) (hne : l ≠ b)
    (hs : s.heap.IsSliceOf sl vl vu .none) (pl : IsPart vl (some (a : Int))) (pu : IsPart vu (some (c : Int))) (hac : a ≤ c) (hc : c ≤ items.size)
    (hsz : items.size + new.size ≤ sizeLine) (h : Q () { s with heap := s.heap.update l (Obj.mapSeq fun xs => xs.extract 0 a ++ new ++ xs.extract c xs.size) }) :
    wpAny (model prog w) A (setItem (.ref l) (.ref sl) (.ref b)) Q E s := by
  have hl : s.heap.IsList l items := PySem.IsL.isList e
  have hb : s.heap.IsList b new := PySem.IsL.isList e2
  obtain ⟨os, hos, hcs, hds⟩ := id hs
  have hTs : s.TypeIs (.ref sl) "slice" := ⟨os, hos, hcs⟩
  have hstep : ¬ ((rawPart none == rawInt 0) = true) := Bool.false_ne_true
  have hsame : Builtin.List.listSameRef (.ref l) (.ref b) = false := by
    unfold Builtin.List.listSameRef
    exact beq_eq_false_iff_ne.mpr hne
  have hmax : (max (a : Int) (c : Int)).toNat = c := by omega
  have hz' : ((fun xs : Array Value => xs.extract 0 a ++ new ++ xs.extract c xs.size) items).size ≤ sizeLine + 1 := by
    simp only [Array.size_append, Array.size_extract]
    omega
  unfold setItem
  try with_reducible refine wpAny_holding ?_
  first | refine wpAny_bind (wpAny_pure ?_) | skip
  refine wpAny_bind (wpAny_sequenceKey hl.typeIs (by decide) ?_)
  refine wpAny_bind (wpAny_callSpecial?_slot (name := Str.ofString "__setitem__") hl.typeIs slot_list_setitem
    (wpAny_call_entry slot_list_setitem hl.typeIs entry_list_setitem ?_ (args_list_setitem _ _ _)))
  show wpAny _ _ (Builtin.List.listSubscript? (.ref sl) >>= _) _ _ s
  refine wpAny_bind ?_
  unfold Builtin.List.listSubscript?
  refine wpAny_bind (wpAny_specialOf hTs slice_no_index ?_)
  simp only [Option.isNone_none, if_true]
  refine wpAny_pure ?_
  show wpAny _ _ (typeOf (.ref sl) >>= _) _ _ s
  refine wpAny_bind (wpAny_typeOf hTs ?_)
  first
    | rw [if_neg (by decide)]
    | refine PySem.W.KFB.if_not (by decide) ?_
  rw [listSliceParts_eq]
  refine wpAny_bind (wpAny_bind (wpAny_field hos hds (x := .none) rfl (wpAny_bind (wpAny_listPart .none ?_))))
  rw [if_neg hstep]
  refine wpAny_bind (wpAny_field hos hds (x := vl) rfl (wpAny_bind (wpAny_listPart pl ?_)))
  refine wpAny_bind (wpAny_field hos hds (x := vu) rfl (wpAny_bind (wpAny_listPart pu (wpAny_pure ?_))))
  first
    | simp only [hsame, Bool.false_eq_true, if_false]
    | refine PySem.W.KFB.if_not hsame ?_
    | (dsimp only
       rw [if_neg (by rw [hsame]; exact Bool.false_ne_true)])
  refine wpAny_bind (m := Builtin.List.listAllItems (.ref b) "must assign iterable to extended slice") ?_
  unfold Builtin.List.listAllItems
  refine wpAny_bind (wpAny_typeOf hb.typeIs ?_)
  first
    | refine PySem.W.KFB.if_so (by decide) ?_
    | rw [if_pos (by decide)]
    | simp only [beq_self_eq_true, Bool.true_or, if_true]
  unfold Builtin.List.listItems
  refine wpAny_bind (wpAny_seqItems e2 rfl (wpAny_pure ?_))
  refine wpAny_bind (wpAny_bind (wpAny_seqItems e rfl (wpAny_pure ?_)))
  refine wpAny_bind (wpAny_of_eq ((sliceIndices_raw (some (a : Int)) (some (c : Int)) none items.size (by simp)).trans (congrArg (pure : Int × Int × Int → Sem (Int × Int × Int)) (bounds_run hac hc))) ?_)
  show wpAny _ _ (if ((1 : Int) == 1) = true then _ else _) _ _ s
  rw [if_pos (by decide)]
  refine wpAny_bind (wpAny_rule ?_)
  first
    | simp only [notLongL hsz, Bool.false_eq_true, if_false]
    | refine PySem.W.KFB.if_not (notLongL hsz) ?_
  first | refine wpAny_bind (wpAny_pure ?_) | skip
  show wpAny _ _ (updateSeq l (fun xs => xs.extract 0 ((a : Int)).toNat ++ new ++ xs.extract (max (a : Int) (c : Int)).toNat xs.size) >>= _) _ _ s
  rw [hmax, Int.toNat_natCast]
  refine wpAny_bind (wpAny_updateSeq (hz := Nat.le_trans (Nat.le_add_right _ _) hsz) (_hz' := hz') e rfl ?_)
  refine wpAny_bind (wpAny_letGo ?_)
  first
    | exact wpAny_bind (wpAny_pure (wpAny_pure ⟨.none, rfl, wpAny_pure h⟩))
    | exact wpAny_pure ⟨.none, rfl, wpAny_pure h⟩
end

section
variable {X : Cx}
/-- xs[a:c] = ys of another list, at the value level: sl is the slice object that was just made -/
theorem set_slice {pins : List (Addr × Obj)} {s : Shared} {σ : St} {H : Hp} {l b sl : Addr} {xs ys : List V} {a c : Int} {vl vu : Value} {Q : Unit → Shared → Prop} (I : Inv X pins σ H s)
    (hH : H l = some (.lst xs)) (hB : H b = some (.lst ys)) (hne : l ≠ b) (hs : s.heap.IsSliceOf sl vl vu .none) (ra : RelV (.int a) vl) (rc : RelV (.int c) vu) (h0 : 0 ≤ a) (hac : a ≤ c) (hc : c ≤ xs.length)
    (hz : xs.length + ys.length ≤ sizeLine) (h : ∀ s', Inv X pins σ (upd H l (.lst (xs.take a.toNat ++ ys ++ xs.drop c.toNat))) s' → Q () s') :
    wpAny (model X.prog X.w) X.A (setItem (.ref l) (.ref sl) (.ref b)) Q X.xe s := by
  obtain ⟨ta, rfl⟩ := ra
  obtain ⟨tc, rfl⟩ := rc
  obtain ⟨z, its, n, r, hl, e⟩ := I.lstM hH
  obtain ⟨z2, its2, n2, r2, hl2, e2⟩ := I.lstM hB
  obtain ⟨a', rfl⟩ := Int.eq_ofNat_of_zero_le h0
  obtain ⟨c', rfl⟩ := Int.eq_ofNat_of_zero_le (Int.le_trans h0 hac)
  simp only [Int.toNat_natCast] at h
  refine setItem_slice (a := a') (c := c') e e2 hne hs (.int _ _) (.int _ _) (by omega) (by rw [List.size_toArray]; omega) (by rw [List.size_toArray, List.size_toArray]; omega) (h _ ?_)
  refine I.lset (its' := its.take a' ++ its2 ++ its.drop c') (t' := s.toks) hH e ?_ (Vals.append (Vals.append (r.take _) r2) (r.drop _)) ?_
  · exact splice_eq its its2 a' c'
  · rw [List.length_append, List.length_append, List.length_take, List.length_drop]
    omega
end
end L2

namespace Att
open PySem PySem.W PySem.Calls PyProof.Rows

/-! ### the script -/
theorem ints_of_wellAll {P : Params} {h : Heap} : ∀ (ns : List Int) (vs : List Value), WellAll P h vs (ns.map WData.int) → IntsAre vs ns := by
  intro ns
  induction ns with
  | nil =>
    intro vs w
    rw [List.map_nil] at w
    cases w
    exact .nil
  | cons n ns ih =>
    intro vs w
    rw [List.map_cons] at w
    cases w with
    | cons a b =>
      cases a
      exact .cons _ _ (ih _ b)

theorem script_of {l : OpenLaw} {n : Nat} (hn : l.most = some n) {P : Params} {h : Heap} {args : List WData} {vals : List Value}
    (hpre : l.row.toRowW.claim.pre args = true) (hwl : WellAll P h vals args) :
    ∃ a vs ns, vals = [Value.ref a] ∧ args = [WData.list (ns.map WData.int)] ∧ h.get? a = some { cls := .type "list", data := .seq vs.toArray } ∧ IntsAre vs ns ∧ ns.length ≤ n := by
  have hsh : WShape.hasAll [] args [.list .int] = true := (pre_splitW hpre).1
  have hc : l.pre.holds [] { args := args } = true := (pre_splitW hpre).2
  obtain ⟨d, r, rfl, h1, h2⟩ := hasAllW_cons hsh
  obtain rfl := hasAllW_nil h2
  obtain ⟨xs, rfl, h3⟩ := hasW_list h1
  obtain ⟨ns, rfl⟩ := items_int h3
  have hlen : ns.length ≤ n := by
    unfold OpenLaw.pre at hc
    have h4 : (WTm.not (.lt (.lit (.int (n : Int))) (.len (.arg 0)))).holds [] { args := [.list (ns.map .int)] } = true := by
      have h4 := (holds_andW hc).1
      rw [hn] at h4
      exact h4
    have h5 := condW_of h4 (w_not (w_lt w_lit (w_len_list (w_arg rfl))))
    rw [List.length_map] at h5
    refine Nat.le_of_not_lt fun q => ?_
    have q' : (n : Int) < ((ns.length : Nat) : Int) := by omega
    first
      | (rw [decide_eq_true q'] at h5; exact absurd h5 (by decide))
      | (simp at h5; omega)
  cases hwl with
  | cons w1 w2 =>
    cases w2
    cases w1 with
    | list ho hall => exact ⟨_, _, ns, rfl, rfl, ho, ints_of_wellAll ns _ hall, hlen⟩

theorem post_true (l : OpenLaw) (args : List WData) : l.row.toRowW.claim.post args (.bool true) args = true :=
  postW_of (r := l.row.toRowW) (X := (true == true))
    (show WShape.has [] (.bool true) .bool = true by first | rfl | decide | simp [WShape.has, WShape.arms, WShape.armsAll])
    (show (WTm.eq .res (.lit (.bool true))).value [] { args := args, res := some (.bool true), after := args } = some (.bool (true == true)) from w_eq_bool (w_res rfl) w_lit) rfl

/-! ### the attachment: holds_open's last premise (the goal 'hc' behind k_head) from a wpAny of the law's body -/
theorem attach {l : OpenLaw} {n : Nat} {q : Program} {loose : List Str} {XP : (Str → Option Value) → Heap → Prop} {YP : World → Heap → Prop} {d : DefRec} {x : Str}
    (hn : l.most = some n) (hdf : d.params.defaults = [])
    (hbind : ∀ pm cd doc v : Value, bindArgs (docDef d.name d.params d.body d.scope pm cd doc) ⟨[v], []⟩ = pure [(x, v)])
    (hx : d.scope.names.lookup x = some .local ∨ d.scope.names.lookup x = some .cell)
    (hk : d.scope.kind = .function) (hco : d.scope.isCoroutine = false) (hgen : d.scope.isGenerator = false)
    (body : ∀ (w : World) (s₀ s₁ s : Shared) (mg mb : Str → Option Value) (fa : Addr) (o : Obj) (pm cd doc : Value) (a : Addr) (vs : List Value) (ns : List Int),
      Ground q loose [] XP w s₀ mg mb s₁.heap → YP w s₁.heap →
      s₁.heap.get? fa = some o → o.data = .func (docDef d.name d.params d.body d.scope pm cd doc) → s₁.heap.CodeRec cd d.name → mg d.name = some (.ref fa) →
      s₁.heap.get? a = some { cls := .type "list", data := .seq vs.toArray } → IntsAre vs ns → ns.length ≤ n →
      s.gens = #[] → s.os = s₁.os →
      Fr s₁.heap s₁.heap.objs.size s.heap (bindL (envOfC d.name d.scope s₁.heap.objs.size fa cd).kindOf [(x, .ref a)] fun _ => none) →
      Cl s₁.heap.objs.size (cellsFrom (s₁.heap.objs.size + 1) d.scope.names []) s.heap (bindC (envOfC d.name d.scope s₁.heap.objs.size fa cd).kindOf [(x, .ref a)] fun _ => none) →
      wpAny (model l.prog w) (callerA.deeper (envOfC d.name d.scope s₁.heap.objs.size fa cd)) (execs d.body (envOfC d.name d.scope s₁.heap.objs.size fa cd))
        (fun f s' => f = .ret (.bool true) ∧ OldK s₁.heap s'.heap ∧ s'.os = s₁.os ∧ AllBare s'.gens) (fun _ _ => False) s) :
    WalkO q loose XP YP l.row.toRowW d [] (fun f vs => PySem.call f vs) := by
  intro w s₀ s₁ mg mb G Y fa o pm cd doc dV kV ho hd hcd hD hmg hg args vals as hpre hlay hrd hwl hlo
  obtain rfl : dV = .none := Dflts.none hD hdf
  obtain rfl : kV = .none := Dflts.noKw hD
  obtain ⟨a, vs, ns, rfl, rfl, hobj, hints, hlen⟩ := script_of hn hpre hwl
  refine enter_call ?_
  refine call_cells_ret (o := o) (by rw [depth_caller]; decide) ho (fd_plain hd) G.T.nolimit hcd (hbind pm cd doc (.ref a)) (fun y hy => ?_) (fun h₁ tk F X => ?_) hco hgen hk
  · obtain rfl : y = (x, Value.ref a) := List.mem_singleton.mp hy
    rcases hx with e | e
    · exact .inl e
    · exact .inr ⟨e, cellsFrom_some _ _ _ (.inl e)⟩
  · refine wpAny_mono (body w s₀ s₁ { s₁ with heap := h₁, toks := tk } mg mb fa o pm cd doc a vs ns G Y ho (fd_plain hd) hcd hmg hobj hints hlen hg rfl F X) (fun f s' hq => ?_) (fun _ _ hq => hq)
    obtain ⟨rfl, h2, h3, h4⟩ := hq
    exact ⟨.inl ⟨.bool true, .bool true, [], rfl, fun _ => rfl, .bool true, post_true l _, fun _ => ⟨List.Pairwise.nil, fun _ hm => (nomatch hm)⟩⟩, h2, h3, h4⟩

/-- the same from a codeAny of the CALL (for a layer whose function contracts speak of calls) -/
theorem attach_call {l : OpenLaw} {n : Nat} {q : Program} {loose : List Str} {XP : (Str → Option Value) → Heap → Prop} {YP : World → Heap → Prop} {d : DefRec}
    (hn : l.most = some n) (hdf : d.params.defaults = [])
    (call : ∀ (w : World) (s₀ s₁ : Shared) (mg mb : Str → Option Value) (fa : Addr) (o : Obj) (pm cd doc : Value) (a : Addr) (vs : List Value) (ns : List Int),
      Ground q loose [] XP w s₀ mg mb s₁.heap → YP w s₁.heap →
      s₁.heap.get? fa = some o → o.data = .func (docDef d.name d.params d.body d.scope pm cd doc) → s₁.heap.CodeRec cd d.name → mg d.name = some (.ref fa) →
      s₁.heap.get? a = some { cls := .type "list", data := .seq vs.toArray } → IntsAre vs ns → ns.length ≤ n → s₁.gens = #[] →
      codeAny (model l.prog w) callerA (.call (.ref fa) ⟨[.ref a], []⟩) (fun r s' => r = .ok (.ret (.bool true)) ∧ OldK s₁.heap s'.heap ∧ s'.os = s₁.os ∧ AllBare s'.gens) s₁) :
    WalkO q loose XP YP l.row.toRowW d [] (fun f vs => PySem.call f vs) := by
  intro w s₀ s₁ mg mb G Y fa o pm cd doc dV kV ho hd hcd hD hmg hg args vals as hpre hlay hrd hwl hlo
  obtain rfl : dV = .none := Dflts.none hD hdf
  obtain rfl : kV = .none := Dflts.noKw hD
  obtain ⟨a, vs, ns, rfl, rfl, hobj, hints, hlen⟩ := script_of hn hpre hwl
  refine enter_call (codeAny_mono (call w s₀ s₁ mg mb fa o pm cd doc a vs ns G Y ho (fd_plain hd) hcd hmg hobj hints hlen hg) fun r s' hq => ?_)
  obtain ⟨rfl, h2, h3, h4⟩ := hq
  exact ⟨.inl ⟨.bool true, .bool true, [], rfl, fun _ => rfl, .bool true, post_true l _, fun _ => ⟨List.Pairwise.nil, fun _ hm => (nomatch hm)⟩⟩, h2, h3, h4⟩

/-- the same where the top left finished generators (o_head chose holds_openN): nothing may have changed at all and no generator may be left -/
theorem attachN {l : OpenLaw} {n : Nat} {q : Program} {loose : List Str} {XP : (Str → Option Value) → Heap → Prop} {YP : World → Heap → Prop} {d : DefRec} {x : Str}
    (hn : l.most = some n) (hdf : d.params.defaults = [])
    (hbind : ∀ pm cd doc v : Value, bindArgs (docDef d.name d.params d.body d.scope pm cd doc) ⟨[v], []⟩ = pure [(x, v)])
    (hx : d.scope.names.lookup x = some .local ∨ d.scope.names.lookup x = some .cell)
    (hk : d.scope.kind = .function) (hco : d.scope.isCoroutine = false) (hgen : d.scope.isGenerator = false)
    (body : ∀ (w : World) (s₀ s₁ s : Shared) (mg mb : Str → Option Value) (fa : Addr) (o : Obj) (pm cd doc : Value) (a : Addr) (vs : List Value) (ns : List Int),
      Ground q loose [] XP w s₀ mg mb s₁.heap → YP w s₁.heap →
      s₁.heap.get? fa = some o → o.data = .func (docDef d.name d.params d.body d.scope pm cd doc) → s₁.heap.CodeRec cd d.name → mg d.name = some (.ref fa) →
      s₁.heap.get? a = some { cls := .type "list", data := .seq vs.toArray } → IntsAre vs ns → ns.length ≤ n →
      s.gens = #[] → s.os = s₁.os →
      Fr s₁.heap s₁.heap.objs.size s.heap (bindL (envOfC d.name d.scope s₁.heap.objs.size fa cd).kindOf [(x, .ref a)] fun _ => none) →
      Cl s₁.heap.objs.size (cellsFrom (s₁.heap.objs.size + 1) d.scope.names []) s.heap (bindC (envOfC d.name d.scope s₁.heap.objs.size fa cd).kindOf [(x, .ref a)] fun _ => none) →
      wpAny (model l.prog w) (callerA.deeper (envOfC d.name d.scope s₁.heap.objs.size fa cd)) (execs d.body (envOfC d.name d.scope s₁.heap.objs.size fa cd))
        (fun f s' => f = .ret (.bool true) ∧ (∀ b o, s₁.heap.get? b = some o → s'.heap.get? b = some o) ∧ s'.os = s₁.os ∧ s'.gens = #[]) (fun _ _ => False) s) :
    WalkN q loose XP YP l.row.toRowW d [] (fun f vs => PySem.call f vs) := by
  intro w s₀ s₁ mg mb G Y fa o pm cd doc dV kV ho hd hcd hD hmg hg args vals as hpre hlay hrd hwl hlo
  obtain rfl : dV = .none := Dflts.none hD hdf
  obtain rfl : kV = .none := Dflts.noKw hD
  obtain ⟨a, vs, ns, rfl, rfl, hobj, hints, hlen⟩ := script_of hn hpre hwl
  refine enter_callW ?_
  refine call_cells_ret (o := o) (by rw [depth_caller]; decide) ho (fd_plain hd) G.T.nolimit hcd (hbind pm cd doc (.ref a)) (fun y hy => ?_) (fun h₁ tk F X => ?_) hco hgen hk
  · obtain rfl : y = (x, Value.ref a) := List.mem_singleton.mp hy
    rcases hx with e | e
    · exact .inl e
    · exact .inr ⟨e, cellsFrom_some _ _ _ (.inl e)⟩
  · refine wpAny_mono (body w s₀ s₁ { s₁ with heap := h₁, toks := tk } mg mb fa o pm cd doc a vs ns G Y ho (fd_plain hd) hcd hmg hobj hints hlen hg rfl F X) (fun f s' hq => ?_) (fun _ _ hq => hq)
    obtain ⟨rfl, h2, h3, h4⟩ := hq
    exact ⟨.inl ⟨.bool true, .bool true, [], rfl, fun _ => rfl, .bool true, post_true l _, fun _ => ⟨List.Pairwise.nil, fun _ hm => (nomatch hm)⟩⟩, h2, h3, h4⟩

/-! ### rules over ANY heap (no ledger) from facts about the written part K: the library's own take a ledger (News) for what they write -/
section
variable {prog : Program} {w : World} {A : Around} {E : Value → Shared → Prop} {s : Shared} {K : Frag}

/-- a def of the module, or a method (qual 'C.m'), entered: the frame is the next address; cells behind it -/
theorem call_fn {R : Result → Shared → Prop} {name qual : Str} {params : Arguments} {body : List Stmt} {scope : Scope} {dV kV doc pm cdv ct oc : Value} {an od : Option Addr} {osl : Array (Option Value)} {f : Addr} {args : Args} {binds : List (Str × Value)}
    (X : K.In s.heap) (hlim : s.heap.NoLimit) (ho : K.lookup f = some ⟨oc, od, .func (fnOf name qual params body scope dV kV doc pm an cdv ct), osl⟩) (hcd : codeIn K cdv qual = true) (hroom : A.depth < recursionLimit)
    (hbind : BindsTo s (fnOf name qual params body scope dV kV doc pm an cdv ct) args binds)
    (hkind : (binds.all fun y => scope.names.lookup y.1 == some .local || scope.names.lookup y.1 == some .cell) = true)
    (h : ∀ s₁, InCallC s s.heap.objs.size (bindL (envOfC qual scope s.heap.objs.size f cdv).kindOf binds fun _ => none) (cellsFrom (s.heap.objs.size + 1) scope.names [])
        (bindC (envOfC qual scope s.heap.objs.size f cdv).kindOf binds fun _ => none) s₁ →
      wpAny (model prog w) (A.deeper (envOfC qual scope s.heap.objs.size f cdv)) (execs body (envOfC qual scope s.heap.objs.size f cdv))
        (fun fl s' => R (.ok (.ret (match fl with | .ret v => v | _ => .none))) s')
        (fun e s' => wpAny (model prog w) (A.deeper (envOfC qual scope s.heap.objs.size f cdv)) (leaving (envOfC qual scope s.heap.objs.size f cdv) e) (fun _ s'' => R (.error e) s'') (fun e' s'' => R (.error e') s'') s') s₁)
    (hco : scope.isCoroutine = false) (hgen : scope.isGenerator = false) (hk : scope.kind = .function) : codeAny (model prog w) A (.call (.ref f) args) R s := by
  refine codeAny_call_function hroom (X _ _ ho) rfl hco hgen rfl (codeRec_of X hcd) (hbind _ _ _ _ ?_)
  refine wpAny_newFunctionEnv_cells hk (kindsX hkind _) fun env he s₁ x => ?_
  subst he
  exact ⟨hlim.keeps x.toInCall.keep, codeAny_func (h s₁ x)⟩

/-- C(..): dict at size, instance at size + 1, then __init__ -/
theorem make_obj {R : Result → Shared → Prop} {C fI : Addr} {rest : List Value} {kw : List (Str × Value)}
    (X : K.In s.heap) (hm : makesIn K C = true) (hi : findIn K (.ref C) "__init__" = some (some (.ref fI))) (hf : isFn K (.ref fI) = true)
    (h : codeAny (model prog w) (A.under (.builtin "type.__call__" ⟨.ref C :: rest, kw⟩)) (.call (.ref fI) ⟨.ref (s.heap.objs.size + 1) :: rest, kw⟩) (InitBack (s.heap.objs.size + 1) R)
      { s with heap := (s.heap.push emptyDict).push (instObj C s.heap.objs.size) }) : codeAny (model prog w) A (.call (.ref C) ⟨rest, kw⟩) R s := by
  obtain ⟨hh, g, d, t, os⟩ := s
  exact make_core (makes_of X hm) (looks_findIn X hi) (fun self => bind_fn X self (beq_iff_eq.mp hf)) (.inl rfl) h

/-- x.name where the instance's dict holds the name and the class does not -/
theorem get_field {x C : Addr} {ox : Obj} {es : List DictEntry} {n : Nat} {name : Str} {expr : Bool} {v : Value} {Q : Value → Shared → Prop}
    (X : K.In s.heap) (I : PySem.W.InstAt s.heap x ox C (some (dictOf es n))) (hg : plainGet K C name = true) (hh : hasDictIn K C = true) (ha : findIn K (.ref C) name = some none)
    (hl : getL name es = some (some v)) (hv : handedIn v = true) (h : Q v { s with toks := s.toks + 1 }) : wpAny (model prog w) A (getAttr (.ref x) name expr) Q E s :=
  get_value X I (plainGet_of hg).1 (findObj_own hh ha rfl hl) hv h

/-- x.m(..): the method found in the class -/
theorem get_method {x C f : Addr} {ox : Obj} {es : List DictEntry} {n : Nat} {name : Str} {pl : Sem Bool} {Q : Value × List Value → Shared → Prop}
    (X : K.In s.heap) (I : PySem.W.InstAt s.heap x ox C (some (dictOf es n))) (hg : plainGet K C name = true) (hf : findIn K (.ref C) name = some (some (.ref f))) (ht : isFn K (.ref f) = true)
    (hl : getL name es = some none) (h : Q (.ref f, [.ref x]) s) : wpAny (model prog w) A (getMethod (.ref x) name pl) Q E s :=
  method_fn X I (plainGet_of hg).1 (plainGet_of hg).2 hf (beq_iff_eq.mp ht) (by show (lookIn name (dictOf es n)).map _ = _; rw [lookIn_dict, hl]; rfl) h

/-! the whole heap as the ledger: makes every rule that writes through a ledger a rule over any heap -/
def noObjs (h : Heap) : Heap := { h with objs := #[] }
theorem noObjs_get (h : Heap) (b : Addr) : (noObjs h).get? b = none := by
  cases e : (noObjs h).get? b with
  | none => rfl
  | some o => exact absurd (Heap.lt_size e) (Nat.not_lt_zero _)
def ledger (h : Heap) (L d : Addr) : List (Addr × Obj) := (List.range h.objs.size).filterMap fun a => if a = L ∨ a = d then none else (h.get? a).map fun o => (a, o)
theorem mem_ledger {h : Heap} {L d a : Addr} {o : Obj} : (a, o) ∈ ledger h L d ↔ a ≠ L ∧ a ≠ d ∧ h.get? a = some o := by
  unfold ledger
  rw [List.mem_filterMap]
  constructor
  · rintro ⟨b, _, e⟩
    split at e
    · cases e
    · rename_i hb
      obtain ⟨o', ho, e'⟩ := Option.map_eq_some_iff.mp e
      cases e'
      exact ⟨fun q => hb (.inl q), fun q => hb (.inr q), ho⟩
  · rintro ⟨n1, n2, ho⟩
    refine ⟨a, List.mem_range.mpr (Heap.lt_size ho), ?_⟩
    rw [if_neg (show ¬ (a = L ∨ a = d) from fun q => q.elim n1 n2), ho] <;> rfl
theorem news_ledger {h : Heap} {L d : Addr} {od : Obj} (hne : d ≠ L) (ho : h.get? d = some od) : News (noObjs h) L h ([] ++ (d, od) :: ledger h L d) := by
  rintro ⟨a, o⟩ hp
  rcases List.mem_cons.mp hp with e | hp
  · cases e
    exact ⟨ho, hne, noObjs_get _ _⟩
  · obtain ⟨n1, n2, e⟩ := mem_ledger.mp hp
    exact ⟨e, n1, noObjs_get _ _⟩
theorem fr_all {h : Heap} {L : Addr} {m : Str → Option Value} (n : h.Ns L m) : Fr (noObjs h) L h m :=
  ⟨n, fun b o e => (by rw [noObjs_get] at e; cases e), Nat.zero_le _⟩
/-- Upd of the head entry (for append_K, setItem_K ..) -/
theorem upd_ledger {h : Heap} {L d : Addr} {o o' : Obj} : Upd d o o' ((d, o) :: ledger h L d) ((d, o') :: ledger h L d) :=
  .head fun ⟨_, _⟩ hp => (mem_ledger.mp hp).2.1

/-- x.name = v over any heap: L is any namespace of the heap (the frame's, say): its map stays, its object is not told; all else but the dict stays -/
theorem set_field {x C dx L : Addr} {ox : Obj} {m : Str → Option Value} {es es' : List DictEntry} {n n' : Nat} {name : Str} {v : Value} {Q : Unit → Shared → Prop}
    (X : K.In s.heap) (I : PySem.W.InstAt s.heap x ox C (some (dictOf es n))) (hd : ox.dict = some dx) (hL : s.heap.Ns L m) (hne : dx ≠ L)
    (hs : findIn K (.ref C) "__setattr__" = some (some (.builtin "object.__setattr__"))) (hp : plainOver K C = true) (ht : takerIn K C name = some none) (hh : hasDictIn K C = true) (hl : (getL name es).isSome = true)
    (e : (putL name (PyData.keyHash w.params name) (.str name (s.toks + 1)) v es, putN name es n) = (es', n')) (hz : es'.length ≤ 1000)
    (h : ∀ h' : Heap, h'.Ns L m → h'.get? dx = some (dictOf es' n') → (∀ b o, b ≠ dx → b ≠ L → s.heap.get? b = some o → h'.get? b = some o) → Q () { s with heap := h', toks := s.toks + 2 }) :
    wpAny (model prog w) A (setAttr (.ref x) name v) Q E s := by
  obtain ⟨e1, e2⟩ := Prod.mk.inj e
  have hdx : s.heap.get? dx = some (dictOf es n) := by
    have := I.dict
    rw [hd] at this
    exact this
  refine set_plain X I hs (osa_dict (s := { s with toks := s.toks + 1 }) (h₀ := noObjs s.heap) (L := L) (m := m) (od := dictOf es n) (od' := dictOf es' n') (es := es') (n := n') (pre := []) (post := ledger s.heap L dx)
    (fr_all hL) (news_ledger hne hdx) X I hd hp ht hh hl (fun _ q => nomatch q) (fun ⟨_, _⟩ q => (mem_ledger.mp q).2.1) (by rw [putName_dict, e1, e2]) rfl hz fun h' F' N' => ?_)
  exact h h' F'.ns (N'.get (List.Mem.head _)) fun b o n1 n2 ho => N'.get (List.Mem.tail _ (mem_ledger.mpr ⟨n2, n1, ho⟩))
end
end Att

namespace L2
open PySem PySem.Spec PyProof.Rows

theorem vals_ints : ∀ {vs : List Value} {ns : List Int}, IntsAre vs ns → Vals (ns.map V.int) vs
  | _, _, .nil => .nil
  | _, _, .cons n t h => .cons ⟨t, rfl⟩ (vals_ints h)

/-- nothing is tracked but the script, known to the object (or it is an object of the module) -/
def Only (H : Hp) : Prop := ∀ b, H b = none ∨ ∃ o xs, H b = some (.frz o (.lst xs))

/-- THE HEAD: the law's promise, at the heap behind the top. F, the promise of the law's def, may use that base is part of the heap (so K.In base, base.Ns mainGlobals mg stand in Mod) -/
theorem law_call {P : Program} {w : World} {K : PySem.W.Frag} {mg mb : Str → Option Value} {CX : CXT} {k : Nat} {fa a : Addr} {fd : FuncData} {x : Str} {sp : Sp} {s₁ : Shared} {vs : List Value} {ns : List Int}
    (KX : K.In s₁.heap) (hns : s₁.heap.Ns mainGlobals mg) (hb : s₁.heap.Ns builtinsNs mb) (hbb : ∀ x : Str, x ≠ "__name__" → mb x = bootBuiltins x) (hlim : s₁.heap.NoLimit) (hg : s₁.gens = #[])
    (ha : s₁.heap.get? a = some { cls := .type "list", data := .seq vs.toArray }) (hi : IntsAre vs ns) (hl : ns.length ≤ sizeLine) (hr : Room k callerA)
    (F : ∀ base : Heap, K.In base → base.Ns mainGlobals mg → FnOk P w K mg base CX k fa fd [x] sp) (hbind : ∀ (s : Shared) (u : Value), BindsTo s fd ⟨[u], []⟩ [(x, u)])
    (hsp : ∀ H : Hp, Only H → SqL K H a (ns.map V.int) → sp [.ref a] H (fun v _ => v = .bl true) fun _ _ _ => False)
    (hCX : ∀ H e s', CX [] H s₁ (fun _ _ _ => False) e s' → False) :
    codeAny (model P w) callerA (.call (.ref fa) ⟨[.ref a], []⟩) (fun r s' => r = .ok (.ret (.bool true)) ∧ OldK s₁.heap s'.heap ∧ s'.os = s₁.os ∧ AllBare s'.gens) s₁ := by
  have rv := vals_ints hi
  have lenV := hi.length
  -- from an abstract heap in which nothing but the script may be tracked
  have core : ∀ H : Hp, Only H → SqL K H a (ns.map V.int) → HOk P w H s₁.heap → (∀ b, H b ≠ none → b = a) → (H a ≠ none → K.lookup a = none) →
      codeAny (model P w) callerA (.call (.ref fa) ⟨[.ref a], []⟩) (fun r s' => r = .ok (.ret (.bool true)) ∧ OldK s₁.heap s'.heap ∧ s'.os = s₁.os ∧ AllBare s'.gens) s₁ := by
    intro H hO hS hok hA hK
    have base_of : ∀ {b : Addr} {o : Obj}, s₁.heap.get? b = some o → H b = none → (hidT s₁.heap H).get? b = some o := fun e n => hidT_get e n
    have noA : ∀ {b : Addr} {o : Obj} {es : Array DictEntry} {ep : Nat}, s₁.heap.get? b = some o → o.data = .dict es ep → H b = none := fun {b o es ep} e d => by
      cases q : H b with
      | none => rfl
      | some u =>
        have e' : b = a := hA b (by rw [q]; simp)
        subst e'
        rw [ha] at e; cases e
        have d' : Data.seq vs.toArray _ = Data.dict es ep := d
        cases d'
    have nsK : ∀ {b : Addr} {m : Str → Option Value}, s₁.heap.Ns b m → (hidT s₁.heap H).Ns b m := fun {b m} ⟨o, es, ep, e, d, r⟩ => ⟨o, es, ep, base_of e (noA e d), d, r⟩
    have hKb : K.In (hidT s₁.heap H) := fun b o e => base_of (KX b o e) (by
      cases q : H b with
      | none => rfl
      | some u =>
        have e' : b = a := hA b (by rw [q]; simp)
        subst e'
        rw [hK (by rw [q]; simp)] at e; cases e)
    have hM : Mod K mg (hidT s₁.heap H) := ⟨hKb, nsK hns, ⟨mb, nsK hb, hbb⟩, let ⟨mc, h1, h2⟩ := hlim; ⟨mc, nsK h1, h2⟩⟩
    have e0 : Env0 P w K mg (hidT s₁.heap H) callerA [] s₁ H := ⟨rfl, hM, fun b o e => of_hidT e, Nat.le_of_eq (hidT_size _ _), trivial, fun b hb => absurd (show b ∈ ([] : List Addr) from hb) (by simp), hok, .of_eq hg⟩
    refine codeAny_mono ((F _ hKb (nsK hns)).run callerA [] s₁ H ⟨[.ref a], []⟩ [.ref a] [.ref a] _ _ hr e0 (hbind s₁ (.ref a)) (.cons rfl .nil) (hsp H hO hS)) fun r s' h => ?_
    cases r with
    | error e => exact (hCX H e s' h).elim
    | ok fl =>
      cases fl with
      | next => exact False.elim h
      | brk => exact False.elim h
      | cont => exact False.elim h
      | ret u =>
        obtain ⟨v, H', os, bare, un, hok', r', q⟩ := h
        have q' : v = .bl true := q
        subst q'
        obtain rfl : u = Value.bool true := r'
        refine ⟨rfl, OldK.of_keep fun b o e => ?_, os, bare⟩
        cases q : H b with
        | none => exact un.keep b o e q (by intro z; exact absurd (show b ∈ ([] : List Addr) from z) (by simp)) (by simp)
        | some u =>
          rcases hO b with z | ⟨ob, xs, z⟩
          · rw [q] at z; cases z
          · have z2 := un.frzs b ob _ z
            obtain ⟨e1, _⟩ := hok b _ z
            obtain ⟨e2, _⟩ := hok' b _ z2
            rw [e] at e1; cases e1
            exact e2
  cases hk : K.lookup a with
  | some o =>
    -- the script is one of the module's own objects
    have e := KX a o hk
    rw [ha] at e
    cases e
    refine core (fun _ => none) (fun _ => .inl rfl) (.inr ⟨_, vs.toArray, _, hk, rfl, rfl, rfl, by rw [List.size_toArray, lenV]; exact hl, by simpa using rv⟩) (fun b u z => by have z' : (none : Option HO) = some u := z; cases z') (fun b z => absurd rfl z) fun z => absurd rfl z
  | none =>
    refine core (fun b => if b = a then some (.frz { cls := .type "list", data := .seq vs.toArray } (.lst (ns.map V.int))) else none) (fun b => ?_) (.inl (.inr ⟨{ cls := .type "list", data := .seq vs.toArray }, if_pos rfl⟩)) (fun b u z => ?_) (fun b z => ?_) fun _ => hk
    · by_cases hb : b = a
      · exact .inr ⟨_, _, if_pos hb⟩
      · exact .inl (if_neg hb)
    · by_cases hb : b = a
      · have z' := (if_pos hb).symm.trans z
        cases z'
        subst hb
        exact ⟨ha, by rw [List.length_map]; exact hl, vs, _, rv, ha⟩
      · have z' := (if_neg hb).symm.trans z
        cases z'
    · by_cases hb : b = a
      · exact hb
      · exact absurd (if_neg hb) z
end L2

namespace L2
open PySem PySem.Spec PyProof.Rows

abbrev KOf {K : PySem.W.Frag} {h : Heap} (_ : K.In h) : PySem.W.Frag := K

/-- the goal that k_head leaves (case hc), from the law's promise. F gives the function object fd (K's own) once, then the promise over every base -/
theorem walk_of {l : PySem.W.OpenLaw} {n k : Nat} {q : Program} {loose : List Str} {XP : (Str → Option Value) → Heap → Prop} {YP : World → Heap → Prop} {d : DefRec} {K : Params → PySem.W.Frag} {CX : World → CXT} {sp : World → Sp} {x : Str}
    (hn : l.most = some n) (hn2 : n ≤ sizeLine) (hdf : d.params.defaults = []) (hr : Room k callerA)
    (hY : ∀ (w : World) (h : Heap), YP w h → (K w.params).In h)
    (F : ∀ (w : World) (mg : Str → Option Value) (fa : Addr) (h : Heap), (K w.params).In h → h.Ns mainGlobals mg → mg d.name = some (.ref fa) →
      ∃ fd : FuncData, (∀ (s : Shared) (u : Value), BindsTo s fd ⟨[u], []⟩ [(x, u)]) ∧
        ∀ base : Heap, (K w.params).In base → base.Ns mainGlobals mg → FnOk l.prog w (K w.params) mg base (CX w) k fa fd [x] (sp w))
    (hsp : ∀ (w : World) (H : Hp) (a : Addr) (ns : List Int), ns.length ≤ n → Only H → SqL (K w.params) H a (ns.map V.int) → sp w [.ref a] H (fun v _ => v = .bl true) fun _ _ _ => False)
    (hCX : ∀ (w : World) (H : Hp) (s : Shared) (e : Value) (s' : Shared), CX w [] H s (fun _ _ _ => False) e s' → False) :
    PySem.W.WalkO q loose XP YP l.row.toRowW d [] (fun f vs => PySem.call f vs) := by
  refine Att.attach_call hn hdf fun w s₀ s₁ mg mb fa o pm cd doc a vs ns G Y ho hd hcd hmg hobj hints hlen hg => ?_
  have KX := hY w _ Y
  obtain ⟨fd, hb, hF⟩ := F w mg fa _ KX G.T.g hmg
  exact law_call KX G.T.g G.T.b G.T.builtins G.T.nolimit hg hobj hints (Nat.le_trans hlen hn2) hr hF hb (fun H hO hS => hsp w H a ns hlen hO hS) fun H e s' => hCX w H s₁ e s'
/-- the same where the promise hangs on the written part alone: (sp := My.sp_law), no hole under a binder -/
theorem walk_ofK {l : PySem.W.OpenLaw} {n k : Nat} {q : Program} {loose : List Str} {XP : (Str → Option Value) → Heap → Prop} {YP : World → Heap → Prop} {d : DefRec} {K : Params → PySem.W.Frag} {CX : CXT} {sp : PySem.W.Frag → Sp} {x : Str}
    (hn : l.most = some n) (hn2 : n ≤ sizeLine) (hdf : d.params.defaults = []) (hr : Room k callerA)
    (hY : ∀ (w : World) (h : Heap), YP w h → (K w.params).In h)
    (F : ∀ (w : World) (mg : Str → Option Value) (fa : Addr) (h : Heap), (K w.params).In h → h.Ns mainGlobals mg → mg d.name = some (.ref fa) →
      ∃ fd : FuncData, (∀ (s : Shared) (u : Value), BindsTo s fd ⟨[u], []⟩ [(x, u)]) ∧
        ∀ base : Heap, (K w.params).In base → base.Ns mainGlobals mg → FnOk l.prog w (K w.params) mg base CX k fa fd [x] (sp (K w.params)))
    (hsp : ∀ (K : PySem.W.Frag) (H : Hp) (a : Addr) (ns : List Int), ns.length ≤ n → Only H → SqL K H a (ns.map V.int) → sp K [.ref a] H (fun v _ => v = .bl true) fun _ _ _ => False)
    (hCX : ∀ (H : Hp) (s : Shared) (e : Value) (s' : Shared), CX [] H s (fun _ _ _ => False) e s' → False) :
    PySem.W.WalkO q loose XP YP l.row.toRowW d [] (fun f vs => PySem.call f vs) :=
  walk_of (K := K) (CX := fun _ => CX) (sp := fun w => sp (K w.params)) hn hn2 hdf hr hY F (fun w H a ns h1 h2 h3 => hsp (K w.params) H a ns h1 h2 h3) fun _ H s e s' => hCX H s e s'
end L2

/- THE LAST THEOREM (shape; LID, My.* are yours):
   My.Adr: a structure of the addresses that your layer names (classes, functions); My.Txt K t: a structure (Prop) of the equations over K;
   My.txt_mk : {K} {implicit addresses ..} (e1 : nsIn K mainGlobals "law" = some (some (.ref f))) (e2 : K.lookup f = some ⟨oc, od, .func (fnOf "law" "law" params body scope dV kV doc pm an cdv ct), sl⟩) (e3 : codeIn K cdv "law" = true) .. : ∃ t, My.Txt K t

set_option maxRecDepth 100000 in
set_option maxHeartbeats 0 in
theorem PySem.Challenge.cw_LID_holds : PySem.Challenge.rw_LID.Holds := by
  w_on; o_law; k_head; (case hw => w_witness2)
  k_fill
  refine L2.walk_of (l := PySem.Challenge.rw_LID) (n := 63) (k := 40) (x := "script") (CX := fun w => ..) (sp := fun _ => My.sp_law) rfl (by decide) rfl ⟨rfl, by decide, by decide⟩ (fun w h Y => PySem.W.kIn_of Y) ?F ?S ?C
  case F =>
    intro w mg fa h KX G hmg
    have T : ∃ t, My.Txt (L2.KOf KX) t := by
      dsimp only [L2.KOf]                          -- K must stand as «<heap const> w.params» for k_is
      refine' My.txt_mk ?e1 ?e2 ?e3 ..
      (case e1 => PySem.W.k_is)                    -- in the order: a name -> its address -> its object -> its parts
      (case e2 => PySem.W.k_is)
      ..
    obtain ⟨t, T⟩ := T
    have e0 := hmg.symm.trans (PySem.W.mg_of KX G T.law)
    cases e0                                       -- fa is the law's own address
    exact ⟨_, fun s u => .of_eq rfl, fun base kb nb => My.law_fn T kb nb⟩     -- if «.of_eq rfl» comes too early: refine' ⟨_, ?b, fun base kb nb => My.law_fn T kb nb⟩; exact fun s u => .of_eq rfl
  case S => exact fun w H a ns hl hO hS => ..
  case C => exact ..
(the tactic k_is has no namespace: write k_is) -/

/-! SHORT WORDS over the layer: a def of the text, its body, what a loop and a test want. -/
namespace L2
open PySem PySem.Spec PyProof.Rows

/-! ### the text by places -/
/-- the j-th statement of a class's body -/
def inClass (s : Stmt) (j : Nat) : Stmt := match s with
  | .ClassDef _ _ _ body _ _ _ _ _ _ _ => body.getD j (.Pass ⟨0, 0, 0, 0⟩)
  | _ => .Pass ⟨0, 0, 0, 0⟩
def defArgs (s : Stmt) : Arguments := match s with
  | .FunctionDef _ a _ _ _ _ _ _ _ _ => a
  | _ => { posonlyargs := [], args := [], vararg := none, kwonlyargs := [], kw_defaults := [], kwarg := none, defaults := [] }
def defBody (s : Stmt) : List Stmt := match s with
  | .FunctionDef _ _ b _ _ _ _ _ _ _ => b
  | _ => []
def defScope (s : Stmt) : Scope := match s with
  | .FunctionDef _ _ _ _ _ _ sc _ _ _ => sc
  | _ => { kind := .function, names := [], isGenerator := false, isCoroutine := false }

/-! ### no exception leaves a def -/
abbrev CX0 : CXT := fun _ _ _ _ _ _ => False
abbrev E0 : XK := fun _ _ _ => False
theorem pass0 {X : Cx} : Passes CX0 X E0 := fun _ _ _ _ _ _ _ h => h.elim

/-! ### a def (or method) of the text as it stands behind the top -/
structure Fun (K : PySem.W.Frag) (x qual : Str) (st : Stmt) (f : Addr) (fd : FuncData) : Prop where
  ex : ∃ (oc : Value) (od : Option Addr) (kV doc pm : Value) (an : Option Addr) (cdv ct : Value) (osl : Array (Option Value)),
    fd = PySem.W.fnOf x qual (defArgs st) (defBody st) (defScope st) .none kV doc pm an cdv ct ∧ K.lookup f = some ⟨oc, od, .func fd, osl⟩ ∧ PySem.W.codeIn K cdv qual = true
  kp : PySem.W.keepIn K (.ref f) = true
section
variable {P : Program} {w : World} {K : PySem.W.Frag} {mg : Str → Option Value} {base : Heap}
/-- THE RULE for a def: its body as a term of rules, and the reading of that term -/
theorem Fun.ok {x qual : Str} {st : Stmt} {f : Addr} {fd : FuncData} {N ps : List Str} {k : Nat} {sp : Sp} (F : Fun K x qual st f fd) (S : FnScope N ps (defScope st)) (len : ∀ vs H Q E, sp vs H Q E → vs.length = ps.length)
    (hbody : ∀ (cdv : Value) (A : Around) (outer : List Env) (s : Shared) (H : Hp) (vs : List V) (Q : VK) (E : XK), Room k (A.deeper (envOfC qual (defScope st) s.heap.objs.size f cdv)) → sp vs H Q E →
      ∃ t, PSs (cxOf CX0 P w K mg base N qual (defScope st) f cdv A outer s H E).nox (defBody st) t ∧ t { nx := fun _ H' => Q .non H', rt := Q } (start N vs) H) : FnOk P w K mg base CX0 (k + 1) f fd ps sp := by
  obtain ⟨oc, od, kV, doc, pm, an, cdv, ct, osl, rfl, lk, hcd⟩ := F.ex
  refine fn_of lk hcd S len fun A outer s H vs Q E hr hsp => ?_
  obtain ⟨t, h, q⟩ := hbody cdv A outer s H vs Q E hr hsp
  exact ⟨t, h.nox, q⟩
/-- how its arguments bind (no defaults): h is «fun _ _ _ _ _ _ us hl => match us, hl with | [_, _], _ => rfl», one _ a parameter -/
theorem Fun.binds {x qual : Str} {st : Stmt} {f : Addr} {fd : FuncData} {ps : List Str} (F : Fun K x qual st f fd)
    (h : ∀ (kV doc pm : Value) (an : Option Addr) (cdv ct : Value) (us : List Value), us.length = ps.length → bindArgs (PySem.W.fnOf x qual (defArgs st) (defBody st) (defScope st) .none kV doc pm an cdv ct) ⟨us, []⟩ = pure (ps.zip us)) : Binds K fd ps [] := by
  obtain ⟨oc, od, kV, doc, pm, an, cdv, ct, osl, rfl, lk, hcd⟩ := F.ex
  exact .all (h kV doc pm an cdv ct)
theorem fun_mk {x qual : Str} {st : Stmt} {f : Addr} {oc : Value} {od an : Option Addr} {osl : Array (Option Value)} {kV doc pm cdv ct : Value} (l : K.lookup f = some ⟨oc, od, .func (PySem.W.fnOf x qual (defArgs st) (defBody st) (defScope st) .none kV doc pm an cdv ct), osl⟩)
    (c : PySem.W.codeIn K cdv qual = true) (k : PySem.W.keepIn K (.ref f) = true) : Fun K x qual st f (PySem.W.fnOf x qual (defArgs st) (defBody st) (defScope st) .none kV doc pm an cdv ct) := ⟨⟨oc, od, kV, doc, pm, an, cdv, ct, osl, rfl, l, c⟩, k⟩
end
theorem hu_of {A : Around} {k : Nat} (hr : Room k A) : A.units + 1 < cLine := Nat.lt_of_le_of_lt (Nat.add_le_add_left (by decide : 1 ≤ 64) _) hr.units
theorem small1000 {n : Nat} (h : n ≤ 1000) : n < sizeLine := Nat.lt_of_le_of_lt h (by decide)

/-! ### expressions in short: the name that stands in the i-th slot -/
section
variable {X : Cx}
theorem pv (i : Nat) {x : Str} {pos : Pos} (hN : X.N[i]? = some x := by rfl) (hv : Vis X.env.scope x := by first | exact Or.inl rfl | exact Or.inr (Or.inl rfl) | exact Or.inr (Or.inr rfl)) (hd : (x == ("__debug__" : Str)) = false := by decide)
    (hcd : (x == ("__classdict__" : Str)) = false := by decide) : PE X (.Name x pos) (tVar i) := pe_var hN hv hd hcd
end

/-! ### tests -/
theorem iteF {A B : Prop} (h : B) : if false = true then A else B := by
  rw [if_neg Bool.false_ne_true]
  exact h
theorem iteT {A B : Prop} (h : A) : if true = true then A else B := by
  rw [if_pos rfl]
  exact h
theorem ite2 {c A B : Prop} [Decidable c] (h1 : c → A) (h2 : ¬ c → B) : if c then A else B := by
  by_cases h : c
  · rw [if_pos h]
    exact h1 h
  · rw [if_neg h]
    exact h2 h
theorem iteNS {c A B : Prop} [Decidable c] (hc : c) (h : B) : if (!decide c) = true then A else B := by
  rw [decide_eq_true hc]
  exact iteF h

/-! ### heaps -/
/-- all that was tracked is as it was -/
def Same (H H' : Hp) : Prop := ∀ b o, H b = some o → H' b = some o
theorem Same.refl (H : Hp) : Same H H := fun _ _ h => h
theorem Same.trans {H H1 H2 : Hp} (a : Same H H1) (b : Same H1 H2) : Same H H2 := fun c o h => b c o (a c o h)
theorem Same.free {H H' : Hp} (e : Same H H') {l : Addr} (h : H' l = Option.none) : H l = Option.none := by
  cases q : H l with
  | none => rfl
  | some o =>
    rw [e l o q] at h
    cases h
theorem Same.seq {K : PySem.W.Frag} {H H' : Hp} {a : Addr} {xs : List V} (e : Same H H') (h : SqL K H a xs) : SqL K H' a xs := by
  rcases h with (h | ⟨o, h⟩) | h
  · exact .inl (.inl (e _ _ h))
  · exact .inl (.inr ⟨o, e _ _ h⟩)
  · exact .inr h

end L2

/-! Own rules over the hand layer: any + and *, == by data, isinstance, sum, list(range), [::-1], a def in one word, short readings -/
namespace L2
open PySem PySem.Spec PyProof.Rows

/-- an argument that is an operation (said for any, so that nothing is reckoned) -/
theorem star_bin {a b : Expr} {op : Operator} {pos : Pos} {es : List Expr} {env : Env} : starEach (.BinOp a op b pos :: es) env = (false, eval (.BinOp a op b pos) env) :: starEach es env := rfl

theorem star_const {c : Const} {k : Nat} {pos : Pos} {es : List Expr} {env : Env} : starEach (.Constant c k pos :: es) env = (false, eval (.Constant c k pos) env) :: starEach es env := rfl
theorem star_name {x : Str} {pos : Pos} {es : List Expr} {env : Env} : starEach (.Name x pos :: es) env = (false, eval (.Name x pos) env) :: starEach es env := rfl
theorem star_sub {a b : Expr} {pos : Pos} {es : List Expr} {env : Env} : starEach (.Subscript a b pos :: es) env = (false, eval (.Subscript a b pos) env) :: starEach es env := rfl
theorem star_call {a : Expr} {as : List Expr} {ks : List Keyword} {pos : Pos} {es : List Expr} {env : Env} : starEach (.Call a as ks pos :: es) env = (false, eval (.Call a as ks pos) env) :: starEach es env := rfl
theorem star_list {as : List Expr} {pos : Pos} {es : List Expr} {env : Env} : starEach (.List as pos :: es) env = (false, eval (.List as pos) env) :: starEach es env := rfl
theorem star_tup {as : List Expr} {k : Nat} {pos : Pos} {es : List Expr} {env : Env} : starEach (.Tuple as k pos :: es) env = (false, eval (.Tuple as k pos) env) :: starEach es env := rfl
theorem star_un {op : UnaryOp} {a : Expr} {pos : Pos} {es : List Expr} {env : Env} : starEach (.UnaryOp op a pos :: es) env = (false, eval (.UnaryOp op a pos) env) :: starEach es env := rfl
theorem star_cmp {a : Expr} {ops : List CmpOp} {as : List Expr} {pos : Pos} {es : List Expr} {env : Env} : starEach (.Compare a ops as pos :: es) env = (false, eval (.Compare a ops as pos) env) :: starEach es env := rfl
theorem star_attr {a : Expr} {x : Str} {pos : Pos} {es : List Expr} {env : Env} : starEach (.Attribute a x pos :: es) env = (false, eval (.Attribute a x pos) env) :: starEach es env := rfl
theorem star_bool {op : BoolOp} {as : List Expr} {pos : Pos} {es : List Expr} {env : Env} : starEach (.BoolOp op as pos :: es) env = (false, eval (.BoolOp op as pos) env) :: starEach es env := rfl
theorem star_comp {a : Expr} {gs : List Comprehension} {sc : Scope} {pos : Pos} {es : List Expr} {env : Env} : starEach (.ListComp a gs sc pos :: es) env = (false, eval (.ListComp a gs sc pos) env) :: starEach es env := rfl
theorem star_if {a b c : Expr} {pos : Pos} {es : List Expr} {env : Env} : starEach (.IfExp a b c pos :: es) env = (false, eval (.IfExp a b c pos) env) :: starEach es env := rfl
theorem star_js {as : List Expr} {pos : Pos} {es : List Expr} {env : Env} : starEach (.JoinedStr as pos :: es) env = (false, eval (.JoinedStr as pos) env) :: starEach es env := rfl
theorem plain_sub {a b : Expr} {pos : Pos} : PlainIx (.Subscript a b pos) := fun _ _ => rfl
theorem plain_name {x : Str} {pos : Pos} : PlainIx (.Name x pos) := fun _ _ => rfl
theorem plain_const {c : Const} {k : Nat} {pos : Pos} : PlainIx (.Constant c k pos) := fun _ _ => rfl
theorem plain_bin {a b : Expr} {op : Operator} {pos : Pos} : PlainIx (.BinOp a op b pos) := fun _ _ => rfl
theorem plain_un {a : Expr} {op : UnaryOp} {pos : Pos} : PlainIx (.UnaryOp op a pos) := fun _ _ => rfl
theorem plain_call {a : Expr} {es : List Expr} {ks : List Keyword} {pos : Pos} : PlainIx (.Call a es ks pos) := fun _ _ => rfl
theorem plain_tup {es : List Expr} {k : Nat} {pos : Pos} : PlainIx (.Tuple es k pos) := fun _ _ => rfl

/-! ### + and * of any kind -/
def rAddA : R2 := fun x y H Q => rI0 (fun i j => .int (i + j)) x y H Q ∨ (∃ i j, x = .str i ∧ y = .str j ∧ i.length + j.length ≤ sizeLine ∧ Q (.str (i ++ j)) H) ∨ rCat x y H Q
def rMulA : R2 := fun x y H Q => rI CMul (fun i j => .int (i * j)) x y H Q ∨ rRep x y H Q
def CDivL (_ j : Int) : Prop := 0 < j ∧ j < 2 ^ 200
section
variable {X : Cx}
theorem op_addA : OpR X (binaryOp .Add) rAddA := op_add.or (op_add_str.or op_cat)
theorem op_mulA : OpR X (binaryOp .Mult) rMulA := op_mul.or op_rep
theorem log2_small {j : Int} (h1 : 0 < j) (h2 : j < 2 ^ 200) : j.natAbs.log2 < 9000 := by
  have h3 : j.natAbs < 2 ^ 200 := by omega
  exact Nat.lt_trans ((Nat.log2_lt (by omega)).mpr h3) (by decide)
theorem op_fdivL : OpR X (binaryOp .FloorDiv) (rI CDivL fun i j => .int (i / j)) := opI fun i j _ _ _ _ _ hc q => by
  have h1 : (0 : Int) < j := hc.1
  have h2 : j < 2 ^ 200 := hc.2
  exact floordiv_int (by omega) (by rw [Int.fdiv_eq_ediv_of_nonneg i (by omega)]; exact q) (.inl (PyProof.noPylong_of_log2 (log2_small h1 h2)))
end

/-! ### values as data, and == of them -/
mutual
inductive Dn (K : PySem.W.Frag) (H : Hp) : V → PyData → Prop
  | non : Dn K H .non .none
  | bl (b : Bool) : Dn K H (.bl b) (.bool b)
  | int (i : Int) : Dn K H (.int i) (.int i)
  | str (x : Str) : Dn K H (.str x) (.str x)
  | lst {a : Addr} {xs : List V} {ds : List PyData} : SqL K H a xs → DnA K H xs ds → Dn K H (.ref a) (.list ds)
  | tup {a : Addr} {xs : List V} {ds : List PyData} : SqT K H a xs → DnA K H xs ds → Dn K H (.ref a) (.tuple ds)
inductive DnA (K : PySem.W.Frag) (H : Hp) : List V → List PyData → Prop
  | nil : DnA K H [] []
  | cons {x : V} {d : PyData} {xs : List V} {ds : List PyData} : Dn K H x d → DnA K H xs ds → DnA K H (x :: xs) (d :: ds)
end

theorem Same.tseq {K : PySem.W.Frag} {H H' : Hp} {a : Addr} {xs : List V} (e : Same H H') (h : SqT K H a xs) : SqT K H' a xs := by
  rcases h with (h | ⟨o, h⟩) | h
  · exact .inl (.inl (e _ _ h))
  · exact .inl (.inr ⟨o, e _ _ h⟩)
  · exact .inr h

mutual
theorem Dn.same {K : PySem.W.Frag} {H H' : Hp} (e : Same H H') : ∀ {x : V} {d : PyData}, Dn K H x d → Dn K H' x d
  | _, _, .non => .non
  | _, _, .bl b => .bl b
  | _, _, .int i => .int i
  | _, _, .str x => .str x
  | _, _, .lst h r => .lst (e.seq h) (DnA.same e r)
  | _, _, .tup h r => .tup (e.tseq h) (DnA.same e r)
theorem DnA.same {K : PySem.W.Frag} {H H' : Hp} (e : Same H H') : ∀ {xs : List V} {ds : List PyData}, DnA K H xs ds → DnA K H' xs ds
  | _, _, .nil => .nil
  | _, _, .cons h r => .cons (Dn.same e h) (DnA.same e r)
end

section
variable {X : Cx} {pins : List (Addr × Obj)} {σ : St} {H : Hp} {s : Shared}
mutual
theorem Dn.reads (I : Inv X pins σ H s) : ∀ {x : V} {d : PyData} {u : Value}, Dn X.K H x d → RelV x u → ∃ as, Reads s.heap u d as
  | _, _, _, .non, r => by cases (show _ = Value.none from r); exact ⟨_, .none⟩
  | _, _, _, .bl b, r => by cases (show _ = Value.bool b from r); exact ⟨_, .bool b⟩
  | _, _, _, .int i, r => by obtain ⟨t, q⟩ := (show ∃ t, _ = Value.int i t from r); cases q; exact ⟨_, .int i t⟩
  | _, _, _, .str x, r => by obtain ⟨t, q⟩ := (show ∃ t, _ = Value.str x t from r); cases q; exact ⟨_, .str x t⟩
  | _, _, _, .lst (a := a) h ra, r => by
    cases (show _ = Value.ref a from r)
    obtain ⟨its, rv, pl, _⟩ := I.list h
    obtain ⟨as, q⟩ := DnA.reads I ra rv
    obtain ⟨o, ho, hc, n, hd⟩ := pl.isList
    exact ⟨_, .list ho hc hd q⟩
  | _, _, _, .tup (a := a) h ra, r => by
    cases (show _ = Value.ref a from r)
    obtain ⟨its, rv, pl, _⟩ := I.tuple h
    obtain ⟨as, q⟩ := DnA.reads I ra rv
    obtain ⟨o, ho, hc, n, hd⟩ := pl
    exact ⟨_, .tuple ho hc hd q⟩
theorem DnA.reads (I : Inv X pins σ H s) : ∀ {xs : List V} {ds : List PyData} {us : List Value}, DnA X.K H xs ds → Vals xs us → ∃ as, ReadsAll s.heap us ds as
  | _, _, _, .nil, .nil => ⟨_, .nil⟩
  | _, _, _, .cons h ra, .cons r rs => by
    obtain ⟨as, q⟩ := Dn.reads I h r
    obtain ⟨bs, q'⟩ := DnA.reads I ra rs
    exact ⟨_, .cons q q'⟩
end
end

def rEqD (K : PySem.W.Frag) : R2 := fun x y H Q => ∃ dx dy, Dn K H x dx ∧ Dn K H y dy ∧ SeqAt.shaped dx = true ∧ SeqAt.shaped dy = true ∧ Q (.bl (PyData.eqv dx dy)) H
def rNeD (K : PySem.W.Frag) : R2 := fun x y H Q => ∃ dx dy, Dn K H x dx ∧ Dn K H y dy ∧ SeqAt.shaped dx = true ∧ SeqAt.shaped dy = true ∧ Q (.bl (!PyData.eqv dx dy)) H
def rEqA (K : PySem.W.Frag) : R2 := fun x y H Q => rEq x y H Q ∨ rEqD K x y H Q
def rNeA (K : PySem.W.Frag) : R2 := fun x y H Q => rNe x y H Q ∨ rNeD K x y H Q
section
variable {X : Cx}
theorem op_eqD (hu : X.A.units + 64 < cLine) : OpR X (compareOp .Eq) (rEqD X.K) := by
  intro pins s σ H x y v u Q I rx ry h
  obtain ⟨dx, dy, h1, h2, s1, s2, q⟩ := h
  obtain ⟨as, ra⟩ := h1.reads I rx
  obtain ⟨bs, rb⟩ := h2.reads I ry
  exact eq_dataH ra rb s1 s2 hu ⟨.bl _, H, I, rfl, q⟩
theorem op_neD (hu : X.A.units + 64 < cLine) : OpR X (compareOp .NotEq) (rNeD X.K) := by
  intro pins s σ H x y v u Q I rx ry h
  obtain ⟨dx, dy, h1, h2, s1, s2, q⟩ := h
  obtain ⟨as, ra⟩ := h1.reads I rx
  obtain ⟨bs, rb⟩ := h2.reads I ry
  exact ne_dataH ra rb s1 s2 hu ⟨.bl _, H, I, rfl, q⟩
theorem op_eqA (hu : X.A.units + 64 < cLine) : OpR X (compareOp .Eq) (rEqA X.K) := op_eq.or (op_eqD hu)
theorem op_neA (hu : X.A.units + 64 < cLine) : OpR X (compareOp .NotEq) (rNeA X.K) := op_ne.or (op_neD hu)
end

/-! ### len of anything, sum, isinstance, range and list of it, [::-1] -/
def rLenA (K : PySem.W.Frag) : List V → Hp → VK → Prop := fun xs H Q => (∃ p ys, xs = [.ref p] ∧ (SqL K H p ys ∨ SqT K H p ys) ∧ Q (.int ys.length) H) ∨ ∃ z, xs = [.str z] ∧ z.length ≤ sizeLine ∧ Q (.int z.length) H
def rSum (K : PySem.W.Frag) : List V → Hp → VK → Prop := fun xs H Q => ∃ (p : Addr) (ns : List Int), xs = [.ref p] ∧ SqL K H p (ns.map V.int) ∧ Q (.int ns.sum) H
def rIsI (K : PySem.W.Frag) : List V → Hp → VK → Prop := fun xs H Q => ∃ x c t b, xs = [x, .ty c] ∧ TyOf K H x t ∧ PySem.W.kitOne K t (.type c) = some b ∧ Q (.bl b) H
def rRange : List V → Hp → VK → Prop := fun xs H Q => (∃ j, xs = [.int j] ∧ ∀ p, H p = none → Q (.ref p) (upd H p (.rng 0 j))) ∨ ∃ i j, xs = [.int i, .int j] ∧ ∀ p, H p = none → Q (.ref p) (upd H p (.rng i j))
/-- lo, lo + 1, .. n of them -/
def rngV (lo : Int) (n : Nat) : List V := (List.range n).map fun (k : Nat) => V.int (lo + (k : Int))
def rList (K : PySem.W.Frag) : List V → Hp → VK → Prop := fun xs H Q => (∃ p ys, xs = [.ref p] ∧ (SqL K H p ys ∨ SqT K H p ys) ∧ ∀ l, H l = none → Q (.ref l) (upd H l (.lst ys))) ∨
  ∃ p i j, xs = [.ref p] ∧ H p = some (.rng i j) ∧ -(2 ^ 62) ≤ i ∧ i < 2 ^ 62 ∧ -(2 ^ 62) ≤ j ∧ j < 2 ^ 62 ∧ (j - i).toNat ≤ 1000000 ∧ ∀ l, H l = none → Q (.ref l) (upd H l (.lst (rngV i (j - i).toNat)))
section
variable {X : Cx}
theorem call_lenA : CallR X (.builtin "len") (rLenA X.K) := call_len_seq.or call_len_str
theorem call_sum (hc : X.calm = true) : CallR X (.builtin "sum") (rSum X.K) := by
  intro pins s σ H xs us Q I r h
  obtain ⟨p, ns, rfl, hq, q⟩ := h
  obtain ⟨u, rfl, rx⟩ := vals1 r
  cases rx
  obtain ⟨its, rv, pl, hz⟩ := I.list hq
  have hi : IntsAre its ns := intsAre_of rv
  obtain ⟨xs, hxs⟩ := hi.allInts.items
  have hn : numsOf its.toArray.toList = ns := by rw [show its.toArray.toList = its from rfl, hi.numsOf]
  have hl := pl.isList
  rw [hxs] at hl hn
  rw [nums_intItems] at hn
  refine sum_intListG (I.ok.hd hc) hl fun h' tk t' hk => ⟨.int ns.sum, H, I.kept hk, ⟨t', ?_⟩, q⟩
  rw [preSum_eq, List.take_of_length_le (by simp), hn]
theorem call_isinst : CallR X (.builtin "isinstance") (rIsI X.K) := by
  intro pins s σ H xs us Q I r h
  obtain ⟨x, c, t, b, rfl, ty, e, q⟩ := h
  obtain ⟨u, w', rfl, rx, ry⟩ := vals2 r
  cases (show w' = Value.type c from ry)
  exact isinst_ok I rx ty e fun tk => ⟨.bl b, H, I.tok _, rfl, q⟩
theorem call_range : CallR X (.type "range") rRange := by
  intro pins s σ H xs us Q I r h
  rcases h with ⟨j, rfl, q⟩ | ⟨i, j, rfl, q⟩
  · obtain ⟨u, rfl, t, rfl⟩ := vals1 r
    refine call_range_1 ⟨.ref s.heap.objs.size, _, I.laid (o := .rng 0 j) (fun b o e => Heap.get?_push_of_some _ e) (Nat.le_refl _) ?_, rfl, q _ I.fresh⟩
    exact ⟨_, _, _, Heap.get?_push_size _ rfl⟩
  · obtain ⟨u, w', rfl, ⟨t, rfl⟩, ⟨t', rfl⟩⟩ := vals2 r
    refine call_range_2 ⟨.ref s.heap.objs.size, _, I.laid (o := .rng i j) (fun b o e => Heap.get?_push_of_some _ e) (Nat.le_refl _) ?_, rfl, q _ I.fresh⟩
    exact ⟨_, _, _, Heap.get?_push_size _ rfl⟩
theorem call_list_rng (hc : X.calm = true) : CallR X (.type "list") (fun xs H Q => ∃ p i j, xs = [.ref p] ∧ H p = some (.rng i j) ∧ -(2 ^ 62) ≤ i ∧ i < 2 ^ 62 ∧ -(2 ^ 62) ≤ j ∧ j < 2 ^ 62 ∧ (j - i).toNat ≤ 1000000 ∧
    ∀ l, H l = none → Q (.ref l) (upd H l (.lst (rngV i (j - i).toNat)))) := by
  intro pins s σ H xs us Q I r h
  obtain ⟨p, i, j, rfl, hH, h1, h2, h3, h4, h5, q⟩ := h
  obtain ⟨u, rfl, rx⟩ := vals1 r
  cases rx
  obtain ⟨t, u, v, e⟩ := I.hok p _ hH
  have en : Builtin.Range.rangeSize i j 1 = (((j - i).toNat : Nat) : Int) := by rw [rangeSize_one]; split <;> omega
  refine call_list_range (n := (j - i).toNat) (I.ok.hd hc) e (small_one h1 h2 h3 h4) en (Nat.le_trans h5 (by decide)) fun h' tk acc' c' hk hg hit => ?_
  refine ⟨.ref s.heap.objs.size, _, I.laid (t' := tk) hk (Nat.le_refl _) (show ObjOk X.prog X.w _ h' _ (.lst (rngV i (j - i).toNat)) from ⟨?_, acc'.toList, c', ?_, ?_⟩), rfl, q _ I.fresh⟩
  · unfold rngV
    rw [List.length_map, List.length_range]
    exact Nat.le_trans h5 (by decide)
  · obtain ⟨hsz, hv⟩ := hit
    have key : ∀ (k : Nat) (l : List Value) (lo : Int), l.length = k → (∀ (m : Nat) (v : Value), l[m]? = some v → ∃ t, v = Value.int (lo + (m : Int)) t) → Vals (rngV lo k) l := by
      intro k
      induction k with
      | zero =>
        intro l lo hl _
        rw [List.length_eq_zero_iff.mp hl]
        exact .nil
      | succ k ih =>
        intro l lo hl hv
        cases l with
        | nil => simp at hl
        | cons x l =>
          obtain ⟨t, e⟩ := hv 0 x (by simp)
          have er : rngV lo (k + 1) = V.int lo :: rngV (lo + 1) k := by
            unfold rngV
            rw [List.range_succ_eq_map, List.map_cons, List.map_map]
            congr 1
            · simp
            · apply List.map_congr_left
              intro m _
              show V.int (lo + ((m + 1 : Nat) : Int)) = V.int (lo + 1 + (m : Int))
              congr 1
              omega
          rw [er]
          refine .cons ⟨t, ?_⟩ (ih l (lo + 1) (by simpa using hl) fun m v hm => ?_)
          · rw [e]
            congr 1
            simp
          · obtain ⟨t', e'⟩ := hv (m + 1) v (by simpa using hm)
            refine ⟨t', ?_⟩
            rw [e']
            congr 1
            omega
    refine key _ _ i (by simpa using hsz) fun m v hm => ?_
    obtain ⟨t, e⟩ := hv m v (by simpa using hm)
    exact ⟨t, by rw [e]; congr 1; omega⟩
  · simpa using hg
theorem call_listA (hc : X.calm = true) : CallR X (.type "list") (rList X.K) := call_list_of.or (call_list_rng hc)

def tRev (K : PySem.W.Frag) (te ts : TE) : TE := fun σ H Q => te σ H fun x H1 => ts σ H1 fun y H2 => ∃ a xs, x = .ref a ∧ y = .int (-1) ∧ SqL K H2 a xs ∧ ∀ p, H2 p = none → Q (.ref p) (upd H2 p (.lst xs.reverse))
theorem pe_rev {e st : Expr} {te ts : TE} {pos p2 : Pos} (he : PE X e te) (hst : PE X st ts) : PE X (.Subscript e (.Slice none none (some st) p2) pos) (tRev X.K te ts) := by
  intro pins s σ H Q I h
  refine Subscript_ (thn (he pins s σ H _ I h) fun v s1 ⟨x, H1, I1, r1, q1⟩ => ?_)
  refine wpAny_Slice ?_
  rw [evalPart_none]
  refine wpAny_pure (wpAny_pure ?_)
  rw [evalPart_some]
  refine thn (hst pins s1 σ H1 _ I1 q1) fun vk s3 ⟨y, H3, I3, r3, a, xs, ex, ey, hx, q3⟩ => ?_
  subst ex ey
  obtain ⟨tk, rfl⟩ := r3
  cases r1
  have I4 : Inv X pins σ H3 { s3 with heap := s3.heap.push { cls := .type "slice", data := .fields #[.none, .none, .int (-1) tk] } } := I3.kept (t' := s3.toks) fun b ob q => Heap.get?_push_of_some _ q
  obtain ⟨its, r, ht, hz⟩ := I4.list hx
  have hlen := r.length
  show wpAny (model X.prog X.w) X.A (subscriptTail e (.Slice none none (some st) p2) (.ref a) (.ref s3.heap.objs.size)) (EP X pins σ Q) X.xe { s3 with heap := s3.heap.push { cls := .type "slice", data := .fields #[.none, .none, .int (-1) tk] } }
  refine tail_any (ops := [.ref a, .ref s3.heap.objs.size]) ht.isList.typeIs slot_list_getitem.lookup ?_ (by with_unfolding_all rfl)
  refine wpAny_getItem_list_slice ht.isList (Heap.IsSliceOf.new ..) .none .none (.int (-1) tk) (by simp) ?_ (by rw [List.size_toArray] <;> omega)
  rw [PySem.W.krv_pick]
  refine ⟨.ref _, _, I4.laid (t' := s3.toks) (o := .lst xs.reverse) (fun b ob q => Heap.get?_push_of_some _ q) (Nat.le_refl _) ?_, rfl, q3 _ (I4.hok.fresh (Nat.le_refl _))⟩
  exact ⟨by rw [List.length_reverse]; exact hz, _, 0, r.reverse, Heap.get?_push_size _ rfl⟩
end

/-! ### a def in one word -/
structure Def (P : Program) (w : World) (K : PySem.W.Frag) (mg : Str → Option Value) (base : Heap) (CX : CXT) (k : Nat) (x : Str) (ps : List Str) (sp : Sp) : Prop where
  ex : ∃ f fd, mg x = some (.ref f) ∧ PySem.W.keepIn K (.ref f) = true ∧ Binds K fd ps [] ∧ FnOk P w K mg base CX k f fd ps sp
theorem pe_callD {X : Cx} {CX : CXT} {k : Nat} {ps : List Str} {sp : Sp} {E : XK} {x : Str} {p pos : Pos} {e : Expr} {es : List Expr} {t : TA} (D : Def X.prog X.w X.K X.mg X.base CX k x ps sp) (hr : Room k X.A) (hg : Gl X x) (hx : Passes CX X E)
    (ha : PA X (e :: es) t) (hdb : (x == ("__debug__" : Str)) = false := by decide) (he : starEach (e :: es) X.env = (false, eval e X.env) :: starEach es X.env := by rfl) (hpl : (backTo pos (starEach es X.env)).any (·.1) = false := by rfl) :
    PE X (.Call (.Name x p) (e :: es) [] pos) (tCall sp [] E t) := by
  obtain ⟨f, fd, m, kp, b, F⟩ := D.ex
  exact pe_call F hr hg m kp b .nil hx ha hdb he hpl

/-! ### a word between two statements -/
def tCut (t : TS) : TS := fun D σ H => ∃ P : St → Hp → Prop, t { D with nx := P } σ H ∧ ∀ σ' H', P σ' H' → D.nx σ' H'
theorem ps_cut {X : Cx} {st : Stmt} {t : TS} (h : PS X st t) : PS X st (tCut t) := by
  intro pins s σ H D I hw
  obtain ⟨P, h1, h2⟩ := hw
  refine thn (h pins s σ H _ I h1) fun f s' hs => ?_
  cases f with
  | next =>
    obtain ⟨σ', H', I', p⟩ := hs
    exact ⟨σ', H', I', h2 _ _ p⟩
  | brk => exact hs
  | cont => exact hs
  | ret u => exact hs

/-! ### short readings -/
section
variable {σ : St} {H : Hp} {Q : VK} {D : Ends} {K : PySem.W.Frag}
theorem rd_var {i : Nat} {v : V} (h : σ[i]? = some (some v)) (q : Q v H) : tVar i σ H Q := ⟨v, h, q⟩
theorem rd_c {v : V} (q : Q v H) : tC v σ H Q := q
theorem rd_op {r : R2} {ta tb : TE} (q : ta σ H fun x H1 => tb σ H1 fun y H2 => r x y H2 Q) : tOp r ta tb σ H Q := q
theorem rd_un {r : V → Hp → VK → Prop} {ta : TE} (q : ta σ H fun x H1 => r x H1 Q) : tUn r ta σ H Q := q
theorem rd_I {C : Int → Int → Prop} {g : Int → Int → V} {i j : Int} (c : C i j) (q : Q (g i j) H) : rI C g (.int i) (.int j) H Q := ⟨i, j, rfl, rfl, c, q⟩
theorem rd_I0 {g : Int → Int → V} {i j : Int} (q : Q (g i j) H) : rI0 g (.int i) (.int j) H Q := ⟨i, j, rfl, rfl, q⟩
theorem rd_U {g : Int → V} {i : Int} (q : Q (g i) H) : rU g (.int i) H Q := ⟨i, rfl, q⟩
theorem rd_add {i j : Int} (q : Q (.int (i + j)) H) : rAddA (.int i) (.int j) H Q := .inl ⟨i, j, rfl, rfl, q⟩
theorem rd_mul {i j : Int} (c : CMul i j) (q : Q (.int (i * j)) H) : rMulA (.int i) (.int j) H Q := .inl ⟨i, j, rfl, rfl, c, q⟩
theorem rd_eqI {i j : Int} (q : Q (.bl (decide (i = j))) H) : rEqA K (.int i) (.int j) H Q := .inl ⟨rfl, by have e : decide (V.int i = V.int j) = decide (i = j) := (by simp); rw [e]; exact q⟩
theorem rd_neI {i j : Int} (q : Q (.bl (!decide (i = j))) H) : rNeA K (.int i) (.int j) H Q := .inl ⟨rfl, by have e : decide (V.int i = V.int j) = decide (i = j) := (by simp); rw [e]; exact q⟩
theorem rd_eqB {i j : Bool} (q : Q (.bl (decide (i = j))) H) : rEqA K (.bl i) (.bl j) H Q := .inl ⟨rfl, by have e : decide (V.bl i = V.bl j) = decide (i = j) := (by simp); rw [e]; exact q⟩
theorem rd_neB {i j : Bool} (q : Q (.bl (!decide (i = j))) H) : rNeA K (.bl i) (.bl j) H Q := .inl ⟨rfl, by have e : decide (V.bl i = V.bl j) = decide (i = j) := (by simp); rw [e]; exact q⟩
theorem rd_eqS {i j : Str} (q : Q (.bl (decide (i = j))) H) : rEqA K (.str i) (.str j) H Q := .inl ⟨rfl, by have e : decide (V.str i = V.str j) = decide (i = j) := (by simp); rw [e]; exact q⟩
theorem rd_neS {i j : Str} (q : Q (.bl (!decide (i = j))) H) : rNeA K (.str i) (.str j) H Q := .inl ⟨rfl, by have e : decide (V.str i = V.str j) = decide (i = j) := (by simp); rw [e]; exact q⟩
theorem rd_eqD {x y : V} {d : PyData} (h1 : Dn K H x d) (h2 : Dn K H y d) (s : SeqAt.shaped d = true) (q : Q (.bl true) H) : rEqA K x y H Q :=
  .inr ⟨d, d, h1, h2, s, s, by rw [SeqAt.eqv_refl d (SeqAt.canLay_of_shaped s)]; exact q⟩
theorem rd_neD {x y : V} {d : PyData} (h1 : Dn K H x d) (h2 : Dn K H y d) (s : SeqAt.shaped d = true) (q : Q (.bl false) H) : rNeA K x y H Q :=
  .inr ⟨d, d, h1, h2, s, s, by rw [SeqAt.eqv_refl d (SeqAt.canLay_of_shaped s)]; exact q⟩
theorem rd_test {t : TE} {R : Bool → Hp → Prop} (q : t σ H fun x H' => ∃ k, x = .bl k ∧ R k H') : tTest t σ H R := q
theorem rd_tB {t : TE} {R : Bool → Hp → Prop} (q : t σ H fun x H' => ∃ k, x = .bl k ∧ R k H') : tB t σ H R := q
theorem rd_bl {k : Bool} {P : Bool → Prop} (q : P k) : ∃ k', V.bl k = .bl k' ∧ P k' := ⟨k, rfl, q⟩
theorem rd_tnot {t : TT} {R : Bool → Hp → Prop} (q : t σ H fun c H1 => R (!c) H1) : tNot t σ H R := q
theorem rd_tor {t u : TT} {R : Bool → Hp → Prop} (q : t σ H fun c H1 => if c = true then R true H1 else u σ H1 R) : tOr t u σ H R := q
theorem rd_tand {t u : TT} {R : Bool → Hp → Prop} (q : t σ H fun c H1 => if c = true then u σ H1 R else R false H1) : tAnd t u σ H R := q
theorem rd_andV {ta tb : TE} (q : ta σ H fun x H1 => ∃ c, x = .bl c ∧ if c = true then tb σ H1 Q else Q (.bl false) H1) : tAndV ta tb σ H Q := q
theorem rd_orV {ta tb : TE} (q : ta σ H fun x H1 => ∃ c, x = .bl c ∧ if c = true then Q (.bl true) H1 else tb σ H1 Q) : tOrV ta tb σ H Q := q
theorem rd_notV {ta : TE} (q : ta σ H fun x H1 => ∃ c, x = .bl c ∧ Q (.bl (!c)) H1) : tNotV ta σ H Q := q
theorem rd_seq {t u : TS} (q : t { D with nx := u D } σ H) : tSeq t u D σ H := q
theorem rd_next (q : D.nx σ H) : tNext D σ H := q
theorem rd_asg {te : TE} {g : TG} (q : te σ H fun x H1 => g x σ H1 D.nx) : tAsg te g D σ H := q
theorem rd_name {i : Nat} {v : V} {R : St → Hp → Prop} (q : R (σ.set i (some v)) H) : gName i v σ H R := q
theorem rd_drop {te : TE} (q : te σ H fun _ H1 => D.nx σ H1) : tDrop te D σ H := q
theorem rd_ret {te : TE} (q : te σ H D.rt) : tRet te D σ H := q
theorem rd_if {c : TT} {t u : TS} (q : c σ H fun b H1 => if b = true then t D σ H1 else u D σ H1) : tIfS c t u D σ H := q
theorem rd_nil {R : List V → Hp → Prop} (q : R [] H) : tNil σ H R := q
theorem rd_cons {ta : TE} {tr : TA} {R : List V → Hp → Prop} (q : ta σ H fun x H1 => tr σ H1 fun xs H2 => R (x :: xs) H2) : tCons ta tr σ H R := q
theorem rd_cb {r : List V → Hp → VK → Prop} {t : TA} (q : t σ H fun vs H1 => r vs H1 Q) : tCB r t σ H Q := q
theorem rd_lst {t : TA} (q : t σ H fun xs H1 => xs.length ≤ sizeLine ∧ ∀ p, H1 p = none → Q (.ref p) (upd H1 p (.lst xs))) : tLst t σ H Q := q
theorem rd_tup {t : TA} (q : t σ H fun xs H1 => xs.length ≤ sizeLine ∧ ∀ p, H1 p = none → Q (.ref p) (upd H1 p (.tup xs))) : tTup t σ H Q := q
theorem rd_call {sp : Sp} {E : XK} {t : TA} (q : t σ H fun vs H1 => sp vs H1 Q E) : tCall sp [] E t σ H Q := by
  show t σ H fun vs H1 => sp (vs ++ []) H1 Q E
  have e : (fun vs H1 => sp (vs ++ []) H1 Q E) = fun vs H1 => sp vs H1 Q E := by
    funext vs H1
    rw [List.append_nil]
  rw [e]
  exact q
theorem rd_ixL {p : Addr} {xs : List V} {i : Int} {v : V} (h : SqL K H p xs) (e : atI xs i = some v) (q : Q v H) : rIx K (.ref p) (.int i) H Q := .inl ⟨p, xs, i, v, rfl, rfl, h, e, q⟩
theorem rd_ixT {p : Addr} {xs : List V} {i : Int} {v : V} (h : SqT K H p xs) (e : atI xs i = some v) (q : Q v H) : rIx K (.ref p) (.int i) H Q := .inr (.inl ⟨p, xs, i, v, rfl, rfl, h, e, q⟩)
theorem rd_lenL {p : Addr} {ys : List V} (h : SqL K H p ys) (q : Q (.int ys.length) H) : rLenA K [.ref p] H Q := .inl ⟨p, ys, rfl, .inl h, q⟩
theorem rd_lenT {p : Addr} {ys : List V} (h : SqT K H p ys) (q : Q (.int ys.length) H) : rLenA K [.ref p] H Q := .inl ⟨p, ys, rfl, .inr h, q⟩
theorem rd_lenS {z : Str} (h : z.length ≤ sizeLine) (q : Q (.int z.length) H) : rLenA K [.str z] H Q := .inr ⟨z, rfl, h, q⟩
theorem rd_bm {T : String} {r : V → List V → Hp → VK → Prop} {to : TE} {t : TA} (q : to σ H fun x H1 => tyV K T x H1 ∧ t σ H1 fun xs H2 => r x xs H2 Q) : tBM K T r to t σ H Q := q
theorem rd_app {l : Addr} {xs : List V} {y : V} (h : H l = some (.lst xs)) (hz : xs.length < sizeLine) (q : Q .non (upd H l (.lst (xs ++ [y])))) : rAppend (.ref l) [y] H Q := ⟨l, xs, y, rfl, rfl, h, hz, q⟩
theorem rd_sl {r : V → Option Int → Option Int → Hp → VK → Prop} {te : TE} {tl th : TO} (q : te σ H fun x H1 => tl σ H1 fun l H2 => th σ H2 fun u H3 => r x l u H3 Q) : tSl r te tl th σ H Q := q
theorem rd_nopart {R : Option Int → Hp → Prop} (q : R none H) : tNoPart σ H R := q
theorem rd_part {t : TE} {R : Option Int → Hp → Prop} (q : t σ H fun x H1 => ∃ i, x = .int i ∧ R (some i) H1) : tPart t σ H R := q
theorem rd_int {i : Int} {P : Int → Prop} (q : P i) : ∃ j, V.int i = .int j ∧ P j := ⟨i, rfl, q⟩
theorem rd_slL {a : Addr} {xs : List V} {lo hi : Option Int} (h : SqL K H a xs) (q : ∀ p, H p = none → Q (.ref p) (upd H p (.lst (cutV xs lo hi)))) : rSlL K (.ref a) lo hi H Q := ⟨a, xs, rfl, h, q⟩
theorem rd_cat {a b : Addr} {xs zs : List V} (h1 : H a = some (.lst xs)) (h2 : H b = some (.lst zs)) (hz : xs.length + zs.length ≤ sizeLine) (q : ∀ p, H p = none → Q (.ref p) (upd H p (.lst (xs ++ zs)))) : rAddA (.ref a) (.ref b) H Q :=
  .inr (.inr ⟨a, b, xs, zs, rfl, rfl, h1, h2, hz, q⟩)
theorem rd_rep {l : Addr} {k : Int} {xs : List V} (h : H l = some (.lst xs)) (h1 : -(2 ^ 63) ≤ k) (h2 : k < 2 ^ 63) (hz : xs.length * k.toNat ≤ sizeLine) (q : ∀ p, H p = none → Q (.ref p) (upd H p (.lst (List.replicate k.toNat xs).flatten))) : rMulA (.ref l) (.int k) H Q :=
  .inr ⟨l, k, xs, rfl, rfl, h, h1, h2, hz, q⟩
theorem rd_sum {p : Addr} {ns : List Int} (h : SqL K H p (ns.map V.int)) (q : Q (.int ns.sum) H) : rSum K [.ref p] H Q := ⟨p, ns, rfl, h, q⟩
theorem rd_isI {x : V} {c : String} {t : Value} {b : Bool} (h : TyOf K H x t) (e : PySem.W.kitOne K t (.type c) = some b) (q : Q (.bl b) H) : rIsI K [x, .ty c] H Q := ⟨x, c, t, b, rfl, h, e, q⟩
theorem rd_listL {p : Addr} {ys : List V} (h : SqL K H p ys) (q : ∀ l, H l = none → Q (.ref l) (upd H l (.lst ys))) : rList K [.ref p] H Q := .inl ⟨p, ys, rfl, .inl h, q⟩
theorem rd_listR {p : Addr} {i j : Int} (h : H p = some (.rng i j)) (h1 : -(2 ^ 62) ≤ i) (h2 : i < 2 ^ 62) (h3 : -(2 ^ 62) ≤ j) (h4 : j < 2 ^ 62) (h5 : (j - i).toNat ≤ 1000000) (q : ∀ l, H l = none → Q (.ref l) (upd H l (.lst (rngV i (j - i).toNat)))) : rList K [.ref p] H Q :=
  .inr ⟨p, i, j, rfl, h, h1, h2, h3, h4, h5, q⟩
theorem rd_range2 {i j : Int} (q : ∀ p, H p = none → Q (.ref p) (upd H p (.rng i j))) : rRange [.int i, .int j] H Q := .inr ⟨i, j, rfl, q⟩
theorem rd_range1 {j : Int} (q : ∀ p, H p = none → Q (.ref p) (upd H p (.rng 0 j))) : rRange [.int j] H Q := .inl ⟨j, rfl, q⟩
theorem rd_rev {te ts : TE} (q : te σ H fun x H1 => ts σ H1 fun y H2 => ∃ a xs, x = .ref a ∧ y = .int (-1) ∧ SqL K H2 a xs ∧ ∀ p, H2 p = none → Q (.ref p) (upd H2 p (.lst xs.reverse))) : tRev K te ts σ H Q := q
theorem rd_rev1 {a : Addr} {xs : List V} {P : List V → Prop} (h : SqL K H a xs) (q : P xs) : ∃ a' xs', V.ref a = .ref a' ∧ V.int (-1) = .int (-1) ∧ SqL K H a' xs' ∧ P xs' := ⟨a, xs, rfl, rfl, h, q⟩
theorem rd_min2 {i j : Int} {P : Int → Int → Prop} (q : P i j) : ∃ i' j', [V.int i, V.int j] = [.int i', .int j'] ∧ P i' j' := ⟨i, j, rfl, q⟩
theorem rd_gtup {a : Addr} {xs : List V} {n : Nat} {t : TGs} {R : St → Hp → Prop} (h : SqT K H a xs) (hn : xs.length = n) (q : t xs σ H R) : gTup K n t (.ref a) σ H R := ⟨a, xs, rfl, h, hn, q⟩
theorem rd_gcons {v : V} {r : List V} {t : TG} {u : TGs} {R : St → Hp → Prop} (q : t v σ H fun σ' H' => u r σ' H' R) : gCons t u (v :: r) σ H R := ⟨v, r, rfl, q⟩
theorem rd_gnil {R : St → Hp → Prop} (q : R σ H) : gNil [] σ H R := ⟨rfl, q⟩
theorem rd_nx {N : St → Hp → Prop} {rt : VK} {bk ct : St → Hp → Prop} (q : N σ H) : (Ends.mk N rt bk ct).nx σ H := q
theorem rd_rt {N : St → Hp → Prop} {rt : VK} {bk ct : St → Hp → Prop} {v : V} (q : rt v H) : (Ends.mk N rt bk ct).rt v H := q
theorem rd_for {wi : TI} {g : TG} {tb : TS} (q : wi σ H fun J H1 => ∃ W : Nat → Nat → St → Hp → Prop, (∃ m, W 0 m σ H1) ∧ ∀ i m σ H, W i m σ H →
    (J.stop i H ∧ D.nx σ H) ∨ (J.go i H ∧ ∃ N : St → Hp → Prop, (∀ σ' H', N σ' H' → ∃ m', m' < m ∧ W (i + 1) m' σ' H') ∧ ∀ x H', J.yld i H x H' → g x σ H' fun σ2 H2 => tb { D with nx := N, ct := N, bk := D.nx } σ2 H2)) : tFor wi g tb D σ H := q
theorem rd_ilist {tl : TE} {R : It → Hp → Prop} (q : tl σ H fun x H1 => ∃ a, x = .ref a ∧ (∃ xs, SqL K H1 a xs) ∧ R (Itl K a) H1) : iList K tl σ H R := q
theorem rd_forL {a : Addr} {xs : List V} {P : Addr → Prop} (h : SqL K H a xs) (q : P a) : ∃ a', V.ref a = .ref a' ∧ (∃ xs, SqL K H a' xs) ∧ P a' := ⟨a, rfl, ⟨xs, h⟩, q⟩
theorem rd_irng1 {ta : TA} {R : It → Hp → Prop} (q : ta σ H fun vs H1 => ∃ j : Int, vs = [.int j] ∧ -(2 ^ 62) ≤ j ∧ j < 2 ^ 62 ∧ R (Itr 0 j.toNat) H1) : iRng1 ta σ H R := q
theorem rd_rng1 {j : Int} {n : Nat} {P : Int → Prop} (hn : j = (n : Int)) (h : n ≤ 1000000) (q : P (n : Int)) : ∃ j' : Int, [V.int j] = [.int j'] ∧ -(2 ^ 62) ≤ j' ∧ j' < 2 ^ 62 ∧ P j' :=
  ⟨j, rfl, by omega, by omega, by rw [hn]; exact q⟩
theorem rd_tyL {l : Addr} {xs : List V} {B : Prop} (h : H l = some (.lst xs)) (q : B) : tyV K "list" (.ref l) H ∧ B := ⟨.inl ⟨rfl, xs, SqL.of h⟩, q⟩
end
end L2

/-! the layer's judgements as structures: a structure's type is never unfolded, so a term of rules is elaborated by its shape alone -/
namespace L2
open PySem PySem.Spec PyProof.Rows
structure QE (X : Cx) (e : Expr) (t : TE) : Prop where
  out : PE X e t
structure QT (X : Cx) (e : Expr) (t : TT) : Prop where
  out : PT X e t
structure QW (X : Cx) (e : Expr) (t : TT) : Prop where
  out : PW X e t
structure QA (X : Cx) (es : List Expr) (t : TA) : Prop where
  out : PA X es t
structure QO (X : Cx) (e : Option Expr) (t : TO) : Prop where
  out : PO X e t
structure QG (X : Cx) (e : Expr) (t : TG) : Prop where
  out : PG X e t
structure QGs (X : Cx) (es : List Expr) (t : TGs) : Prop where
  out : PGs X es t
structure QI (X : Cx) (tg iter : Expr) (wi : TI) : Prop where
  out : PI X tg iter wi
structure QS (X : Cx) (st : Stmt) (t : TS) : Prop where
  out : PS X st t
structure QSs (X : Cx) (st : List Stmt) (t : TS) : Prop where
  out : PSs X st t
section
variable {X : Cx} {a b c e st o tg iter : Expr} {rest es : List Expr} {ta tb tc te ts to : TE} {tA tB' : TT} {t : TA} {pos p p2 apos cpos : Pos}
theorem qe_int {i : Int} {j : Nat} : QE X (.Constant (.int i) j pos) (tC (.int i)) := ⟨pe_int⟩
theorem qe_bl {i : Bool} {j : Nat} : QE X (.Constant (.bool i) j pos) (tC (.bl i)) := ⟨pe_bl⟩
theorem qe_non {j : Nat} : QE X (.Constant .none j pos) (tC .non) := ⟨pe_non⟩
theorem qe_str {x : Str} {j : Nat} : QE X (.Constant (.str x) j pos) (tC (.str x)) := ⟨pe_str⟩
theorem qv (i : Nat) {x : Str} (hN : X.N[i]? = some x := by rfl) (hv : Vis X.env.scope x := by first | exact Or.inl rfl | exact Or.inr (Or.inl rfl) | exact Or.inr (Or.inr rfl)) (hd : (x == ("__debug__" : Str)) = false := by decide)
    (hcd : (x == ("__classdict__" : Str)) = false := by decide) : QE X (.Name x pos) (tVar i) := ⟨pv i hN hv hd hcd⟩
theorem qe_glob {x : Str} {v : V} {u : Value} (hg : Gl X x) (hm : X.mg x = some u) (r : RelV v u) (hd : (x == ("__debug__" : Str)) = false := by decide) : QE X (.Name x pos) (tC v) := ⟨pe_glob hg hm r hd⟩
theorem qe_bltn {x : Str} {v : V} {u : Value} (hg : Gl X x) (hm : X.mg x = none) (hv : bootBuiltins x = some u) (r : RelV v u) (hn : x ≠ "__name__" := by decide) (hd : (x == ("__debug__" : Str)) = false := by decide) : QE X (.Name x pos) (tC v) := ⟨pe_bltn hg hm hv r hn hd⟩
theorem qe_op {op : Operator} {r : R2} (ho : OpR X (binaryOp op) r) (ha : QE X a ta) (hb : QE X b tb) : QE X (.BinOp a op b pos) (tOp r ta tb) := ⟨pe_op ho ha.out hb.out⟩
theorem qe_un {op : UnaryOp} {r : V → Hp → VK → Prop} (ho : UnR X (unaryOp op) r) (ha : QE X a ta) : QE X (.UnaryOp op a pos) (tUn r ta) := ⟨pe_un ho ha.out⟩
theorem qe_cmpR {op : CmpOp} {r : R2} (ho : OpR X (compareOp op) r) (ha : QE X a ta) (hb : QE X b tb) (hm : behindInMarks op b = false) : QE X (.Compare a [op] [b] pos) (tOp r ta tb) := ⟨pe_cmpR ho ha.out hb.out hm⟩
theorem qt_cmpR {op : CmpOp} {r : R2} (ho : OpR X (compareOp op) r) (ha : QE X a ta) (hb : QE X b tb) (hm : behindInMarks op b = false) : QT X (.Compare a [op] [b] pos) (tTest (tOp r ta tb)) := ⟨pt_cmpR ho ha.out hb.out hm⟩
theorem qe_chain {op op' : CmpOp} {r r' : R2} (ho : OpR X (compareOp op) r) (ho' : OpR X (compareOp op') r') (ha : QE X a ta) (hb : QE X b tb) (hc : QE X c tc) (hm : lastMarks [op, op'] [b, c] = false := by with_unfolding_all rfl) : QE X (.Compare a [op, op'] [b, c] pos) (tChain r r' ta tb tc) := ⟨pe_chain ho ho' ha.out hb.out hc.out hm⟩
theorem qt_chain {op op' : CmpOp} {r r' : R2} (ho : OpR X (compareOp op) r) (ho' : OpR X (compareOp op') r') (ha : QE X a ta) (hb : QE X b tb) (hc : QE X c tc) (hm : lastMarks [op, op'] [b, c] = false := by with_unfolding_all rfl) : QT X (.Compare a [op, op'] [b, c] pos) (tTest (tChain r r' ta tb tc)) := ⟨pt_chain ho ho' ha.out hb.out hc.out hm⟩
theorem qe_one {op : BoolOp} (h : QE X a ta) : QE X (.BoolOp op [a] pos) ta := ⟨pe_one h.out⟩
theorem qe_and (ha : QE X a ta) (hb : QE X (.BoolOp .And (b :: rest) pos) tb) : QE X (.BoolOp .And (a :: b :: rest) pos) (tAndV ta tb) := ⟨pe_and ha.out hb.out⟩
theorem qe_or (ha : QE X a ta) (hb : QE X (.BoolOp .Or (b :: rest) pos) tb) : QE X (.BoolOp .Or (a :: b :: rest) pos) (tOrV ta tb) := ⟨pe_or ha.out hb.out⟩
theorem qe_not (ha : QE X a ta) : QE X (.UnaryOp .Not a pos) (tNotV ta) := ⟨pe_not ha.out⟩
theorem qe_ifExp (hc : QT X c tA) (ha : QE X a ta) (hb : QE X b tb) : QE X (.IfExp c a b pos) (tIf tA ta tb) := ⟨pe_ifExp hc.out ha.out hb.out⟩
theorem qt_val (h : QE X e te) (he : ∀ whole, isTrue e X.env whole = (do let v ← whole; standAt e.pos; holding [v] (truthy v)) := by intro _; rfl) : QT X e (tB te) := ⟨pt_val h.out he⟩
theorem qt_not (ha : QT X a tA) : QT X (.UnaryOp .Not a pos) (tNot tA) := ⟨pt_not ha.out⟩
theorem qw_and1 (ha : QT X a tA) : QW X (.BoolOp .And [a] pos) tA := ⟨pw_and1 ha.out⟩
theorem qw_or1 (ha : QT X a tA) : QW X (.BoolOp .Or [a] pos) tA := ⟨pw_or1 ha.out⟩
theorem qw_and (ha : QT X a tA) (hb : QW X (.BoolOp .And (b :: rest) pos) tB') : QW X (.BoolOp .And (a :: b :: rest) pos) (tAnd tA tB') := ⟨pw_and ha.out hb.out⟩
theorem qw_or (ha : QT X a tA) (hb : QW X (.BoolOp .Or (b :: rest) pos) tB') : QW X (.BoolOp .Or (a :: b :: rest) pos) (tOr tA tB') := ⟨pw_or ha.out hb.out⟩
theorem qt_w (h : QW X a tA) : QT X a tA := ⟨h.out.pt⟩
theorem qa_nil : QA X [] tNil := ⟨pa_nil⟩
theorem qa_cons (ha : QE X e te) (hr : QA X es t) (hs : starEach (e :: es) X.env = (false, eval e X.env) :: starEach es X.env) : QA X (e :: es) (tCons te t) := ⟨pa_cons ha.out hr.out hs⟩
theorem qe_tup {x1 : Nat} (h : QA X es t) : QE X (.Tuple es x1 pos) (tTup t) := ⟨pe_tup h.out⟩
theorem qe_lst (h : QA X es t) : QE X (.List es pos) (tLst t) := ⟨pe_lst h.out⟩
theorem qe_ix {r : R2} (hr : IxR X r) (ha : QE X a ta) (hb : QE X b tb) (hs : PlainIx b) : QE X (.Subscript a b pos) (tOp r ta tb) := ⟨pe_ix hr ha.out hb.out hs⟩
theorem qo_none : QO X none tNoPart := ⟨po_none⟩
theorem qo_some (h : QE X e te) : QO X (some e) (tPart te) := ⟨po_some h.out⟩
theorem qe_slice {r : V → Option Int → Option Int → Hp → VK → Prop} {lo hi : Option Expr} {tl th : TO} (hr : SlR X r) (he : QE X e te) (hl : QO X lo tl) (hu : QO X hi th) : QE X (.Subscript e (.Slice lo hi none p2) pos) (tSl r te tl th) := ⟨pe_slice hr he.out hl.out hu.out⟩
theorem qe_rev (he : QE X e te) (hst : QE X st ts) : QE X (.Subscript e (.Slice none none (some st) p2) pos) (tRev X.K te ts) := ⟨pe_rev he.out hst.out⟩
theorem qe_callD {CX : CXT} {k : Nat} {ps : List Str} {sp : Sp} {E : XK} {x : Str} (D : Def X.prog X.w X.K X.mg X.base CX k x ps sp) (hr : Room k X.A) (hg : Gl X x) (hx : Passes CX X E)
    (ha : QA X (e :: es) t) (hdb : (x == ("__debug__" : Str)) = false := by decide) (he : starEach (e :: es) X.env = (false, eval e X.env) :: starEach es X.env := by rfl) (hpl : (backTo pos (starEach es X.env)).any (·.1) = false := by rfl) :
    QE X (.Call (.Name x p) (e :: es) [] pos) (tCall sp [] E t) := ⟨pe_callD D hr hg hx ha.out hdb he hpl⟩
theorem qe_callB {x : Str} {id : String} {r : List V → Hp → VK → Prop} (hc : CallR X (.builtin id) r) (hg : Gl X x) (hm : X.mg x = none) (hv : bootBuiltins x = some (.builtin id)) (ha : QA X (e :: es) t) (hn : x ≠ "__name__" := by decide) (hdb : (x == ("__debug__" : Str)) = false := by decide)
    (he : starEach (e :: es) X.env = (false, eval e X.env) :: starEach es X.env := by rfl) (hpl : (backTo pos (starEach es X.env)).any (·.1) = false := by rfl) : QE X (.Call (.Name x p) (e :: es) [] pos) (tCB r t) := ⟨pe_callB hc hg hm hv ha.out hn hdb he hpl⟩
theorem qe_callTy {x : Str} {T : String} {r : List V → Hp → VK → Prop} (hc : CallR X (.type T) r) (hg : Gl X x) (hm : X.mg x = none) (hv : bootBuiltins x = some (.type T)) (ha : QA X (e :: es) t) (hn : x ≠ "__name__" := by decide) (hdb : (x == ("__debug__" : Str)) = false := by decide)
    (he : starEach (e :: es) X.env = (false, eval e X.env) :: starEach es X.env := by rfl) (hpl : (backTo pos (starEach es X.env)).any (·.1) = false := by rfl) : QE X (.Call (.Name x p) (e :: es) [] pos) (tCB r t) := ⟨pe_callTy hc hg hm hv ha.out hn hdb he hpl⟩
theorem qe_bm {name : Str} {T id : String} {r : V → List V → Hp → VK → Prop} (pa : PlainAttrs T) (slot : Slot T name id) (hty : typeOf (.builtin id) = pure (.type "method_descriptor")) (hm : MtR X id r) (ho : QE X o to) (ha : QA X (e :: es) t)
    (hbase : attributeBase o name X.env (eval o X.env) = eval o X.env := by rfl)
    (hfew : ((backTo cpos (starEach (e :: es) X.env)).all (fun x => !x.1) && (backToKw cpos (keywordEach [] X.env)).all (fun x => x.1.isSome)
      && decide ((e :: es).length + ([] : List Keyword).length + (if ([] : List Keyword).isEmpty then 0 else 1) < 30)) = true := by rfl)
    (hline : (apos.endLine == cpos.line) = true := by rfl) (hs : starEach (e :: es) X.env = (false, eval e X.env) :: starEach es X.env := by rfl) (hplain : (backTo cpos (starEach es X.env)).any (·.1) = false := by rfl) :
    QE X (.Call (.Attribute o name apos) (e :: es) [] cpos) (tBM X.K T r to t) := ⟨pe_bm pa slot hty hm ho.out ha.out hbase hfew hline hs hplain⟩
theorem qg_name {i : Nat} {x : Str} (hN : X.N.Nodup) (hi : X.N[i]? = some x) (hx : Loc X.env.scope x) (hf : X.fn x = true ∨ X.env.scope.names.lookup x = some .local := by first | exact .inl rfl | exact .inr rfl | assumption) : QG X (.Name x pos) (gName i) := ⟨pg_name hN hi hx hf⟩
theorem qg_tup {k : Nat} {tt : TGs} {n : Nat} (hc : X.calm = true) (h : QGs X es tt) (hn : (assignEach es X.env).length = n := by rfl) (hst : (assignEach es X.env).findIdx? (·.1) = none := by rfl) : QG X (.Tuple es k pos) (gTup X.K n tt) := ⟨pg_tup hc h.out hn hst⟩
theorem qgs_nil : QGs X [] gNil := ⟨pgs_nil⟩
theorem qgs_cons {tt : TG} {u : TGs} (h1 : QG X e tt) (h2 : QGs X es u) (hs : (assignEach (e :: es) X.env).map (·.2) = assign e X.env :: (assignEach es X.env).map (·.2) := by rfl) : QGs X (e :: es) (gCons tt u) := ⟨pgs_cons h1.out h2.out hs⟩
theorem qi_list (hl : QE X e te) : QI X tg e (iList X.K te) := ⟨pi_list hl.out⟩
theorem qi_tup (hl : QE X e te) : QI X tg e (iTup X.K te) := ⟨pi_tup hl.out⟩
theorem qi_range1 (hg : Gl X "range") (hm : X.mg "range" = none) (ha : QA X [a] t) (hs : starEach [a] X.env = [(false, eval a X.env)] := by rfl) : QI X tg (.Call (.Name "range" p) [a] [] pos) (iRng1 t) := ⟨pi_range1 hg hm ha.out hs⟩
theorem qi_range2 (hg : Gl X "range") (hm : X.mg "range" = none) (ha : QA X [a, b] t) (hs : starEach [a, b] X.env = [(false, eval a X.env), (false, eval b X.env)] := by rfl) (hs2 : starEach [b] X.env = [(false, eval b X.env)] := by rfl) : QI X tg (.Call (.Name "range" p) [a, b] [] pos) (iRng2 t) := ⟨pi_range2 hg hm ha.out hs hs2⟩
variable {s1 : Stmt} {ss body other : List Stmt} {u v : TS} {pos' : Pos}
theorem qss_nil : QSs X [] tNext := ⟨pss_nil⟩
theorem qss_cons (h1 : QS X s1 u) (h2 : QSs X ss v) : QSs X (s1 :: ss) (tSeq u v) := ⟨pss_cons h1.out h2.out⟩
theorem qss_one (h1 : QS X s1 u) : QSs X [s1] u := ⟨pss_one h1.out⟩
theorem qs_pass : QS X (.Pass pos) tNext := ⟨ps_pass⟩
theorem qs_never : QS X s1 tNever := ⟨ps_never⟩
theorem qs_cut (h : QS X s1 u) : QS X s1 (tCut u) := ⟨ps_cut h.out⟩
theorem qs_expr (he : QE X e te) (hs : swapsWith e none pos.line X.env = pure false := by rfl) : QS X (.Expr e pos) (tDrop te) := ⟨ps_expr he.out hs⟩
theorem qs_ret (he : QE X e te) : QS X (.Return (some e) pos) (tRet te) := ⟨ps_ret he.out⟩
theorem qs_retN : QS X (.Return none pos) tRetN := ⟨ps_retN⟩
theorem qs_if (hc : QT X c tA) (ha : QSs X body u) (hb : QSs X other v) : QS X (.If c body other pos) (tIfS tA u v) := ⟨ps_if hc.out ha.out hb.out⟩
theorem qs_asg {g : TG} (he : QE X e te) (hg : QG X tg g) (hs : swapsWithSole [tg] e pos.line X.env = pure false := by rfl) (hw : swappedStores [tg] e X.env = pure none := by rfl) (h1 : (assignEach [tg] X.env).map (·.2) = [assign tg X.env] := by rfl) : QS X (.Assign [tg] e pos) (tAsg te g) := ⟨ps_asg he.out hg.out hs hw h1⟩
theorem qs_set {i : Nat} {x : Str} (hN : X.N.Nodup) (hi : X.N[i]? = some x) (hx : Loc X.env.scope x) (he : QE X e te) (hs : swapsWith e (some (.Name x pos')) pos.line X.env = pure false := by rfl) (hf : X.fn x = true ∨ X.env.scope.names.lookup x = some .local := by first | exact .inl rfl | exact .inr rfl | assumption) :
    QS X (.Assign [.Name x pos'] e pos) (tAsg te (gName i)) := ⟨ps_set hN hi hx he.out hs hf⟩
theorem qs_for {wi : TI} {g : TG} (hp : PassesOwn (model X.prog X.w) X.A X.env X.xe) (hc : X.calm = true) (hi : QI X tg iter wi) (hg : QG X tg g) (hb : QSs X body u) (hs : ∀ x, foldedSetIterable iter X.env x = pure x := by intro _; rfl) : QS X (.For tg iter body [] pos) (tFor wi g u) := ⟨ps_for hp hc hi.out hg.out hb.out hs⟩
end
/-- THE RULE for a def, by its body's term -/
theorem Fun.okQ {P : Program} {w : World} {K : PySem.W.Frag} {mg : Str → Option Value} {base : Heap} {x qual : Str} {st : Stmt} {f : Addr} {fd : FuncData} {N ps : List Str} {k : Nat} {sp : Sp} (F : Fun K x qual st f fd) (S : FnScope N ps (defScope st)) (len : ∀ vs H Q E, sp vs H Q E → vs.length = ps.length)
    (hbody : ∀ (cdv : Value) (A : Around) (outer : List Env) (s : Shared) (H : Hp) (vs : List V) (Q : VK) (E : XK), Room k (A.deeper (envOfC qual (defScope st) s.heap.objs.size f cdv)) → sp vs H Q E →
      ∃ t, QSs (cxOf CX0 P w K mg base N qual (defScope st) f cdv A outer s H E).nox (defBody st) t ∧ t { nx := fun _ H' => Q .non H', rt := Q } (start N vs) H) : FnOk P w K mg base CX0 (k + 1) f fd ps sp :=
  F.ok S len fun cdv A outer s H vs Q E hr h => by
    obtain ⟨t, ht, q⟩ := hbody cdv A outer s H vs Q E hr h
    exact ⟨t, ht.out, q⟩
end L2

/-! own rules: a list comprehension with one name, over the hand layer (its block is a context of its own) -/
namespace L2
open PySem PySem.Spec PyProof.Rows

/-- the block's context: the names of the def and, last, the block's own -/
@[reducible] def Cx.blk (X : Cx) (N2 : List Str) (x : Str) (sc : Scope) (cl : List (Str × Addr)) (C : Addr) (s0 : Shared) (H0 : Hp) (fp : List Addr) : Cx :=
  { X with N := N2 ++ [x], s₀ := s0, H₀ := H0, env := compEnvC sc cl C X.env, outer := X.stack, ex := fp, fn := fun _ => false, pn := [], xe := fun _ _ => False }

/-- what the text must keep to -/
structure BlkOk (sc esc : Scope) (x : Str) (N N2 : List Str) : Prop where
  kind : sc.kind = .function
  cell : ∀ y ∈ sc.names, y.2 ≠ .cell
  loc : ∀ y ∈ sc.names, y.2 = .local → sc.names.lookup y.1 = some .local
  own : sc.names.lookup x = some .local
  free : ∀ y ∈ sc.names, y.2 = .free → esc.names.lookup y.1 = some .cell ∨ esc.names.lookup y.1 = some .free
  out : ∀ y ∈ N2, sc.names.lookup y ≠ some .local
  nd : N.Nodup
  nd2 : N2.Nodup
  len : N2.length = N.length
  ren : ∀ p ∈ N.zip N2, p.2 = p.1 ∨ sc.names.lookup p.2 = none
theorem lookup_mem {l : List (Str × NameKind)} {y : Str} {k : NameKind} (h : (y, k) ∈ l) : l.lookup y ≠ none := by
  induction l with
  | nil => simp at h
  | cons p r ih =>
    obtain ⟨n, k'⟩ := p
    cases hy : y == n with
    | true => rw [List.lookup_cons, hy]; simp
    | false =>
      rw [List.lookup_cons, hy]
      rcases List.mem_cons.mp h with e | e
      · cases e
        simp at hy
      · exact ih e

/-! ### the closure -/
def closOf (cells : List (Str × Addr)) : List (Str × NameKind) → List (Str × Addr) → List (Str × Addr)
  | [], cs => cs
  | (n, k) :: r, cs => closOf cells r (if k = .free then (n, (cells.lookup n).getD 0) :: cs else cs)
theorem closureFor_all {sc : Scope} {env : Env} (h : ∀ y ∈ sc.names, y.2 = .free → ∃ c, env.cells.lookup y.1 = some c) : closureFor sc env = pure (closOf env.cells sc.names []) := by
  unfold closureFor
  generalize sc.names = l at h ⊢
  have key : ∀ (l : List (Str × NameKind)) (cs : List (Str × Addr)), (∀ y ∈ l, y.2 = .free → ∃ c, env.cells.lookup y.1 = some c) →
      (forIn l cs fun (y : Str × NameKind) (r : List (Str × Addr)) => (do
        let (name, kind) := y
        if kind == .free then
          let c ← cellOf env name
          pure (ForInStep.yield ((name, c) :: r))
        else pure (ForInStep.yield r) : Sem (ForInStep (List (Str × Addr))))) = pure (closOf env.cells l cs) := by
    intro l
    induction l with
    | nil => intro cs _; rfl
    | cons y r ih =>
      intro cs hy
      obtain ⟨n, k⟩ := y
      rw [List.forIn_cons]
      have hr : ∀ y ∈ r, y.2 = .free → ∃ c, env.cells.lookup y.1 = some c := fun y h' => hy y (List.mem_cons_of_mem _ h')
      by_cases hk : k = .free
      · subst hk
        obtain ⟨c, hc⟩ := hy _ List.mem_cons_self rfl
        have e : cellOf env n = pure c := by unfold cellOf; rw [show env.cells.lookup n = some c from hc]
        simp only [beq_self_eq_true, if_true, e]
        rw [closOf, if_pos rfl, show env.cells.lookup n = some c from hc]
        exact ih _ hr
      · have hb : (k == NameKind.free) = false := by simpa using hk
        rw [closOf, if_neg hk]
        simp only [hb, if_false, Bool.false_eq_true]
        exact ih _ hr
  have q := key l [] h
  exact (congrArg (fun z : Sem (List (Str × Addr)) => z >>= fun r => pure r) q).trans rfl
theorem clos_look {cells : List (Str × Addr)} : ∀ {l : List (Str × NameKind)} {cs : List (Str × Addr)} {y : Str} {c : Addr}, (∀ z ∈ l, z.2 = .free → ∃ c, cells.lookup z.1 = some c) → (∀ c, cs.lookup y = some c → cells.lookup y = some c) →
    (closOf cells l cs).lookup y = some c → cells.lookup y = some c
  | [], _, _, _, _, h0, h => h0 _ h
  | (n, k) :: r, cs, y, c, hl, h0, h => by
    rw [closOf] at h
    refine clos_look (l := r) (fun z hz => hl z (List.mem_cons_of_mem _ hz)) (fun c' hc' => ?_) h
    by_cases hk : k = .free
    · rw [if_pos hk] at hc'
      obtain ⟨c0, e0⟩ := hl _ List.mem_cons_self hk
      cases hy : y == n with
      | true =>
        have e : y = n := by simpa using hy
        subst e
        rw [List.lookup_cons, hy] at hc'
        have e1 : (cells.lookup y).getD 0 = c' := by simpa using hc'
        have e2 : cells.lookup y = some c0 := e0
        rw [e2] at e1 ⊢
        simpa using e1
      | false =>
        rw [List.lookup_cons, hy] at hc'
        exact h0 _ hc'
    · rw [if_neg hk] at hc'
      exact h0 _ hc'
theorem clos_keep {cells : List (Str × Addr)} : ∀ {l : List (Str × NameKind)} {cs : List (Str × Addr)} {y : Str}, (∃ c, cs.lookup y = some c) → ∃ c, (closOf cells l cs).lookup y = some c
  | [], _, _, h => h
  | (n, k) :: r, cs, y, h => by
    rw [closOf]
    refine clos_keep ?_
    split
    · cases hy : y == n with
      | true => exact ⟨_, by rw [List.lookup_cons, hy]⟩
      | false => rw [List.lookup_cons, hy]; exact h
    · exact h
theorem clos_has {cells : List (Str × Addr)} : ∀ {l : List (Str × NameKind)} {cs : List (Str × Addr)} {y : Str}, (y, NameKind.free) ∈ l → ∃ c, (closOf cells l cs).lookup y = some c
  | (n, k) :: r, cs, y, h => by
    rw [closOf]
    rcases List.mem_cons.mp h with e | e
    · cases e
      refine clos_keep ?_
      rw [if_pos rfl]
      exact ⟨_, by rw [List.lookup_cons, beq_self_eq_true]⟩
    · exact clos_has e
theorem relabel_look {env : Env} : ∀ {names : List (Str × NameKind)} {y : Str} {k : NameKind}, (∀ z ∈ names, z.2 ≠ .cell) → (k = .cell ∨ k = .free) →
    (names.map fun (n, k) => if (k == NameKind.free && env.scope.kind == .function && env.kindOf n == some .cell) then (n, NameKind.cell) else (n, k)).lookup y = some k → (y, NameKind.free) ∈ names
  | [], _, _, _, _, hz => by simp at hz
  | (n, k0) :: r, y, k, hc, hk, h => by
    rw [List.map_cons] at h
    cases hy : y == n with
    | true =>
      have e : y = n := by simpa using hy
      subst e
      by_cases hf : k0 = .free
      · subst hf; exact List.mem_cons_self
      · have hb : (k0 == NameKind.free) = false := by simpa using hf
        simp only [hb, Bool.false_and, Bool.false_eq_true, if_false, List.lookup_cons, beq_self_eq_true] at h
        have e1 : k0 = k := by simpa using h
        subst e1
        rcases hk with z | z
        · exact absurd z (hc _ List.mem_cons_self)
        · exact absurd z hf
    | false =>
      refine List.mem_cons_of_mem _ (relabel_look (env := env) (k := k) (fun z hz => hc z (List.mem_cons_of_mem _ hz)) hk ?_)
      by_cases hc' : (k0 == NameKind.free && env.scope.kind == .function && env.kindOf n == some .cell) = true
      · simp only [hc', if_true, List.lookup_cons, hy] at h
        exact h
      · simp only [hc', Bool.false_eq_true, if_false, List.lookup_cons, hy] at h
        exact h

theorem relabel_loc {env : Env} : ∀ {names : List (Str × NameKind)} {y : Str},
    (names.map fun (n, k) => if (k == NameKind.free && env.scope.kind == .function && env.kindOf n == some .cell) then (n, NameKind.cell) else (n, k)).lookup y = some .local → names.lookup y = some .local
  | [], _, h => by simp at h
  | (n, kn) :: r, y, h => by
    rw [List.map_cons] at h
    cases hy : y == n with
    | true =>
      rw [List.lookup_cons, hy]
      by_cases hc : (kn == NameKind.free && env.scope.kind == .function && env.kindOf n == some .cell) = true
      · simp only [hc, if_true, List.lookup_cons, hy] at h
        cases h
      · simp only [hc, Bool.false_eq_true, if_false, List.lookup_cons, hy] at h
        exact h
    | false =>
      rw [List.lookup_cons, hy]
      refine relabel_loc (env := env) ?_
      by_cases hc : (kn == NameKind.free && env.scope.kind == .function && env.kindOf n == some .cell) = true
      · simp only [hc, if_true, List.lookup_cons, hy] at h
        exact h
      · simp only [hc, Bool.false_eq_true, if_false, List.lookup_cons, hy] at h
        exact h

/-! ### the turns -/
section
variable {s : Shared} {R : Result → Shared → Prop} {A : Around} {P : Program} {w : World}
def testsOf (ifs : List Expr) (env : Env) : Sem Bool := forIn ifs true fun c r => if r = true then do let ok ← isTrue c env (eval c env); pure (ForInStep.yield ok) else pure (ForInStep.yield r)
theorem comp_turns {elt tg iter : Expr} {ifs : List Expr} {scope : Scope} {pos : Pos} {it ac : Value} {env : Env} (W : Nat → Shared → Prop)
    (turn : ∀ n s, W n s → wpAny (model P w) A (pyNext it) (fun r s₁ => match r with
      | none => R (.ok .next) s₁
      | some v => wpAny (model P w) A (letOwnedTupleGo tg it v) (fun _ s₁' => wpAny (model P w) A (assign tg env v) (fun _ s₂ =>
          wpAny (model P w) A (testsOf ifs env) (fun ok s₃ =>
            if ok = true then wpAny (model P w) A (eval elt env) (fun z s₄ =>
              wpAny (model P w) A (call (.builtin "list.append") [ac, z]) (fun _ s₅ => ∃ m, m < n ∧ W m s₅) (fun _ _ => False) s₄) (fun _ _ => False) s₃
            else ∃ m, m < n ∧ W m s₃) (fun _ _ => False) s₂) (fun _ _ => False) s₁') (fun _ _ => False) s₁) (fun _ _ => False) s)
    (n : Nat) (h : W n s) :
    codeAny (model P w) A (.compLoop (.ListComp elt [⟨tg, iter, ifs, 0⟩] scope pos) 0 it ac env) R s := by
  refine codeAny_loop rfl W (fun n s hI => ?_) n h
  show wpAny _ A ((compTurn (.ListComp elt [⟨tg, iter, ifs, 0⟩] scope pos) 0 it ac env).onRaise (fun z => do noteFrame z env; theTreesLotGoes z)) _ _ s
  refine wpAny_noted ?_
  rw [compTurn_list]
  refine wpAny_bind (wpAny_standAt (wpAny_bind (wpAny_mono (turn n s hI) (fun r s₁ h₁ => ?_) fun _ _ h' => h'.elim)))
  cases r with
  | none => exact wpAny_pure h₁
  | some v =>
    refine wpAny_bind (wpAny_mono h₁ (fun _ s₁' h₁' => ?_) fun _ _ h' => h'.elim)
    refine wpAny_bind (wpAny_mono h₁' (fun _ s₂ h₂ => wpAny_bind (wpAny_mono h₂ (fun ok s₃ h₃ => ?_) fun _ _ h' => h'.elim)) fun _ _ h' => h'.elim)
    cases ok with
    | false => exact wpAny_pure (And.intro rfl h₃)
    | true =>
      exact wpAny_bind (wpAny_bind (wpAny_mono h₃ (fun x s₄ h₄ => wpAny_bind (wpAny_mono h₄ (fun _ s₅ h₅ => wpAny_pure (wpAny_pure ⟨rfl, h₅⟩)) fun _ _ h' => h'.elim)) fun _ _ h' => h'.elim))
end

/-- the clause's tests -/
def PIf (X : Cx) (ifs : List Expr) (t : TT) : Prop :=
  ∀ (pins : List (Addr × Obj)) (s : Shared) (σ : St) (H : Hp) (Q : Bool → Hp → Prop), Inv X pins σ H s → t σ H Q → wpAny (model X.prog X.w) X.A (testsOf ifs X.env) (TP X pins σ Q) X.xe s
def tYes : TT := fun _ H Q => Q true H
theorem pif_nil {X : Cx} : PIf X [] tYes := fun _ _ _ H _ I h => wpAny_pure ⟨H, I, h⟩
theorem pif_one {X : Cx} {c : Expr} {t : TT} (h : PT X c t) : PIf X [c] t := fun pins s σ H Q I hw => wpAny_tests_one (h pins s σ H Q I hw)

/-- the reading: D the new list; W the invariant by the turn and a measure -/
def tComp (wi : TI) (tc : TT) (te : TE) : TE := fun σ H Q => wi σ H fun J H1 => ∀ D, H1 D = none → ∃ W : Nat → Nat → Hp → Prop, (∃ m, W 0 m (upd H1 D (.lst []))) ∧ ∀ i m H, W i m H →
  (J.stop i H ∧ Q (.ref D) H) ∨ (J.go i H ∧ ∃ N : Hp → Prop, (∀ H', N H' → ∃ m', m' < m ∧ W (i + 1) m' H') ∧ ∀ x H', J.yld i H x H' → tc (σ ++ [some x]) H' fun b H2 =>
    if b = true then te (σ ++ [some x]) H2 fun v H3 => ∃ ys, H3 D = some (.lst ys) ∧ ys.length < sizeLine ∧ N (upd H3 D (.lst (ys ++ [v])))
    else N H2)

section
variable {X : Cx} {elt iter : Expr} {x : Str} {px pos : Pos} {ifs : List Expr} {sc : Scope} {N2 : List Str} {wi : TI} {tc : TT} {te : TE}

/-- the block's start -/
theorem blk_start {pins : List (Addr × Obj)} {σ : St} {H : Hp} {s s1 : Shared} {fp : List Addr} {h' : Heap} {m : Str → Option Value} {tk : Nat} (B : BlkOk sc X.env.scope x X.N N2) (I : Inv X pins σ H s) (hf : ∀ b ∈ fp, FpOk X pins H b)
    (hfl : ∀ b ∈ fp, b < s.heap.objs.size) (hn : h'.Ns s.heap.objs.size m) (hk : ∀ b o, s.heap.get? b = some o → h'.get? b = some o) (e1 : s1 = { s with heap := h', toks := tk }) :
    Inv (X.blk N2 x sc (closOf X.env.cells sc.names []) s.heap.objs.size s H fp) [] (σ ++ [none]) H s1 := by
  subst e1
  have hcl : ∀ y ∈ sc.names, y.2 = .free → ∃ c, X.env.cells.lookup y.1 = some c := fun y hy hf => I.ok.has y.1 (B.free y hy hf)
  have look : ∀ y c, (closOf X.env.cells sc.names []).lookup y = some c → X.env.cells.lookup y = some c := fun y c h => clos_look hcl (fun _ z => by simp at z) h
  have isfree : ∀ y, (relabel sc X.env).names.lookup y = some .cell ∨ (relabel sc X.env).names.lookup y = some .free → (y, NameKind.free) ∈ sc.names := fun y hy => by
    rcases hy with hy | hy
    · exact relabel_look (env := X.env) B.cell (.inl rfl) hy
    · exact relabel_look (env := X.env) B.cell (.inr rfl) hy
  refine ⟨⟨I.ok.mod, B.kind, I.ok.glob, I.ok.blt, Nat.le_refl _, fun y z c h1 h2 => I.ok.inj y z c (look y c h1) (look z c h2), fun y hy => clos_has (isfree y hy), fun _ _ h => (by cases h), I.ok.hd, I.ok.frames, .inl rfl, fun b hb => ?_, fun b o e => ?_, Nat.le_trans I.ok.bsz I.sz, fun b o e hb => ?_, fun b hb hs => ?_, I.stack, I.stkFree⟩,
    rfl, I.bare, Un.kept hk, ⟨_, hn, fun i y v h1 h2 h3 => ?_⟩, fun y c h => ?_, I.hok.fresh (Nat.le_refl _), fun y c h => I.freeC y c (look y c h), fun p hp => absurd (show p ∈ ([] : List (Addr × Obj)) from hp) (by simp), I.hok.kept hk, ?_⟩
  · exact ⟨Nat.ne_of_lt (hfl b hb), fun y c h => (hf b hb).2.2.2.2.1 y c (look y c h)⟩
  · exact I.bs b o e
  · rcases (hf b hb).2.2.2.1 with z | z
    · exact I.ok.noex b o e z
    · exact absurd (Nat.lt_of_lt_of_le (Heap.lt_size e) (Nat.le_trans I.ok.bsz z)) (Nat.lt_irrefl _)
  · rcases List.mem_cons.mp (I.stkSub b hs) with z | z
    · exact (hf b hb).2.1 z
    · exact (hf b hb).2.2.1 z
  · have hlen := I.len
    have hl2 := B.len
    have h1 : (N2 ++ [x])[i]? = some y := h1
    have h2 : (σ ++ [none])[i]? = some (some v) := h2
    have hi : i < X.N.length := by
      by_cases hi : i < X.N.length
      · exact hi
      · rw [List.getElem?_append_right (by omega)] at h2
        cases hd : i - σ.length with
        | zero => rw [hd] at h2; simp at h2
        | succ n => rw [hd] at h2; simp at h2
    rw [List.getElem?_append_left (by omega)] at h1
    rw [List.getElem?_append_left (by omega)] at h2
    have h3' : (relabel sc X.env).names.lookup y = some .cell ∨ (relabel sc X.env).names.lookup y = some .free := by
      rcases h3 with z | z
      · exact absurd (relabel_loc (env := X.env) z) (B.out y (List.mem_of_getElem? h1))
      · exact z
    have hfr := isfree y h3'
    have h1 : X.N[i]? = some y := by
      obtain ⟨z, hz⟩ : ∃ z, X.N[i]? = some z := ⟨X.N[i], List.getElem?_eq_getElem hi⟩
      rcases B.ren (z, y) (List.mem_of_getElem? (List.getElem?_zip_eq_some.mpr ⟨hz, h1⟩)) with e | e
      · rw [hz, show y = z from e]
      · exact absurd e (lookup_mem hfr)
    obtain ⟨m3, hn3, hl3⟩ := I.loc
    have hv : X.env.scope.names.lookup y = some .cell ∨ X.env.scope.names.lookup y = some .free := B.free (y, .free) hfr rfl
    obtain ⟨u, ru, lk⟩ := hl3 i y v h1 h2 (.inr hv)
    refine ⟨u, ru, .inr ⟨h3', ?_⟩⟩
    rcases lk with ⟨k1, _⟩ | ⟨k1, c, ec, zc⟩
    · rcases hv with q | q
      · rw [show X.env.kindOf y = X.env.scope.names.lookup y from rfl, q] at k1
        cases k1
      · rw [show X.env.kindOf y = X.env.scope.names.lookup y from rfl, q] at k1
        cases k1
    · obtain ⟨c', e'⟩ := clos_has (cells := X.env.cells) (cs := []) hfr
      have e2 := look y c' e'
      rw [ec] at e2
      cases e2
      obtain ⟨o, ho, hd⟩ := zc
      exact ⟨c, e', o, hk _ _ ho, hd⟩
  · obtain ⟨v, o, ho, hd⟩ := I.cell y c (look y c h)
    exact ⟨v, o, hk _ _ ho, hd⟩
  · show (σ ++ [none]).length = (N2 ++ [x]).length
    rw [List.length_append, List.length_append, I.len, B.len]
    rfl

/-- the block: behind it the def's own state, at a heap that the reading tells -/
theorem blk_run {pins : List (Addr × Obj)} {σ : St} {H2 : Hp} {s2 : Shared} {it : Addr} {fp : List Addr} {tn : Nat → Heap → Prop} {J : It} {Q : VK} {E : Value → Shared → Prop} {RR : Value → Addr → Result → Shared → Prop} (hc : X.calm = true) (B : BlkOk sc X.env.scope x X.N N2)
    (ht : ∀ cl C s0 H0 fp, PIf (X.blk N2 x sc cl C s0 H0 fp) ifs tc) (he : ∀ cl C s0 H0 fp, PE (X.blk N2 x sc cl C s0 H0 fp) elt te)
    (I2 : Inv X pins σ H2 s2) (T : Turn X.prog X.w X.K (.Name x px) J fp it tn) (st2 : tn 0 s2.heap) (f2 : ∀ b ∈ fp, FpOk X pins H2 b)
    (hw : ∀ D, H2 D = none → ∃ W : Nat → Nat → Hp → Prop, (∃ m, W 0 m (upd H2 D (.lst []))) ∧ ∀ i m H, W i m H →
      (J.stop i H ∧ Q (.ref D) H) ∨ (J.go i H ∧ ∃ N : Hp → Prop, (∀ H', N H' → ∃ m', m' < m ∧ W (i + 1) m' H') ∧ ∀ x H', J.yld i H x H' → tc (σ ++ [some x]) H' fun b H2 =>
        if b = true then te (σ ++ [some x]) H2 fun v H3 => ∃ ys, H3 D = some (.lst ys) ∧ ys.length < sizeLine ∧ N (upd H3 D (.lst (ys ++ [v])))
        else N H2))
    (fin : ∀ (D C : Addr) (H' : Hp) (s' : Shared) (m : Str → Option Value), Inv X pins σ H' s' → s'.heap.Ns C m → FpOk X pins H' C → Q (.ref D) H' → RR (.ref D) C (.ok .next) s') :
    wpAny (model X.prog X.w) X.A (newList []) (fun acc s₃ => wpAny (model X.prog X.w) X.A (newFunctionEnv sc X.env.globals (closOf X.env.cells sc.names []) [] X.env.qual none .none (some X.env)) (fun cenv s₄ =>
      codeAny (model X.prog X.w) X.A (.compStart (.ListComp elt [⟨.Name x px, iter, ifs, 0⟩] sc pos) 0 (.ref it) acc { cenv with scope := relabel sc X.env }) (RR acc cenv.locals) s₄) E s₃) E s2 := by
  refine wpAny_newObj_type (wpAny_newFunctionEnv B.cell (by intro y hy; simp at hy) (fun h₁ hns₁ hsb₁ => ?_) B.kind)
  have hD : H2 s2.heap.objs.size = none := I2.fresh
  obtain ⟨W, ⟨m0, w0⟩, turn⟩ := hw _ hD
  have I3 : Inv X pins σ (upd H2 s2.heap.objs.size (.lst [])) { s2 with heap := s2.heap.push { cls := .type "list", data := .seq ([] : List Value).toArray } } := I2.lnew (its := []) (t' := s2.toks) .nil (Nat.zero_le _)
  have fne : ∀ b ∈ fp, b < s2.heap.objs.size := fun b hb => by
    obtain ⟨o, ho, _⟩ := T.obj _ _ st2 b hb
    exact Heap.lt_size ho
  generalize hs3 : ({ s2 with heap := s2.heap.push { cls := .type "list", data := .seq ([] : List Value).toArray } } : Shared) = s3 at I3
  have hs3h : s3.heap = s2.heap.push { cls := .type "list", data := .seq ([] : List Value).toArray } := by rw [← hs3]
  have f3 : ∀ b ∈ fp, FpOk X pins (upd H2 s2.heap.objs.size (.lst [])) b := fun b hb => ⟨by rw [upd_ne (Nat.ne_of_lt (fne b hb))]; exact (f2 b hb).1, (f2 b hb).2⟩
  have fl3 : ∀ b ∈ fp, b < s3.heap.objs.size := fun b hb => by
    rw [hs3h, Heap.size_push]
    exact Nat.lt_succ_of_lt (fne b hb)
  have keep3 : ∀ b o, s3.heap.get? b = some o → h₁.get? b = some o := fun b o e => by
    rw [hs3h] at e
    refine hsb₁.extBut b o ?_ (Heap.get?_push_of_some _ e)
    exact Nat.ne_of_lt (Heap.lt_size e)
  have hns3 : h₁.Ns s3.heap.objs.size (fun z => ([] : List (Str × Value)).reverse.lookup z) := by
    rw [hs3h]
    exact hns₁
  have I4 := blk_start (x := x) (sc := sc) (s1 := { s3 with heap := h₁, toks := s3.toks + ([] : List (Str × Value)).length }) B I3 f3 fl3 hns3 keep3 rfl
  have st4 : tn 0 h₁ := T.keep _ _ _ st2 fun b hb o e => keep3 b o (by rw [hs3h]; exact Heap.get?_push_of_some _ e)
  have hx : (relabel sc X.env).names.lookup x = some .local := lookup_relabel_local B.own
  have hxN : x ∉ N2 := fun h => B.out x h B.own
  have stat : ∀ {H' : Hp}, (∀ b ∈ fp, H' b = none) → ∀ b ∈ fp, FpOk (X.blk N2 x sc (closOf X.env.cells sc.names []) s3.heap.objs.size s3 (upd H2 s2.heap.objs.size (.lst [])) fp) [] H' b := fun hn b hb =>
    ⟨hn b hb, (I4.ok.exf b hb).1, I4.ok.exfs b hb, .inl hb, (I4.ok.exf b hb).2, fun p hp => absurd (show p ∈ ([] : List (Addr × Obj)) from hp) (by simp)⟩
  have loop : ∀ s4 : Shared, s4 = { s3 with heap := h₁, toks := s3.toks + ([] : List (Str × Value)).length } →
      codeAny (model X.prog X.w) X.A (.compLoop (.ListComp elt [⟨.Name x px, iter, ifs, 0⟩] sc pos) 0 (.ref it) (.ref s2.heap.objs.size) (compEnvC sc (closOf X.env.cells sc.names []) s3.heap.objs.size X.env)) (RR (.ref s2.heap.objs.size) s3.heap.objs.size) s4 := by
    rintro s4 rfl
    refine comp_turns (fun n s' => ∃ (i : Nat) (o : Option V) (H' : Hp), Inv (X.blk N2 x sc (closOf X.env.cells sc.names []) s3.heap.objs.size s3 (upd H2 s2.heap.objs.size (.lst [])) fp) [] (σ ++ [o]) H' s' ∧ tn i s'.heap ∧ (∀ b ∈ fp, H' b = none) ∧ W i n H') ?_ m0
      ⟨0, none, _, I4, st4, fun b hb => (f3 b hb).1, w0⟩
    rintro n s5 ⟨i, o, H5, I5, st5, fr5, w5⟩
    rcases turn i n H5 w5 with ⟨stop, qn⟩ | ⟨go, N, hN, step⟩
    · refine thn (T.done (X.blk N2 x sc (closOf X.env.cells sc.names []) s3.heap.objs.size s3 (upd H2 s2.heap.objs.size (.lst [])) fp) rfl rfl rfl hc i [] s5 (σ ++ [o]) H5 _ I5 (stat fr5) st5 stop) fun r s6 ⟨hr, I6⟩ => ?_
      subst hr
      obtain ⟨m6, hn6, _⟩ := I6.loc
      refine fin _ _ H5 s6 m6 ?_ hn6 (I3.fpOk (Nat.le_refl _) I6.free) qn
      exact I3.call' (ch := fp) I6.os I6.base I6.hok I6.bare fun b hb => ⟨(f3 b hb).2.2.2.1, (f3 b hb).2.1, (f3 b hb).2.2.2.2.1, (f3 b hb).2.2.2.2.2⟩
    · refine thn (T.item (X.blk N2 x sc (closOf X.env.cells sc.names []) s3.heap.objs.size s3 (upd H2 s2.heap.objs.size (.lst [])) fp) rfl rfl rfl hc i [] s5 (σ ++ [o]) H5 _ I5 (stat fr5) st5 go) fun r s6 ⟨u, hr, h6⟩ => ?_
      subst hr
      refine thn h6 fun _ s7 ⟨v, H7, I7, r7, y7, st7, fr7⟩ => ?_
      have I7' := I7.pinned (stat fr7) (T.obj _ _ st7)
      have hnd : (N2 ++ [x]).Nodup := by
        refine List.nodup_append.mpr ⟨B.nd2, by simp, fun a ha b hb => ?_⟩
        have : b = x := by simpa using hb
        subst this
        rintro rfl
        exact hxN ha
      have hix : (N2 ++ [x])[X.N.length]? = some x := by
        rw [← B.len, List.getElem?_append_right (Nat.le_refl _), Nat.sub_self]
        rfl
      refine wpAny_assign_Name (store_ok (v := v) I7' hnd hix (.inl hx) r7 (fun s8 I8 => ?_) (.inr hx))
      have hset : (σ ++ [o]).set X.N.length (some v) = σ ++ [some v] := by
        rw [← I3.len, List.set_append_right _ _ (Nat.le_refl _), Nat.sub_self]
        rfl
      rw [hset] at I8
      have again : ∀ {H9 : Hp} {s9 : Shared}, Inv (X.blk N2 x sc (closOf X.env.cells sc.names []) s3.heap.objs.size s3 (upd H2 s2.heap.objs.size (.lst [])) fp) ([] ++ pinsAt fp s7.heap) (σ ++ [some v]) H9 s9 → N H9 →
          ∃ m, m < n ∧ ∃ (i : Nat) (o : Option V) (H' : Hp), Inv (X.blk N2 x sc (closOf X.env.cells sc.names []) s3.heap.objs.size s3 (upd H2 s2.heap.objs.size (.lst [])) fp) [] (σ ++ [o]) H' s9 ∧ tn i s9.heap ∧ (∀ b ∈ fp, H' b = none) ∧ W i m H' := fun {H9 s9} I9 n9 => by
        obtain ⟨m', hm, w9⟩ := hN H9 n9
        refine ⟨m', hm, i + 1, some v, H9, I9.unpinned, T.keep _ _ _ st7 fun b hb o e => (I9.pin (b, o) (List.mem_append_right _ (List.mem_append_right _ (mem_pinsAt hb e)))).1, fun b hb => ?_, w9⟩
        obtain ⟨o, e, d⟩ := T.obj _ _ st7 b hb
        exact (I9.pin (b, o) (List.mem_append_right _ (List.mem_append_right _ (mem_pinsAt hb e)))).2.1
      refine thn (ht _ _ _ _ _ _ s8 _ H7 _ I8 (step v H7 y7)) fun ok s9 ⟨H9, I9, q9⟩ => ?_
      cases ok with
      | false =>
        rw [if_neg Bool.false_ne_true] at q9 ⊢
        exact again I9 q9
      | true =>
        rw [if_pos rfl] at q9 ⊢
        refine thn (he _ _ _ _ _ _ s9 _ H9 _ I9 q9) fun ue s10 ⟨ve, H10, I10, r10, ys, hy, hz, q10⟩ => ?_
        refine thn (mt_append _ s10 _ H10 (.ref s2.heap.objs.size) [ve] (.ref s2.heap.objs.size) [ue] (fun _ H' => N H') I10 rfl (.cons r10 .nil) ⟨_, ys, ve, rfl, rfl, hy, hz, q10⟩) fun _ s11 ⟨_, H11, I11, _, q11⟩ => ?_
        exact again I11 q11
  have fin' : codeAny (model X.prog X.w) X.A (.compStart (.ListComp elt [⟨.Name x px, iter, ifs, 0⟩] sc pos) 0 (.ref it) (.ref s2.heap.objs.size) (compEnvC sc (closOf X.env.cells sc.names []) s3.heap.objs.size X.env)) (RR (.ref s2.heap.objs.size) s3.heap.objs.size) { s3 with heap := h₁, toks := s3.toks + ([] : List (Str × Value)).length } :=
    codeAny_compStart_list (loop _ rfl) (T.self _ 0 _ _ _ st4 (loop _ rfl))
  exact fin'

/-- [elt for x in iter if ..] -/
theorem pe_comp (hc : X.calm = true) (B : BlkOk sc X.env.scope x X.N N2) (hi : PI X (.Name x px) iter wi) (ht : ∀ cl C s0 H0 fp, PIf (X.blk N2 x sc cl C s0 H0 fp) ifs tc) (he : ∀ cl C s0 H0 fp, PE (X.blk N2 x sc cl C s0 H0 fp) elt te)
    (hs : ∀ v, foldedSetIterable iter X.env v = pure v := by intro _; rfl) : PE X (.ListComp elt [⟨.Name x px, iter, ifs, 0⟩] sc pos) (tComp wi tc te) := by
  intro pins s σ H Q I h
  rw [eval_ListComp]
  have hcl : ∀ y ∈ sc.names, y.2 = .free → ∃ c, X.env.cells.lookup y.1 = some c := fun y hy hf => I.ok.has y.1 (B.free y hy hf)
  refine wpAny_comprehension_free (use := none) rfl hs (closureFor_all hcl) B.kind B.loc (thn (hi pins s σ H _ I h) fun v s1 h1 => thn h1 fun itv s2 h2 => ?_)
  obtain ⟨it, fp, tn, J, H2, e, I2, T, st2, f2, hw⟩ := h2
  subst e
  refine blk_run (RR := fun acc C => compPost (model X.prog X.w) X.A X.xe none (EP X pins σ Q) acc C) hc B ht he I2 T st2 f2 hw ?_
  intro D C H' s' m I' hn hC q
  obtain ⟨c0, c1, c2, c3, c4, c5⟩ := hC
  refine ⟨m, hn, fun h'' hs'' => ⟨.ref D, H', ?_, rfl, q⟩⟩
  exact I'.turned (t' := s'.toks) (fun b o hb e => hs''.extBut b o hb e) c0 c1 c3 c4 c5

/-- y = [elt for x in iter if ..], where the store goes ahead of the block's end -/
theorem ps_comp {i : Nat} {y : Str} {py spos : Pos} (hc : X.calm = true) (B : BlkOk sc X.env.scope x X.N N2) (hi : PI X (.Name x px) iter wi) (ht : ∀ cl C s0 H0 fp, PIf (X.blk N2 x sc cl C s0 H0 fp) ifs tc) (he : ∀ cl C s0 H0 fp, PE (X.blk N2 x sc cl C s0 H0 fp) elt te)
    (hy : X.N[i]? = some y) (hl : X.env.scope.names.lookup y = some .local) (hsw : swapsWith (.ListComp elt [⟨.Name x px, iter, ifs, 0⟩] sc pos) (some (.Name y py)) spos.line X.env = pure true := by rfl)
    (hs : ∀ v, foldedSetIterable iter X.env v = pure v := by intro _; rfl) : PS X (.Assign [.Name y py] (.ListComp elt [⟨.Name x px, iter, ifs, 0⟩] sc pos) spos) (tAsg (tComp wi tc te) (gName i)) := by
  intro pins s σ H D I h
  have hx := exec_Assign_Name_used (env := X.env) _ _ _ _ hsw
  rw [hx]
  refine wpAny_bind (wpAny_standAt ?_)
  refine wpAny_bind ?_
  show wpAny _ X.A (do let _ ← comprehension (.ListComp elt [⟨.Name x px, iter, ifs, 0⟩] sc pos) sc X.env _ (newList []) false (eval iter X.env) (some (assign (.Name y py) X.env))) _ _ s
  have hcl : ∀ y ∈ sc.names, y.2 = .free → ∃ c, X.env.cells.lookup y.1 = some c := fun y hy hf => I.ok.has y.1 (B.free y hy hf)
  refine wpAny_bind (wpAny_mono (wpAny_comprehension_free (use := some (assign (.Name y py) X.env)) (Q := fun _ s' => SP X pins D .next s') rfl hs (closureFor_all hcl) B.kind B.loc
    (thn (hi pins s σ H _ I h) fun v s1 h1 => thn h1 fun itv s2 h2 => ?_)) (fun _ s' hq => wpAny_pure (wpAny_pure hq)) fun _ _ e => e)
  obtain ⟨it, fp, tn, J, H2, e, I2, T, st2, f2, hw⟩ := h2
  subst e
  refine blk_run (Q := fun v H1 => gName i v σ H1 D.nx) (RR := fun acc C => compPost (model X.prog X.w) X.A X.xe (some (assign (.Name y py) X.env)) (fun _ s' => SP X pins D .next s') acc C) hc B ht he I2 T st2 f2 hw ?_
  intro E C H' s' m I' hn hC q
  obtain ⟨c0, c1, c2, c3, c4, c5⟩ := hC
  show wpAny _ X.A (assign (.Name y py) X.env (.ref E)) _ _ _
  refine wpAny_assign_Name (store_ok2 (v := .ref E) I' B.nd hy (.inl hl) rfl (fun s8 I8 ⟨a, sb, ha⟩ => ?_) (.inr hl))
  have hCa : C ≠ a := by
    rcases ha with z | z
    · rw [z]; exact c1
    · exact fun z' => c4 _ _ z z'.symm
  refine ⟨m, hn.sameBut sb hCa, fun h'' hs'' => ⟨_, H', ?_, q⟩⟩
  exact I8.turned (t' := s8.toks) (fun b o hb e => hs''.extBut b o hb e) c0 c1 c3 c4 c5
end

/-! ### as structures -/
structure QIf (X : Cx) (ifs : List Expr) (t : TT) : Prop where
  out : PIf X ifs t
section
variable {X : Cx} {elt iter c : Expr} {x : Str} {px pos : Pos} {ifs : List Expr} {sc esc : Scope} {N N2 : List Str} {wi : TI} {tc : TT} {te : TE}
theorem qif_nil : QIf X [] tYes := ⟨pif_nil⟩
theorem qif_one (h : QT X c tc) : QIf X [c] tc := ⟨pif_one h.out⟩
theorem qe_comp (esc : Scope) (N N2 : List Str) (B : BlkOk sc esc x N N2) (hi : QI X (.Name x px) iter wi) (ht : ∀ cl C s0 H0 fp, QIf (X.blk N2 x sc cl C s0 H0 fp) ifs tc) (he : ∀ cl C s0 H0 fp, QE (X.blk N2 x sc cl C s0 H0 fp) elt te)
    (hesc : X.env.scope = esc := by rfl) (hN : X.N = N := by rfl) (hc : X.calm = true := by rfl) (hs : ∀ v, foldedSetIterable iter X.env v = pure v := by intro _; rfl) : QE X (.ListComp elt [⟨.Name x px, iter, ifs, 0⟩] sc pos) (tComp wi tc te) := by
  subst hesc hN
  exact ⟨pe_comp hc B hi.out (fun cl C s0 H0 fp => (ht cl C s0 H0 fp).out) (fun cl C s0 H0 fp => (he cl C s0 H0 fp).out) hs⟩
theorem qs_comp {i : Nat} {y : Str} {py spos : Pos} (esc : Scope) (N N2 : List Str) (B : BlkOk sc esc x N N2) (hy : N[i]? = some y) (hl : esc.names.lookup y = some .local) (hi : QI X (.Name x px) iter wi) (ht : ∀ cl C s0 H0 fp, QIf (X.blk N2 x sc cl C s0 H0 fp) ifs tc) (he : ∀ cl C s0 H0 fp, QE (X.blk N2 x sc cl C s0 H0 fp) elt te)
    (hesc : X.env.scope = esc := by rfl) (hN : X.N = N := by rfl) (hc : X.calm = true := by rfl) (hsw : swapsWith (.ListComp elt [⟨.Name x px, iter, ifs, 0⟩] sc pos) (some (.Name y py)) spos.line X.env = pure true := by rfl)
    (hs : ∀ v, foldedSetIterable iter X.env v = pure v := by intro _; rfl) : QS X (.Assign [.Name y py] (.ListComp elt [⟨.Name x px, iter, ifs, 0⟩] sc pos) spos) (tAsg (tComp wi tc te) (gName i)) := by
  subst hesc hN
  exact ⟨ps_comp hc B hi.out (fun cl C s0 H0 fp => (ht cl C s0 H0 fp).out) (fun cl C s0 H0 fp => (he cl C s0 H0 fp).out) hy hl hsw hs⟩
end

/-! ### the forms one uses -/
section
variable {K : PySem.W.Frag} {a D : Addr} {xs : List V} {tc : TT} {te : TE} {σ : St} {H : Hp} {Q : VK} {R : Hp → Prop}
theorem rd_comp {wi : TI} (q : wi σ H fun J H1 => ∀ D, H1 D = none → ∃ W : Nat → Nat → Hp → Prop, (∃ m, W 0 m (upd H1 D (.lst []))) ∧ ∀ i m H, W i m H →
    (J.stop i H ∧ Q (.ref D) H) ∨ (J.go i H ∧ ∃ N : Hp → Prop, (∀ H', N H' → ∃ m', m' < m ∧ W (i + 1) m' H') ∧ ∀ x H', J.yld i H x H' → tc (σ ++ [some x]) H' fun b H2 =>
      if b = true then te (σ ++ [some x]) H2 fun v H3 => ∃ ys, H3 D = some (.lst ys) ∧ ys.length < sizeLine ∧ N (upd H3 D (.lst (ys ++ [v])))
      else N H2)) : tComp wi tc te σ H Q := q
theorem rd_yes {R : Bool → Hp → Prop} (q : R true H) : tYes σ H R := q
/-- over a list that stays -/
theorem comp_list (Pv : Nat → Hp → Prop) (h0 : Pv 0 (upd H D (.lst []))) (hl : ∀ i H, Pv i H → SqL K H a xs)
    (hs : ∀ i x H, xs[i]? = some x → Pv i H → tc (σ ++ [some x]) H fun b H2 => if b = true then te (σ ++ [some x]) H2 fun v H3 => ∃ ys, H3 D = some (.lst ys) ∧ ys.length < sizeLine ∧ Pv (i + 1) (upd H3 D (.lst (ys ++ [v]))) else Pv (i + 1) H2)
    (hd : ∀ H, Pv xs.length H → R H) :
    ∃ W : Nat → Nat → Hp → Prop, (∃ m, W 0 m (upd H D (.lst []))) ∧ ∀ i m H, W i m H →
      ((Itl K a).stop i H ∧ R H) ∨ ((Itl K a).go i H ∧ ∃ N : Hp → Prop, (∀ H', N H' → ∃ m', m' < m ∧ W (i + 1) m' H') ∧ ∀ x H', (Itl K a).yld i H x H' → tc (σ ++ [some x]) H' fun b H2 =>
        if b = true then te (σ ++ [some x]) H2 fun v H3 => ∃ ys, H3 D = some (.lst ys) ∧ ys.length < sizeLine ∧ N (upd H3 D (.lst (ys ++ [v])))
        else N H2) := by
  refine ⟨fun i m H => m = xs.length - i ∧ i ≤ xs.length ∧ Pv i H, ⟨xs.length, by simp, Nat.zero_le _, h0⟩, ?_⟩
  rintro i m H1 ⟨rfl, hi, p⟩
  have q := hl i H1 p
  by_cases hlt : i < xs.length
  · refine .inr ⟨⟨xs, xs[i], q, by simp [hlt]⟩, Pv (i + 1), fun H' p' => ⟨xs.length - (i + 1), by omega, rfl, hlt, p'⟩, fun x H' y => ?_⟩
    obtain ⟨e, y⟩ := y
    subst e
    exact hs i x _ (y xs q) p
  · have e : i = xs.length := by omega
    subst e
    exact .inl ⟨⟨xs, q, Nat.le_refl _⟩, hd H1 p⟩
theorem comp_range {lo : Int} {n : Nat} (Pv : Nat → Hp → Prop) (h0 : Pv 0 (upd H D (.lst [])))
    (hs : ∀ i H, i < n → Pv i H → tc (σ ++ [some (.int (lo + i))]) H fun b H2 => if b = true then te (σ ++ [some (.int (lo + i))]) H2 fun v H3 => ∃ ys, H3 D = some (.lst ys) ∧ ys.length < sizeLine ∧ Pv (i + 1) (upd H3 D (.lst (ys ++ [v]))) else Pv (i + 1) H2)
    (hd : ∀ H, Pv n H → R H) :
    ∃ W : Nat → Nat → Hp → Prop, (∃ m, W 0 m (upd H D (.lst []))) ∧ ∀ i m H, W i m H →
      ((Itr lo n).stop i H ∧ R H) ∨ ((Itr lo n).go i H ∧ ∃ N : Hp → Prop, (∀ H', N H' → ∃ m', m' < m ∧ W (i + 1) m' H') ∧ ∀ x H', (Itr lo n).yld i H x H' → tc (σ ++ [some x]) H' fun b H2 =>
        if b = true then te (σ ++ [some x]) H2 fun v H3 => ∃ ys, H3 D = some (.lst ys) ∧ ys.length < sizeLine ∧ N (upd H3 D (.lst (ys ++ [v])))
        else N H2) := by
  refine ⟨fun i m H => m = n - i ∧ i ≤ n ∧ Pv i H, ⟨n, by simp, Nat.zero_le _, h0⟩, ?_⟩
  rintro i m H1 ⟨rfl, hi, p⟩
  by_cases hlt : i < n
  · refine .inr ⟨hlt, Pv (i + 1), fun H' p' => ⟨n - (i + 1), by omega, rfl, hlt, p'⟩, fun x H' y => ?_⟩
    obtain ⟨e, y⟩ := y
    subst e y
    exact hs i _ hlt p
  · have e : i = n := by omega
    subst e
    exact .inl ⟨Nat.le_refl _, hd H1 p⟩
end
end L2

/-! own rules: max of a list, while, o[i] = v, methods without arguments, x op= e, as structures; short readings -/
namespace L2
open PySem PySem.Spec PyProof.Rows
theorem best_in (bt : Nat → Nat → Bool) : ∀ k, argBest bt k ≤ k
  | 0 => Nat.le_refl _
  | k + 1 => by
    rw [argBest]
    have := best_in bt k
    split <;> omega
theorem best_top (val : Nat → Int) : ∀ k j, j ≤ k → val j ≤ val (argBest (fun i j => decide (val i > val j)) k)
  | 0, j, h => by
    have e : j = 0 := by omega
    subst e
    exact Int.le_refl _
  | k + 1, j, h => by
    have ih := best_top val k
    rw [argBest]
    by_cases c : val (k + 1) > val (argBest (fun i j => decide (val i > val j)) k)
    · rw [if_pos (by simpa using c)]
      by_cases e : j = k + 1
      · subst e; exact Int.le_refl _
      · have := ih j (by omega)
        omega
    · rw [if_neg (by simpa using c)]
      by_cases e : j = k + 1
      · subst e
        omega
      · exact ih j (by omega)
def rMaxL (K : PySem.W.Frag) : List V → Hp → VK → Prop := fun xs H Q => ∃ p ns, xs = [.ref p] ∧ SqL K H p (ns.map V.int) ∧ ns ≠ [] ∧ ∀ m, m ∈ ns → (∀ n ∈ ns, n ≤ m) → Q (.int m) H
def rMaxA (K : PySem.W.Frag) : List V → Hp → VK → Prop := fun xs H Q => (∃ i j, xs = [.int i, .int j] ∧ Q (.int (if j > i then j else i)) H) ∨ rMaxL K xs H Q
section
variable {X : Cx}
theorem call_maxL (hc : X.calm = true) : CallR X (.builtin "max") (rMaxL X.K) := by
  intro pins s σ H xs us Q I r h
  obtain ⟨p, ns, rfl, hq, hne, q⟩ := h
  obtain ⟨u, rfl, rx⟩ := vals1 r
  cases rx
  obtain ⟨its, rv, pl, hz⟩ := I.list hq
  have hi : IntsAre its ns := intsAre_of rv
  obtain ⟨xs, hxs⟩ := hi.allInts.items
  have hn : numsOf its.toArray.toList = ns := by rw [show its.toArray.toList = its from rfl, hi.numsOf]
  have hl := pl.isList
  rw [hxs] at hl hn
  rw [nums_intItems] at hn
  have hsz : xs.size = ns.length := by rw [← hn]; simp
  have h0 : 0 < ns.length := List.length_pos_iff.mpr hne
  have val : ∀ i, i < ns.length → numAt xs i = ns.getD i 0 := fun i hi => by
    rw [← hn]
    have : i < xs.size := by omega
    simp [numAt, List.getD, this]
  refine max_intList (I.ok.hd hc) hl (by omega) fun v h' tk hv hk => ?_
  obtain ⟨tk', rfl⟩ := intItems_at hv
  have hb := best_in (fun i j => decide (numAt xs i > numAt xs j)) (xs.size - 1)
  have hlt : argBest (fun i j => decide (numAt xs i > numAt xs j)) (xs.size - 1) < ns.length := by omega
  refine ⟨.int (numAt xs (argBest (fun i j => decide (numAt xs i > numAt xs j)) (xs.size - 1))), H, I.kept hk, ⟨tk', rfl⟩, q _ ?_ fun n hn' => ?_⟩
  · rw [val _ hlt]
    have e : ns.getD (argBest (fun i j => decide (numAt xs i > numAt xs j)) (xs.size - 1)) 0 = ns[argBest (fun i j => decide (numAt xs i > numAt xs j)) (xs.size - 1)] := by simp [List.getD, hlt]
    rw [e]
    exact List.getElem_mem hlt
  · obtain ⟨j, hj, e⟩ := List.mem_iff_getElem.mp hn'
    have q1 := best_top (numAt xs) (xs.size - 1) j (by omega)
    rw [val j hj] at q1
    have e2 : ns.getD j 0 = ns[j] := by simp [List.getD, hj]
    rw [e2, e] at q1
    exact q1
theorem call_maxA (hc : X.calm = true) : CallR X (.builtin "max") (rMaxA X.K) := (call_max2 hc).or (call_maxL hc)
end
section
variable {σ : St} {H : Hp} {Q : VK} {D : Ends} {K : PySem.W.Frag}
theorem rd_max2 {i j : Int} (q : Q (.int (if j > i then j else i)) H) : rMaxA K [.int i, .int j] H Q := .inl ⟨i, j, rfl, q⟩
theorem rd_maxL {p : Addr} {ns : List Int} (h : SqL K H p (ns.map V.int)) (hne : ns ≠ []) (q : ∀ m, m ∈ ns → (∀ n ∈ ns, n ≤ m) → Q (.int m) H) : rMaxA K [.ref p] H Q := .inr ⟨p, ns, rfl, h, hne, q⟩
theorem rd_chain {r r' : R2} {ta tb tc : TE} (q : ta σ H fun x H1 => tb σ H1 fun y H2 => r x y H2 fun z H3 => ∃ k, z = .bl k ∧ (if k = true then tc σ H3 fun w' H4 => r' y w' H4 Q else Q (.bl false) H3)) : tChain r r' ta tb tc σ H Q := q
theorem rd_bm0 {T : String} {r : V → List V → Hp → VK → Prop} {to : TE} (q : to σ H fun x H1 => tyV K T x H1 ∧ r x [] H1 Q) : tBM0 K T r to σ H Q := q
theorem rd_clear {l : Addr} {xs : List V} (h : H l = some (.lst xs)) (q : Q .non (upd H l (.lst []))) : rClear (.ref l) [] H Q := ⟨l, xs, rfl, rfl, h, q⟩
theorem rd_gsub {to ti : TE} {t : TSet} {v : V} {R : St → Hp → Prop} (q : to σ H fun o H1 => ti σ H1 fun i H2 => t o i v H2 fun H3 => R σ H3) : gSub to ti t v σ H R := q
theorem rd_setL {p : Addr} {xs : List V} {k : Int} {j : Nat} {v : V} {R : Hp → Prop} (h : H p = some (.lst xs)) (e : ixN xs.length k = some j) (q : R (upd H p (.lst (xs.set j v)))) : rSetL (.ref p) (.int k) v H R := ⟨p, xs, k, j, rfl, rfl, h, e, q⟩
theorem while_m {c : TT} {tb : TS} (Pv : Nat → St → Hp → Prop) (m0 : Nat) (h0 : Pv m0 σ H)
    (hs : ∀ m σ H, Pv m σ H → c σ H fun b H1 => if b = true then ∃ N : St → Hp → Prop, (∀ σ' H', N σ' H' → ∃ m', m' < m ∧ Pv m' σ' H') ∧ tb { D with nx := N, ct := N, bk := D.nx } σ H1 else D.nx σ H1) : tWhile c tb D σ H := ⟨Pv, ⟨m0, h0⟩, hs⟩
theorem rd_aug {i : Nat} {te : TE} {ti : TIp} {v : V} (h : σ[i]? = some (some v)) (q : te σ H fun y H1 => ti v y H1 fun z H2 => D.nx (σ.set i (some z)) H2) : tAug i te ti D σ H := ⟨v, h, q⟩
theorem rd_ipI {f : Int → Int → Int} {i j : Int} (q : Q (.int (f i j)) H) : ipI f (.int i) (.int j) H Q := ⟨i, j, rfl, rfl, q⟩
theorem rd_irng2 {ta : TA} {R : It → Hp → Prop} (q : ta σ H fun vs H1 => ∃ i j : Int, vs = [.int i, .int j] ∧ (-(2 ^ 62) ≤ i ∧ i < 2 ^ 62 ∧ -(2 ^ 62) ≤ j ∧ j < 2 ^ 62) ∧ R (Itr i (j - i).toNat) H1) : iRng2 ta σ H R := q
theorem rd_rng2 {i j : Int} {P : Int → Int → Prop} (h1 : -1000000 ≤ i) (h2 : i ≤ 1000000) (h3 : -1000000 ≤ j) (h4 : j ≤ 1000000) (q : P i j) : ∃ i' j' : Int, [V.int i, V.int j] = [.int i', .int j'] ∧ (-(2 ^ 62) ≤ i' ∧ i' < 2 ^ 62 ∧ -(2 ^ 62) ≤ j' ∧ j' < 2 ^ 62) ∧ P i' j' :=
  ⟨i, j, rfl, ⟨by omega, by omega, by omega, by omega⟩, q⟩
end
section
variable {X : Cx} {a b c e o i' : Expr} {to ti te : TE} {tc : TT} {pos p2 apos cpos : Pos} {body : List Stmt} {tb : TS}
theorem qe_bm0 {name : Str} {T id : String} {r : V → List V → Hp → VK → Prop} (pa : PlainAttrs T) (slot : Slot T name id) (hty : typeOf (.builtin id) = pure (.type "method_descriptor")) (hm : MtR X id r) (ho : QE X o to)
    (hbase : attributeBase o name X.env (eval o X.env) = eval o X.env := by rfl) (hline : (apos.endLine == cpos.line) = true := by rfl) : QE X (.Call (.Attribute o name apos) [] [] cpos) (tBM0 X.K T r to) := ⟨pe_bm0 pa slot hty hm ho.out hbase hline⟩
theorem qs_while (hp : PassesOwn (model X.prog X.w) X.A X.env X.xe) (hc : QT X c tc) (hb : QSs X body tb) : QS X (.While c body [] pos) (tWhile tc tb) := ⟨ps_while hp hc.out hb.out⟩
theorem qs_aug {i : Nat} {x : Str} {op : Operator} {tp : TIp} {pos' : Pos} (hN : X.N.Nodup) (hi : X.N[i]? = some x) (hx : Loc X.env.scope x) (he : QE X e te) (ho : PIp X op tp) (hf : X.fn x = true ∨ X.env.scope.names.lookup x = some .local := by first | exact .inl rfl | exact .inr rfl | assumption) :
    QS X (.AugAssign (.Name x pos') op e pos) (tAug i te tp) := ⟨ps_aug hN hi hx he.out ho hf⟩
theorem qg_sub {t : TSet} (ho : QE X o to) (hi : QE X i' ti) (hs : PSet X t)
    (ha : ∀ v, assign (.Subscript o i' pos) X.env v = (do
      let ov ← holding [v] (eval o X.env)
      let iv ← holding [v, ov] (eval i' X.env)
      standAt pos
      holding [v, ov, iv] (setItem ov iv v)
      release [v, ov, iv] []) := by intro _; rfl) : QG X (.Subscript o i' pos) (gSub to ti t) := ⟨pg_sub ho.out hi.out hs ha⟩
end
end L2

/-! own rules: in and not in by data; is and is not of truths and None -/
namespace L2
open PySem PySem.Spec PyProof.Rows
def rInD (K : PySem.W.Frag) (neg : Bool) : R2 := fun x y H Q => ∃ d xs, Dn K H y (.list xs) ∧ Dn K H x d ∧ PyData.canLayAll0 xs = true ∧ d.canLay0 = true ∧ d.depth ≤ 20 ∧ Q (.bl (if neg then !(xs.any fun z => PyData.eqv z d) else xs.any fun z => PyData.eqv z d)) H
def rIsA (neg : Bool) : R2 := fun x y H Q => (y = .non ∧ Q (.bl (if neg then !decide (x = .non) else decide (x = .non))) H) ∨ ∃ b c, x = .bl b ∧ y = .bl c ∧ Q (.bl (if neg then !(b == c) else b == c)) H
section
variable {X : Cx}
theorem op_inD (hu : X.A.units + 64 < cLine) : OpR X (compareOp .In) (rInD X.K false) := by
  intro pins s σ H x y v u Q I rx ry h
  obtain ⟨d, xs, h1, h2, c1, c2, dd, q⟩ := h
  obtain ⟨as, ra⟩ := h1.reads I ry
  obtain ⟨bs, rb⟩ := h2.reads I rx
  exact SeqAt.in_list_reads ra rb c1 c2 (by have := Nat.min_le_right (PyData.depthAll xs) d.depth; omega) ⟨.bl _, H, I, rfl, q⟩
theorem op_notInD (hu : X.A.units + 64 < cLine) : OpR X (compareOp .NotIn) (rInD X.K true) := by
  intro pins s σ H x y v u Q I rx ry h
  obtain ⟨d, xs, h1, h2, c1, c2, dd, q⟩ := h
  obtain ⟨as, ra⟩ := h1.reads I ry
  obtain ⟨bs, rb⟩ := h2.reads I rx
  exact SeqAt.notIn_list_reads ra rb c1 c2 (by have := Nat.min_le_right (PyData.depthAll xs) d.depth; omega) ⟨.bl _, H, I, rfl, q⟩
theorem op_isA : OpR X (compareOp .Is) (rIsA false) := by
  intro pins s σ H x y v u Q I rx ry h
  rcases h with ⟨rfl, q⟩ | ⟨b, c, rfl, rfl, q⟩
  · exact op_isN pins s σ H x .non v u Q I rx ry ⟨rfl, q⟩
  · cases (show v = Value.bool b from rx)
    cases (show u = Value.bool c from ry)
    refine wpAny_is_plain (by cases b <;> cases c <;> rfl) ⟨.bl (b == c), H, I, ?_, q⟩
    cases b <;> cases c <;> rfl
theorem op_notA : OpR X (compareOp .IsNot) (rIsA true) := by
  intro pins s σ H x y v u Q I rx ry h
  rcases h with ⟨rfl, q⟩ | ⟨b, c, rfl, rfl, q⟩
  · exact op_notN pins s σ H x .non v u Q I rx ry ⟨rfl, q⟩
  · cases (show v = Value.bool b from rx)
    cases (show u = Value.bool c from ry)
    refine wpAny_isNot_plain (by cases b <;> cases c <;> rfl) ⟨.bl (!(b == c)), H, I, ?_, q⟩
    cases b <;> cases c <;> rfl
end
section
variable {H : Hp} {Q : VK} {K : PySem.W.Frag}
theorem rd_isA0 {x : V} (q : Q (.bl (decide (x = .non))) H) : rIsA false x .non H Q := .inl ⟨rfl, q⟩
theorem rd_notA0 {x : V} (q : Q (.bl (!decide (x = .non))) H) : rIsA true x .non H Q := .inl ⟨rfl, q⟩
theorem rd_isAB {b c : Bool} (q : Q (.bl (b == c)) H) : rIsA false (.bl b) (.bl c) H Q := .inr ⟨b, c, rfl, rfl, q⟩
theorem rd_notAB {b c : Bool} (q : Q (.bl (!(b == c))) H) : rIsA true (.bl b) (.bl c) H Q := .inr ⟨b, c, rfl, rfl, q⟩
theorem rd_notInHit {x y : V} {d : PyData} {xs : List PyData} (h1 : Dn K H y (.list xs)) (h2 : Dn K H x d) (c1 : PyData.canLayAll0 xs = true) (c2 : d.canLay0 = true) (dd : d.depth ≤ 20) (hm : d ∈ xs) (q : Q (.bl false) H) : rInD K true x y H Q := by
  refine ⟨d, xs, h1, h2, c1, c2, dd, ?_⟩
  have e : (xs.any fun z => PyData.eqv z d) = true := List.any_eq_true.mpr ⟨d, hm, SeqAt.eqv_refl d c2⟩
  rw [e]
  exact q
end
end L2

/-! own rule: list(reversed(e)) of a list -/
namespace L2
open PySem PySem.Spec PyProof.Rows
set_option maxRecDepth 100000
theorem rev_len : typeLookup (.type "list_reverseiterator") "__len__" = pure none := by rw [typeLookup_type, builtinLookup_eq_fast]; kernel_rfl
theorem rev_hint : typeLookup (.type "list_reverseiterator") "__length_hint__" = pure (some (.builtin "list_reverseiterator.__length_hint__")) := by rw [typeLookup_type, builtinLookup_eq_fast]; kernel_rfl
section
variable {s : Shared} {E : Value → Shared → Prop} {A : Around} {P : Program} {w : World}
theorem hint_rev {it l : Addr} {i : Int} {Q : Bool → Shared → Prop} (hit : s.heap.IsRevIter it l i) (h : Q false s) : wpAny (model P w) A (Builtin.List.listLengthHint (.ref it)) Q E s := by
  delta Builtin.List.listLengthHint
  refine wpAny_bind (wpAny_specialOf hit.typeIs rev_len ?_)
  refine wpAny_ite_split (fun z => absurd z (by decide +kernel)) fun _ => ?_
  refine wpAny_ite_split (fun z => absurd z (by decide +kernel)) fun _ => ?_
  refine wpAny_bind (wpAny_specialOf hit.typeIs rev_hint ?_)
  generalize hid : ("list_reverseiterator.__length_hint__" : String) = id0
  wp_delta
  rw [show splitId id0 = some ("list_reverseiterator", "__length_hint__") from by subst hid; decide +kernel]
  subst hid
  refine wpAny_bind (wpAny_isInstance (T := "list_reverseiterator") (b := true) hit.typeIs (by rw [isSubtype_type]; kernel_rfl) ?_)
  refine wpAny_ite_split (fun z => absurd z (by decide)) fun _ => ?_
  refine wpAny_ite_split (fun _ => ?_) fun z => absurd (by decide +kernel) z
  refine wpAny_ite_split (fun z => absurd z (by decide +kernel)) fun _ => ?_
  exact wpAny_pure h
theorem extend_rev {R : Result → Shared → Prop} {it l : Addr} {items : Array Value} (hh : A.handled = none) (hit : s.heap.IsRevIter it l ((items.size : Int) - 1)) (hl : s.heap.IsList l items) (hne : l ≠ it) (hn : items.size ≤ sizeLine) (S : Addr) (res : Value) (c₀ : Nat)
    (hN : s.heap.get? S = some { cls := .type "list", data := .seq #[] c₀ }) (hSi : S ≠ it) (hSl : S ≠ l)
    (hR : ∀ h' tk acc' c', (∀ b o, b ≠ S → b ≠ it → s.heap.get? b = some o → h'.get? b = some o) → h'.get? S = some { cls := .type "list", dict := none, data := .seq acc' c', slots := #[] } →
      ItemsOf (fun i v => items[items.size - 1 - i]? = some v) acc' items.size → R (.ok (.ret res)) { s with heap := h', toks := tk }) :
    wpAny (model P w) A.in1 (Builtin.List.listExtendWith (.ref S) (.ref it) res)
      (fun fi s1 => match fi with | .done fl => R (.ok fl) s1 | .again cd => cd.quiet = true ∧ codeAny (model P w) A cd R s1) (fun ev s1 => R (.error ev) s1) s := by
  have W := (Walks.listRev (prog := P) (w := w) (A := A.in1) hh it l hne items).toS
  have key : codeAny (model P w) A (.builtin "list.extend.loop" ⟨[.ref S, .ref it, res], []⟩) R s := by
    refine codeAny_extend_loopS W hn S (by simp [hSi, hSl]) res items.size 0 s #[] c₀ rfl (Nat.zero_le _) ⟨Nat.zero_le _, by simpa using hit, hl⟩ hN (ItemsOf.nil _) fun s' acc' c' hm hN1 hacc => ?_
    rw [Moved.eq_with hm]
    exact hR s'.heap s'.toks acc' c' (fun b o hb hbi e => hm.heap b o (by simp [hb, hbi]) e) hN1 hacc
  delta Builtin.List.listExtendWith
  refine wpAny_bind (wpAny_typeOf (T := "list_reverseiterator") hit.typeIs ?_)
  have h1 : Builtin.List.listSameRef (.ref S) (.ref it) = false := by simp [Builtin.List.listSameRef, hSi]
  have h2 : (Value.type "list_reverseiterator" == Value.type "list") = false := by decide
  have h3 : (Value.type "list_reverseiterator" == Value.type "tuple") = false := by decide
  simp only [h1, h2, h3, Bool.or_false, if_false, Bool.false_eq_true]
  refine wpAny_bind (wpAny_pyIter_revIter hit ?_)
  refine wpAny_bind (wpAny_holding (hint_rev hit ?_))
  exact wpAny_ite_split (fun z => absurd z (by decide +kernel)) (fun _ => wpAny_pure ⟨plainId_quiet F.plain_extend_loop _, key⟩)
theorem call_list_rev {Q : Value → Shared → Prop} {it l : Addr} {items : Array Value} (hh : A.handled = none) (hit : s.heap.IsRevIter it l ((items.size : Int) - 1)) (hl : s.heap.IsList l items) (hne : l ≠ it) (hn : items.size ≤ sizeLine)
    (hQ : ∀ h' tk acc' c', (∀ b o, b ≠ it → s.heap.get? b = some o → h'.get? b = some o) → h'.get? s.heap.objs.size = some { cls := .type "list", dict := none, data := .seq acc' c', slots := #[] } →
      ItemsOf (fun i v => items[items.size - 1 - i]? = some v) acc' items.size → Q (.ref s.heap.objs.size) { s with heap := h', toks := tk }) :
    wpAny (model P w) A (call (.type "list") [.ref it]) Q E s := by
  have hit0 := hit
  obtain ⟨oi, hoi, _⟩ := id hit
  obtain ⟨ol, hol, _⟩ := id hl
  have hi : it < s.heap.objs.size := Heap.lt_size hoi
  have hLl : l < s.heap.objs.size := Heap.lt_size hol
  refine callType_codes (Q₁ := fun ob z => ob = .ref s.heap.objs.size ∧ z = { s with heap := s.heap.push { cls := .type "list", data := .seq #[] } }) F.called_list (F.typeCall_list_1 _) F.entry_list_init
    (code_list_new _ ⟨rfl, rfl⟩) fun ob z h1 => ?_
  obtain ⟨rfl, rfl⟩ := h1
  have hN : (s.heap.push { cls := .type "list", data := .seq #[] }).get? s.heap.objs.size = some { cls := .type "list", data := .seq #[] } := Heap.get?_push_size _ rfl
  refine ⟨⟨_, hN, rfl⟩, F.args_list_init_2 _ _, ?_⟩
  show wpAny _ _ (do let old ← Builtin.List.listItems (.ref s.heap.objs.size); Builtin.List.listUpdate (.ref s.heap.objs.size) (fun _ => #[]); letGo old.toList.reverse; Builtin.List.listExtendWith (.ref s.heap.objs.size) (.ref it) .none) _ _ _
  refine wpAny_bind ?_
  unfold Builtin.List.listItems
  refine wpAny_bind (wpAny_seqItems hN rfl (wpAny_pure ?_))
  show wpAny _ _ (updateSeq s.heap.objs.size (fun _ => #[]) >>= fun _ => letGo (#[] : Array Value).toList.reverse >>= fun _ => Builtin.List.listExtendWith (.ref s.heap.objs.size) (.ref it) .none) _ _ _
  refine wpAny_bind (wpAny_updateSeq hN rfl ?_)
  have hN2 := Heap.get?_update_self (Obj.mapSeq (fun _ => (#[] : Array Value))) hN rfl
  have oth : ∀ b o, b ≠ s.heap.objs.size → s.heap.get? b = some o → ((s.heap.push { cls := .type "list", data := .seq #[] }).update s.heap.objs.size (Obj.mapSeq (fun _ => (#[] : Array Value)))).get? b = some o :=
    fun b o hb e => (Heap.get?_update_other _ _ (Ne.symm hb)).trans (Heap.get?_push_of_some _ e)
  refine wpAny_bind (wpAny_letGo ?_)
  refine extend_rev (A := A.in1) hh (hit0.at fun o e => oth it o (Nat.ne_of_lt hi) e) (hl.at fun o e => oth l o (Nat.ne_of_lt hLl) e) hne hn _ .none _ hN2 (Nat.ne_of_gt hi) (Nat.ne_of_gt hLl) fun h' tk acc' c' hk hN1 hacc => ?_
  exact ⟨rfl, hQ h' tk acc' c' (fun b o hb e => hk b o (Nat.ne_of_lt (Heap.lt_size e)) hb (oth b o (Nat.ne_of_lt (Heap.lt_size e)) e)) hN1 hacc⟩
end
section
variable {X : Cx} {e : Expr} {te : TE} {p p' pos pos' : Pos}
def tLRev (K : PySem.W.Frag) (te : TE) : TE := fun σ H Q => tCons te tNil σ H fun vs H1 => ∃ a xs, vs = [.ref a] ∧ SqL K H1 a xs ∧ ∀ r, H1 r = none → Q (.ref r) (upd H1 r (.lst xs.reverse))
theorem pe_lrev (hc : X.calm = true) (hg : Gl X "list") (hm : X.mg "list" = none) (hg' : Gl X "reversed") (hm' : X.mg "reversed" = none) (he : PE X e te) (hs2 : starEach [e] X.env = (false, eval e X.env) :: starEach [] X.env) :
    PE X (.Call (.Name "list" p) [.Call (.Name "reversed" p') [e] [] pos'] [] pos) (tLRev X.K te) := by
  intro pins s σ H Q I h
  refine wpAny_Call_Name_kw (ld_blt I hg hm boot_list ?_ (by decide) (by decide))
  refine PyProof.Rows.callWith_type1 ?_ star_call rfl
  rw [star_call]
  show wpAny _ _ (spliced ((false, eval (.Call (.Name "reversed" p') [e] [] pos') X.env) :: backTo pos (starEach [] X.env))) _ _ s
  refine Calls.spliced_cons ?_
  refine wpAny_Call_Name_kw (ld_blt I hg' hm' boot_reversed ?_ (by decide) (by decide))
  refine PyProof.Rows.callWith_type1 (thn (pa_cons he pa_nil hs2 pos' pins s σ H _ I h) fun us s1 ⟨vs, H1, I1, r1, q1⟩ => ?_) hs2 rfl
  obtain ⟨a, xs, rfl, hq, q⟩ := q1
  obtain ⟨u, rfl, rx⟩ := vals1 r1
  cases rx
  obtain ⟨its, rv, pl, hz⟩ := I1.list hq
  have hlen := rv.length
  have hl := pl.isList
  obtain ⟨oa, hoa, _⟩ := id hl
  have ha : a < s1.heap.objs.size := Heap.lt_size hoa
  refine call_reversed_list hl (Calls.spliced_nil ?_)
  refine call_list_rev (it := s1.heap.objs.size) (l := a) (items := its.toArray) (I1.ok.hd hc) ⟨_, Heap.get?_push_size _ rfl, rfl, rfl⟩ (hl.push _) (Nat.ne_of_lt ha) (by rw [List.size_toArray]; omega) fun h' tk acc' c' hk hN1 hacc => ?_
  have hsz : (s1.heap.push (revObj a ((its.toArray.size : Int) - 1))).objs.size = s1.heap.objs.size + 1 := Heap.size_push ..
  have hle : s1.heap.objs.size ≤ (s1.heap.push (revObj a ((its.toArray.size : Int) - 1))).objs.size := by rw [hsz]; exact Nat.le_succ _
  have hk1 : ∀ b o, s1.heap.get? b = some o → h'.get? b = some o := fun b o e => hk b o (Nat.ne_of_lt (Heap.lt_size e)) (Heap.get?_push_of_some _ e)
  have hrev : acc'.toList = its.reverse := by
    obtain ⟨h1, h2⟩ := hacc
    have h0 : acc'.size = its.length := h1.trans (List.size_toArray ..)
    refine List.ext_getElem? fun j => ?_
    by_cases hj : j < its.length
    · have hj' : j < acc'.size := by omega
      have e1 := h2 j acc'[j] (Array.getElem?_eq_getElem hj')
      have e2 : its.toArray[its.toArray.size - 1 - j]? = its[its.length - 1 - j]? := by simp
      rw [Array.getElem?_toList, Array.getElem?_eq_getElem hj', List.getElem?_reverse hj, ← e2]
      exact e1.symm
    · rw [List.getElem?_eq_none (by simp; omega), List.getElem?_eq_none (by simp; omega)]
  refine ⟨.ref _, _, I1.laid (o := .lst xs.reverse) (t' := tk) hk1 hle ?_, rfl, q _ (I1.hok.fresh hle)⟩
  refine ⟨by rw [List.length_reverse]; exact hz, acc'.toList, c', ?_, ?_⟩
  · rw [hrev]
    exact rv.reverse
  · rw [hN1]
theorem qe_lrev (hg : Gl X "list") (hm : X.mg "list" = none) (hg' : Gl X "reversed") (hm' : X.mg "reversed" = none) (he : QE X e te) (hs2 : starEach [e] X.env = (false, eval e X.env) :: starEach [] X.env) (hc : X.calm = true := by rfl) :
    QE X (.Call (.Name "list" p) [.Call (.Name "reversed" p') [e] [] pos'] [] pos) (tLRev X.K te) := ⟨pe_lrev hc hg hm hg' hm' he.out hs2⟩
end
section
variable {σ : St} {H : Hp} {Q : VK} {K : PySem.W.Frag}
theorem rd_lrev {te : TE} (q : te σ H fun x H1 => ∃ a xs, [x] = [.ref a] ∧ SqL K H1 a xs ∧ ∀ r, H1 r = none → Q (.ref r) (upd H1 r (.lst xs.reverse))) : tLRev K te σ H Q := q
theorem rd_lrev1 {a : Addr} {xs : List V} {P : List V → Prop} (h : SqL K H a xs) (q : P xs) : ∃ a' xs', [V.ref a] = [.ref a'] ∧ SqL K H a' xs' ∧ P xs' := ⟨a, xs, rfl, h, q⟩
end
end L2

/-! Own rules over the hand layer: raise of an own class, an error that leaves a def, try with one clause -/
namespace L2
open PySem PySem.Spec PyProof.Rows

theorem ObjOk.ob {P : Program} {w : World} {H : Hp} {h : Heap} {a : Addr} {o : HO} (x : ObjOk P w H h a o) : ∃ ob, h.get? a = some ob := by
  cases o with
  | lst xs => obtain ⟨_, its, n, _, e⟩ := x; exact ⟨_, e⟩
  | tup xs => obtain ⟨_, its, _, ob, e, _⟩ := x; exact ⟨ob, e⟩
  | dK kvs => obtain ⟨_, _, vs, _, ob, es, ep, e, _⟩ := x; exact ⟨ob, e⟩
  | dT kvs => obtain ⟨_, _, xs, _, ob, es, ep, e, _⟩ := x; exact ⟨ob, e⟩
  | set S n => obtain ⟨ob, es, ep, t, e, _⟩ := x; exact ⟨ob, e⟩
  | ins C dx fs => obtain ⟨_, _, _, e, _⟩ := x; exact ⟨_, e⟩
  | own y => exact x
  | xd fs => obtain ⟨mA, ⟨od, es, ep, e, _⟩, _⟩ := x; exact ⟨od, e⟩
  | rng lo hi => obtain ⟨t, u, v, e⟩ := x; exact ⟨_, e⟩
  | frz ob u => obtain ⟨e, _⟩ := x; exact ⟨_, e⟩
  | tbl ps => exact ⟨_, x⟩
  | met f y => exact ⟨_, x⟩
  | ext φ => obtain ⟨_, ⟨ob, e⟩, _⟩ := x; exact ⟨ob, e⟩

section
variable {X : Cx} {pins : List (Addr × Obj)} {σ : St} {H H' : Hp} {s : Shared} {h' : Heap}
/-- the layer's step, where the changed records stood not yet at the entry -/
theorem Inv.step' {g' : Array GenState} {t' : Nat} {d' : Drawn} {ch : List Addr} (I : Inv X pins σ H s)
    (hch : ∀ b ∈ ch, X.s₀.heap.get? b = none ∧ b ≠ X.env.locals ∧ (∀ x c, X.env.cells.lookup x = some c → c ≠ b) ∧ ∀ p ∈ X.pn ++ pins, p.1 ≠ b)
    (keep : ∀ b o, b ≠ X.env.locals → b ∉ X.fs → b ∉ ch → s.heap.get? b = some o → H b = none → h'.get? b = some o)
    (slot : ∀ b o, b ≠ X.env.locals → b ∈ X.fs → b ∉ ch → s.heap.get? b = some o → H b = none → ∃ sl, h'.get? b = some { o with slots := sl }) (free : ∀ b o, b ∉ ch → s.heap.get? b = some o → H b = none → H' b = none)
    (there : ∀ b o, b ∉ ch → s.heap.get? b = some o → ∃ o', h'.get? b = some o')
    (tups : ∀ b xs, H b = some (.tup xs) → H' b = some (.tup xs)) (frzs : ∀ b o u, H b = some (.frz o u) → H' b = some (.frz o u)) (tbls : ∀ b ps, H b = some (.tbl ps) → ∃ more, H' b = some (.tbl (ps ++ more)))
    (ns : ∀ m, s.heap.Ns X.env.locals m → h'.Ns X.env.locals m) (hok : HOk X.prog X.w H' h') (hg : AllBare g') :
    Inv X pins σ H' { s with heap := h', gens := g', drawn := d', toks := t' } := by
  have neL : ∀ b o, X.s₀.heap.get? b = some o → b ≠ X.env.locals := fun b o e => Nat.ne_of_lt (Nat.lt_of_lt_of_le (Heap.lt_size e) I.ok.above)
  have neC : ∀ b o, X.s₀.heap.get? b = some o → b ∉ X.ex → b ∉ ch := fun b o e hx hb => by
    have z := (hch b hb).1
    rw [z] at e
    cases e
  have cellK : ∀ x c, X.env.cells.lookup x = some c → ∀ v, s.heap.IsCell c v → h'.IsCell c v := fun x c e v ⟨o, ho, hd⟩ => by
    have nch : c ∉ ch := fun z => (hch c z).2.2.1 x c e rfl
    by_cases hc : c ∈ X.fs
    · obtain ⟨sl, q⟩ := slot c o (I.cne x c e) hc nch ho (I.freeC x c e)
      exact ⟨_, q, hd⟩
    · exact ⟨o, keep c o (I.cne x c e) hc nch ho (I.freeC x c e), hd⟩
  refine ⟨I.ok, I.os, hg, ⟨fun b o e n hb hx => ?_, fun b o e n hb hx => ?_, fun b o e n hx => ?_, fun b o e hx => ?_, fun b xs e => tups b xs (I.base.tups b xs e), fun b o xs e => frzs b o xs (I.base.frzs b o xs e), fun b ps e => ?_⟩, ?_, fun x c e => ?_, ?_, fun x c e => ?_, fun p hp => ?_, hok, I.len⟩
  · exact keep b o (neL b o e) hb (neC b o e hx) (I.base.keep b o e n hb hx) (I.base.free b o e n hx)
  · obtain ⟨sl, e1⟩ := I.base.slot b o e n hb hx
    obtain ⟨sl', e2⟩ := slot b _ (neL b o e) hb (neC b o e hx) e1 (I.base.free b o e n hx)
    exact ⟨sl', e2⟩
  · obtain ⟨o', e1⟩ := I.base.there b o e hx
    exact free b o' (neC b o e hx) e1 (I.base.free b o e n hx)
  · obtain ⟨o', e1⟩ := I.base.there b o e hx
    exact there b o' (neC b o e hx) e1
  · obtain ⟨m1, e1⟩ := I.base.tbls b ps e
    obtain ⟨m2, e2⟩ := tbls b _ e1
    exact ⟨m1 ++ m2, by rw [e2, Array.append_assoc]⟩
  · obtain ⟨m, hn, hl⟩ := I.loc
    refine ⟨m, ns m hn, fun i x v e1 e2 e3 => ?_⟩
    obtain ⟨u, r, l⟩ := hl i x v e1 e2 e3
    refine ⟨u, r, ?_⟩
    rcases l with l | ⟨k, c, e, z⟩
    · exact .inl l
    · exact .inr ⟨k, c, e, cellK x c e _ z⟩
  · obtain ⟨v, z⟩ := I.cell x c e
    exact ⟨v, cellK x c e v z⟩
  · obtain ⟨m, ⟨o, _, _, ho, _⟩, _⟩ := I.loc
    exact free _ o (fun z => (hch _ z).2.1 rfl) ho I.free
  · obtain ⟨v, o, ho, hd⟩ := I.cell x c e
    exact free c o (fun z => (hch c z).2.2.1 x c e rfl) ho (I.freeC x c e)
  · obtain ⟨e, n, ne, nf, d⟩ := I.pin p hp
    have nch : p.1 ∉ ch := fun z => (hch p.1 z).2.2.2 p hp rfl
    exact ⟨keep p.1 p.2 ne nf nch e n, free p.1 p.2 nch e n, ne, nf, d⟩
end

/-- an error's object; with its traceback's: own; z: where it is in flight -/
def ExAt (h : Heap) (e : Addr) (cls : Value) (own : List Addr) (z : Option Value) : Prop :=
  ∃ oe vs a0, h.get? e = some oe ∧ oe.cls = cls ∧ oe.data = .fields vs ∧ vs[0]? = some a0 ∧
    ((z = none ∧ own = [e] ∧ vs[1]? = some .none) ∨ ∃ T oT ts fl, z = some fl ∧ own = [e, T] ∧ vs[1]? = some (.ref T) ∧ T ≠ e ∧ h.get? T = some oT ∧ oT.data = .fields ts ∧ ts[3]? = some fl)
/-- whose the records are: no one's -/
def OwnOk (X : Cx) (pins : List (Addr × Obj)) (H : Hp) (own : List Addr) : Prop :=
  ∀ b ∈ own, H b = none ∧ X.s₀.heap.get? b = none ∧ b ≠ X.env.locals ∧ (∀ x c, X.env.cells.lookup x = some c → c ≠ b) ∧ ∀ p ∈ X.pn ++ pins, p.1 ≠ b
/-- an error behind a call -/
def CXE (P : Program) (w : World) : CXT := fun outer H s E ev s' =>
  ∃ e T cls H', ev = .ref e ∧ s'.os = s.os ∧ AllBare s'.gens ∧ Un (frs outer) [] H H' s.heap s'.heap ∧ HOk P w H' s'.heap ∧ (∃ B, s'.heap.FunFrames B outer) ∧ ExAt s'.heap e cls [e, T] (some .none) ∧
    s.heap.get? e = none ∧ s.heap.get? T = none ∧ H' e = none ∧ H' T = none ∧ E cls none H'
/-- an error in a body, on its way out -/
def ER (X : Cx) (E : XK) (ev : Value) (s' : Shared) : Prop :=
  ∃ pins e own cls z σ H, ev = .ref e ∧ Inv X pins σ H s' ∧ ExAt s'.heap e cls own z ∧ (z = none ∨ z = some .none ∨ ∃ L, X.env.frame = some L ∧ z = some (rawInt L)) ∧ OwnOk X pins H own ∧ E cls none H

section
variable {X : Cx} {pins : List (Addr × Obj)} {σ : St} {H : Hp} {s : Shared}
theorem Inv.noteOf (I : Inv X pins σ H s) : ∀ b ∈ frs X.stack, ∃ o, s.heap.get? b = some o ∧ ∀ vs, o.data ≠ .fields vs := fun b hb => (I.stack.mem hb).2
/-- the heap but the frames and the error's records -/
theorem Inv.hide (I : Inv X pins σ H s) (own : List Addr) : (PySem.W.hideAll s.heap (own ++ frs X.stack)).StaysIn s.heap ∧ s.heap.FunFrames (PySem.W.hideAll s.heap (own ++ frs X.stack)) X.stack :=
  ⟨fun _ _ q => PySem.W.of_hideAll _ q, PySem.W.funFrames_hide I.stack fun _ he _ ha => List.mem_append_right _ (List.mem_filterMap.mpr ⟨_, he, ha⟩)⟩
/-- what an error's way through this frame leaves as it was -/
structure Kept (X : Cx) (own : List Addr) (h h' : Heap) : Prop where
  st : (PySem.W.hideAll h (own ++ frs X.stack)).StaysIn h'
  fr : h'.FunFrames (PySem.W.hideAll h (own ++ frs X.stack)) X.stack
  up : h.UpToSlots h'
theorem Kept.get {own : List Addr} {h h' : Heap} (k : Kept X own h h') {b : Addr} {o : Obj} (e : h.get? b = some o) (n1 : b ∉ own) (n2 : b ∉ frs X.stack) : h'.get? b = some o :=
  k.st b o (PySem.W.hideAll_get _ e fun z => (List.mem_append.mp z).elim n1 n2)
theorem Kept.hok {own : List Addr} {h' : Heap} (k : Kept X own s.heap h') (I : Inv X pins σ H s) (oo : ∀ b ∈ own, H b = none) : HOk X.prog X.w H h' := fun a o e => by
  refine (I.hok a o e).stay (fun b u hb q => ?_) (fun _ q => q) fun _ _ q => q
  have tr : ∃ u', H b = some u' := by
    rcases hb with rfl | hb
    · exact ⟨_, e⟩
    · exact ⟨_, hb⟩
  obtain ⟨u', eu⟩ := tr
  exact k.get q (fun z => by rw [oo b z] at eu; cases eu) (fun z => by rw [I.stkFree b z] at eu; cases eu)
theorem Kept.there {own : List Addr} {h' : Heap} (k : Kept X own s.heap h') (I : Inv X pins σ H s) {b : Addr} {o : Obj} (e : s.heap.get? b = some o) (n1 : b ∉ own) : ∃ sl, h'.get? b = some { o with slots := sl } := by
  by_cases n2 : b ∈ frs X.stack
  · obtain ⟨o', e', hd⟩ := I.noteOf b n2
    rw [e] at e'
    cases e'
    exact k.up b o e hd
  · exact ⟨o.slots, k.get e n1 n2⟩
/-- .. so the frame's own word holds on -/
theorem Kept.inv {own : List Addr} {h' : Heap} (k : Kept X own s.heap h') (I : Inv X pins σ H s) (oo : OwnOk X pins H own) {t' : Nat} : Inv X pins σ H { s with heap := h', toks := t' } := by
  refine I.step' (g' := s.gens) (d' := s.drawn) (ch := own) (fun b hb => (oo b hb).2) (fun b o h1 h2 h3 e n => ?_) (fun b o _ _ h3 e n => k.there I e h3) (fun _ _ _ _ n => n) (fun b o h3 e => ?_) (fun _ _ e => e) (fun _ _ _ e => e) (fun b ps e => ⟨#[], by rw [e]; simp⟩)
    (fun m hm => k.up.ns hm) (k.hok I fun b hb => (oo b hb).1) I.bare
  · exact k.get e h3 fun z => (List.mem_cons.mp (I.stkSub b z)).elim h1 h2
  · obtain ⟨sl, q⟩ := k.there I e h3
    exact ⟨_, q⟩
/-- a record that is neither hidden nor there before is new -/
theorem Kept.new {own : List Addr} {h' : Heap} (k : Kept X own s.heap h') {T : Addr} {oT : Obj} {ts : Array Value} (hn : (PySem.W.hideAll s.heap (own ++ frs X.stack)).get? T = none) (hT : h'.get? T = some oT) (hd : oT.data = .fields ts) (no : T ∉ own) : s.heap.get? T = none := by
  cases q : s.heap.get? T with
  | none => rfl
  | some o =>
    have nf : T ∉ frs X.stack := fun z => by
      obtain ⟨_, o', e', hd'⟩ := k.fr.mem z
      rw [hT] at e'
      cases e'
      exact hd' ts hd
    rw [PySem.W.hideAll_get _ q fun z => (List.mem_append.mp z).elim no nf] at hn
    cases hn
end

/-! ### an error leaves the def -/
theorem er_leaves {X : Cx} {P : Program} {w : World} {outer : List Env} {H₀ : Hp} {s₀ : Shared} {E : XK} {ev : Value} {s' : Shared} {R : Value → Shared → Prop} (h : ER X E ev s')
    (hP : X.prog = P) (hw : X.w = w) (hs : X.s₀ = s₀) (hH : X.H₀ = H₀) (ho : X.outer = outer) (hx : X.ex = []) (hst : X.stack = X.env :: outer) (hf : X.env.frame = some X.env.locals) :
    wpAny (model P w) X.A (leaving X.env ev) (fun _ s'' => CXE P w outer H₀ s₀ E ev s'') R s' := by
  obtain ⟨pins, e, own, cls, z, σ, H, rfl, I, x, hz, oo, q⟩ := h
  subst hP hw hs hH ho
  have hfr : X.A.frames = some (X.env :: X.outer) := by rw [← hst]; exact I.ok.frames
  obtain ⟨hkb, hfl⟩ := I.hide own
  obtain ⟨B, hB⟩ : ∃ B, B = PySem.W.hideAll s'.heap (own ++ frs X.stack) := ⟨_, rfl⟩
  rw [← hB] at hkb hfl
  have hen : B.get? e = none := by
    rw [hB]
    refine PySem.W.hideAll_none _ (List.mem_append_left _ ?_)
    obtain ⟨_, _, _, _, _, _, _, (⟨_, r, _⟩ | ⟨_, _, _, _, _, r, _⟩)⟩ := x <;> (rw [r]; simp)
  have fin : ∀ (h' : Heap) (a0 : Value), B.StaysIn h' → h'.FunFrames B X.stack → h'.TracedW B e cls a0 → s'.heap.UpToSlots h' →
      CXE X.prog X.w X.outer X.H₀ X.s₀ E (.ref e) { s' with heap := h' } := fun h' a0 k1 k2 k3 k4 => by
    have k2' : h'.FunFrames B X.outer := by
      rw [hst] at k2
      exact k2.2.2
    subst hB
    have K : Kept X own s'.heap h' := ⟨k1, k2, k4⟩
    obtain ⟨oe, vs, T, oT, ts, he, ⟨hc, h0⟩, hd, h1, hnT, hTe, hT, hdT, h3⟩ := k3
    have eo : e ∈ own := by obtain ⟨_, _, _, _, _, _, _, (⟨_, r, _⟩ | ⟨_, _, _, _, _, r, _⟩)⟩ := x <;> (rw [r]; simp)
    have newT : X.s₀.heap.get? T = none ∧ H T = none := by
      by_cases no : T ∈ own
      · exact ⟨(oo T no).2.1, (oo T no).1⟩
      · have hn := K.new hnT hT hdT no
        refine ⟨?_, ?_⟩
        · cases qq : X.s₀.heap.get? T with
          | none => rfl
          | some o =>
            obtain ⟨o', e'⟩ := I.base.there T o qq (by rw [hx]; simp)
            rw [hn] at e'
            cases e'
        · cases qq : H T with
          | none => rfl
          | some o =>
            obtain ⟨o', e'⟩ : ∃ o', s'.heap.get? T = some o' := (I.hok T o qq).ob
            rw [hn] at e'
            cases e'
    have neL : ∀ b o, X.s₀.heap.get? b = some o → b ≠ X.env.locals := fun b o e => Nat.ne_of_lt (Nat.lt_of_lt_of_le (Heap.lt_size e) I.ok.above)
    have neO : ∀ b o, X.s₀.heap.get? b = some o → b ∉ own := fun b o e z => by rw [(oo b z).2.1] at e; cases e
    have nx : ∀ b : Addr, b ∉ X.ex := fun b z => by rw [hx] at z; simp at z
    refine ⟨e, T, cls, H, rfl, I.os, I.bare, ⟨fun b o e n hb _ => ?_, fun b o e n hb _ => ?_, fun b o e n _ => I.base.free b o e n (nx b), fun b o e _ => ?_, I.base.tups, I.base.frzs, I.base.tbls⟩, K.hok I fun b hb => (oo b hb).1, ⟨PySem.W.hideAll s'.heap (own ++ frs X.stack), ?_⟩,
      ⟨oe, vs, a0, he, hc, hd, h0, .inr ⟨T, oT, ts, .none, rfl, rfl, h1, hTe, hT, hdT, h3⟩⟩, (oo e eo).2.1, newT.1, (oo e eo).1, newT.2, q⟩
    · exact K.get (I.base.keep b o e n hb (nx b)) (neO b o e) fun z => (List.mem_cons.mp (I.stkSub b z)).elim (neL b o e) hb
    · obtain ⟨sl, e1⟩ := I.base.slot b o e n hb (nx b)
      obtain ⟨sl', e2⟩ := K.there I e1 (neO b o e)
      exact ⟨sl', e2⟩
    · obtain ⟨o', e1⟩ := I.base.there b o e (nx b)
      obtain ⟨sl', e2⟩ := K.there I e1 (neO b o e)
      exact ⟨_, e2⟩
    · exact k2'
  rw [hst] at hfl
  obtain ⟨oe, vs, a0, he, hc, hd, h0, r⟩ := x
  subst hc
  rcases r with ⟨_, _, h1⟩ | ⟨T, oT, ts, fl, rfl, ro, h1, hTe, hT, hdT, h3⟩
  · exact wpAny_leaving_firstW hfr hfl hf he hkb hen hd h1 h0 fun h' L => fin h' a0 L.1 (by rw [hst]; exact L.2.1) L.2.2.1 L.2.2.2
  · have hnT : B.get? T = none := by
      rw [hB]
      exact PySem.W.hideAll_none _ (List.mem_append_left _ (by rw [ro]; simp))
    have tr : s'.heap.TracedAtW B e oe.cls a0 fl := ⟨oe, vs, T, oT, ts, he, ⟨rfl, h0⟩, hd, h1, hnT, hTe, hT, hdT, h3⟩
    rcases hz with hz | hz | ⟨L, hL, hz⟩
    · cases hz
    · cases hz
      exact wpAny_leaving_nextW hfr hfl hf tr hkb hen fun h' L => fin h' a0 L.1 (by rw [hst]; exact L.2.1) L.2.2.1 L.2.2.2
    · cases hz
      unfold leaving
      refine wpAny_bind (wpAny_noteFrame_againW hL tr ?_)
      exact wpAny_landsW ⟨hkb, hen, hfl, tr⟩ fun h' F up => fin h' a0 F.1 (by rw [hst]; exact F.2.2.1) F.2.2.2 up

section
variable {X : Cx} {pins : List (Addr × Obj)} {σ : St} {H : Hp} {s : Shared}
theorem Inv.ownNew (I : Inv X pins σ H s) (hx : X.ex = []) {b : Addr} (hb : s.heap.get? b = none) : H b = none ∧ X.s₀.heap.get? b = none ∧ b ≠ X.env.locals ∧ (∀ x c, X.env.cells.lookup x = some c → c ≠ b) ∧ ∀ p ∈ X.pn ++ pins, p.1 ≠ b := by
  refine ⟨?_, ?_, ?_, fun x c e z => ?_, fun p hp z => ?_⟩
  · cases q : H b with
    | none => rfl
    | some o =>
      obtain ⟨ob, e⟩ := (I.hok b o q).ob
      rw [hb] at e
      cases e
  · cases q : X.s₀.heap.get? b with
    | none => rfl
    | some o =>
      obtain ⟨o', e⟩ := I.base.there b o q (by rw [hx]; simp)
      rw [hb] at e
      cases e
  · rintro rfl
    obtain ⟨m, ⟨o, _, _, ho, _⟩, _⟩ := I.loc
    rw [hb] at ho
    cases ho
  · obtain ⟨v, o, ho, _⟩ := I.cell x c e
    rw [z, hb] at ho
    cases ho
  · have e := (I.pin p hp).1
    rw [z, hb] at e
    cases e
end

/-! ### bodies that may raise -/
theorem PSs.weak {X : Cx} {E' : Value → Shared → Prop} {st : List Stmt} {t : TS} (h : PSs (X.wish E') st t) (hE : ∀ e s, E' e s → X.xe e s) : PSs X st t := fun pins s σ H D I hw =>
  wpAny_mono (h pins s σ H D (I.wish E') hw) (fun _ _ q => q.unwish) hE
theorem PS.nox {X : Cx} {st : Stmt} {t : TS} (h : PS X.nox st t) : PS X st t := fun pins s σ H D I hw =>
  wpAny_mono (h pins s σ H D (I.wish _) hw) (fun _ _ q => q.unwish) fun _ _ x => x.elim
theorem Fun.okE {P : Program} {w : World} {K : PySem.W.Frag} {mg : Str → Option Value} {base : Heap} {x qual : Str} {st : Stmt} {f : Addr} {fd : FuncData} {N ps : List Str} {k : Nat} {sp : Sp} (F : Fun K x qual st f fd) (S : FnScope N ps (defScope st)) (len : ∀ vs H Q E, sp vs H Q E → vs.length = ps.length)
    (hbody : ∀ (cdv : Value) (A : Around) (outer : List Env) (s : Shared) (H : Hp) (vs : List V) (Q : VK) (E : XK), Room k (A.deeper (envOfC qual (defScope st) s.heap.objs.size f cdv)) → sp vs H Q E →
      ∃ t, PSs ((cxOf (CXE P w) P w K mg base N qual (defScope st) f cdv A outer s H E).wish (ER (cxOf (CXE P w) P w K mg base N qual (defScope st) f cdv A outer s H E) E)) (defBody st) t ∧ t { nx := fun _ H' => Q .non H', rt := Q } (start N vs) H) : FnOk P w K mg base (CXE P w) (k + 1) f fd ps sp := by
  obtain ⟨oc, od, kV, doc, pm, an, cdv, ct, osl, rfl, lk, hcd⟩ := F.ex
  refine fn_of lk hcd S len fun A outer s H vs Q E hr hsp => ?_
  obtain ⟨t, h, q⟩ := hbody cdv A outer s H vs Q E hr hsp
  exact ⟨t, h.weak fun e s' x => er_leaves x rfl rfl rfl rfl rfl rfl rfl rfl, q⟩
/-- an error of a callee passes on -/
theorem passE {X : Cx} {E : XK} (hx : X.ex = [] := by rfl) : Passes (CXE X.prog X.w) (X.wish (ER X E)) E := fun pins σ H s ev s' I h => by
  obtain ⟨e, T, cls, H', rfl, os, bare, un, hok, fr, x, ne, nT, hH1, hH2, q⟩ := h
  have J : Inv X pins σ H s := I.unwish
  have I' : Inv X pins σ H' s' := J.call' (ch := []) os un hok bare (by simp)
  refine ⟨pins, e, [e, T], cls, some .none, σ, H', rfl, I', x, .inr (.inl rfl), fun b hb => ?_, q⟩
  simp only [List.mem_cons, or_false, List.not_mem_nil] at hb
  rcases hb with rfl | rfl
  · exact ⟨hH1, (J.ownNew hx ne).2⟩
  · exact ⟨hH2, (J.ownNew hx nT).2⟩

/-! ### raise C(..), C an own class without an __init__ of its own, under ValueError -/
abbrev bmV : List Value := [.type "ValueError", .type "Exception", .type "BaseException", .type "object"]
theorem excObj {K : PySem.W.Frag} {h : Heap} {C : Addr} {bmB : List Value} {newId : String} (X : K.In h) (q : PySem.W.excIn K C bmB newId = true) :
    ∃ bm N nm q bs hdct sn sub ab col dd k0 k1 k2 k3 k5 mN, h.get? C = some (excClassObj nm q C N bs bm hdct sn sub ab col dd k0 k1 k2 k3 k5 newId) ∧ h.Ns N mN ∧ mN "__init__" = none ∧ OwnTail h bmB bm := by
  unfold PySem.W.excIn at q
  split at q
  next dct cls slots look =>
    split at q
    next _ above z0 z1 z2 z3 maker z5 isMro isSlots =>
      rw [Bool.and_eq_true, Bool.and_eq_true, Bool.and_eq_true, Bool.and_eq_true, Bool.and_eq_true] at q
      obtain ⟨⟨⟨⟨⟨q1, q2⟩, q3⟩, q4⟩, q5⟩, q6⟩ := q
      have same := beq_iff_eq.mp q1
      have mk := beq_iff_eq.mp q2
      have nodel := (Bool.not_eq_true' _).mp q3
      subst same mk
      have all6 : slots = #[z0, z1, z2, z3, some (.builtin maker), z5] := Array.ext' isSlots
      rcases cls with ⟨c1, c2, c3, c4, c5, c6, c7, c8, c9, c10, c11⟩
      cases (show c11 = false from nodel)
      cases (show c3 = _ from isMro)
      cases all6
      exact ⟨_, c4, c1, c5, c2, c6, c7, c8, c9, c10, dct, z0, z1, z2, z3, z5, _, X _ _ look, .of_isNs (PySem.W.isNs_of_in X q5), PySem.W.nsMap_none_of_in X q5 (beq_iff_eq.mp q6), PySem.W.tail_of_in X q4⟩
    next => cases q
  next => cases q
def tRaise (cls : Value) (E : XK) (t : TA) : TS := fun _ σ H => t σ H fun vs H1 => vs.length ≤ sizeLine ∧ E cls none H1
theorem ps_raise {X : Cx} {x : Str} {C : Addr} {e : Expr} {es : List Expr} {t : TA} {E : XK} {np cpos pos : Pos} (hq : PySem.W.excIn X.K C bmV "ValueError.__new__" = true) (hm : X.mg x = some (.ref C)) (ha : PA (X.wish (ER X E)) (e :: es) t) (hg : Gl X x := by rfl) (hc : X.calm = true := by rfl) (hx : X.ex = [] := by rfl)
    (hdb : (x == ("__debug__" : Str)) = false := by decide) (he : starEach (e :: es) X.env = (false, eval e X.env) :: starEach es X.env := by rfl) (hpl : (backTo cpos (starEach es X.env)).any (·.1) = false := by rfl) :
    PS (X.wish (ER X E)) (.Raise (some (.Call (.Name x np) (e :: es) [] cpos)) none pos) (tRaise (.ref C) E t) := by
  intro pins s σ H D I h
  obtain ⟨bm, N, nm, q, bs, hdct, sn, sub, ab, col, dd, k0, k1, k2, k3, k5, mN, hC, hN, hni, T⟩ := excObj (h := X.base) I.ok.mod.kin hq
  refine wpAny_Raise_call_subT (C := C) (nm := nm) (q := q) (N := N) (bs := bs) (bm := bm) (hdct := hdct) (sn := sn) (sub := sub) (ab := ab) (col := col) (dd := dd) (k0 := k0) (k1 := k1) (k2 := k2) (k3 := k3) (k5 := k5)
    PySem.F.excBase_ValueError (mN := mN) (T.hasType PySem.F.excBase_ValueError.hasBase) (I.ok.hd hc) (by rw [show starEach (e :: es) (X.wish (ER X E)).env = (false, eval e X.env) :: starEach es X.env from he]; show (false || (backTo cpos (starEach es X.env)).any (·.1)) = false; rw [hpl]; rfl) hni (ld_glob I hg hm ⟨rfl, ?_⟩ hdb)
  have hA := ha cpos pins s σ H _ I h
  rw [show starEach (e :: es) (X.wish (ER X E)).env = (false, eval e X.env) :: starEach es X.env from he] at hA ⊢
  refine Calls.evalArgs_plain (thn hA fun us s2 ⟨vs, H2, I2, r2, hl, q2⟩ => ⟨rfl, by rw [← r2.length]; exact hl, I2.bk _ _ hC, hN.keeps I2.bk, T.keeps I2.bk, fun h' e hm => ?_⟩)
  obtain ⟨t, he', htn, ht⟩ := hm.there
  have J2 : Inv X pins σ H2 s2 := I2.unwish
  have I3 : Inv X pins σ H2 { s2 with heap := h' } := J2.kept (t' := s2.toks) hm.keeps
  refine ⟨pins, e, [e], .ref C, none, σ, H2, rfl, I3, ⟨_, _, _, he', rfl, rfl, rfl, .inl ⟨rfl, rfl, rfl⟩⟩, .inl rfl, fun b hb => ?_, q2⟩
  rw [List.mem_singleton.mp hb]
  exact J2.ownNew hx hm.new
end L2

/-! try with one clause that names its error -/
namespace L2
open PySem PySem.Spec PyProof.Rows
section
variable {X : Cx} {pins : List (Addr × Obj)} {σ : St} {H : Hp} {s : Shared}
theorem ExAt.mem {h : Heap} {e : Addr} {cls : Value} {own : List Addr} {z : Option Value} (x : ExAt h e cls own z) : e ∈ own := by
  obtain ⟨_, _, _, _, _, _, _, (⟨_, r, _⟩ | ⟨_, _, _, _, _, r, _⟩)⟩ := x <;> (rw [r]; simp)
/-- what a traced error leaves behind: its own records -/
theorem traced_own {own : List Addr} {e : Addr} {cls a0 fl : Value} {h' : Heap} (I : Inv X pins σ H s) (oo : OwnOk X pins H own) (eo : e ∈ own) (hx : X.ex = []) (K : Kept X own s.heap h')
    (tr : h'.TracedAtW (PySem.W.hideAll s.heap (own ++ frs X.stack)) e cls a0 fl) : ∃ T, ExAt h' e cls [e, T] (some fl) ∧ OwnOk X pins H [e, T] := by
  obtain ⟨oe, vs, T, oT, ts, he, ⟨hc, h0⟩, hd, h1, hnT, hTe, hT, hdT, h3⟩ := tr
  refine ⟨T, ⟨oe, vs, a0, he, hc, hd, h0, .inr ⟨T, oT, ts, fl, rfl, rfl, h1, hTe, hT, hdT, h3⟩⟩, fun b hb => ?_⟩
  simp only [List.mem_cons, or_false, List.not_mem_nil] at hb
  rcases hb with rfl | rfl
  · exact oo _ eo
  · by_cases no : b ∈ own
    · exact oo _ no
    · exact I.ownNew hx (K.new hnT hT hdT no)
theorem ex_note {A' : Around} {e : Addr} {own : List Addr} {cls : Value} {z : Option Value} {Q : Unit → Shared → Prop} {R : Value → Shared → Prop} (I : Inv X pins σ H s) (x : ExAt s.heap e cls own z)
    (hz : z = none ∨ z = some .none ∨ ∃ L, X.env.frame = some L ∧ z = some (rawInt L)) (oo : OwnOk X pins H own) (hx : X.ex = []) (hfr : A'.frames = some X.stack) (hst : X.stack = X.env :: X.outer) (hf : X.env.frame = some X.env.locals)
    (k : ∀ s2 T, Inv X pins σ H s2 → ExAt s2.heap e cls [e, T] (some (rawInt X.env.locals)) → OwnOk X pins H [e, T] → Q () s2) : wpAny (model X.prog X.w) A' (noteFrame (.ref e) X.env) Q R s := by
  obtain ⟨hkb, hfl⟩ := I.hide own
  obtain ⟨B, hB⟩ : ∃ B, B = PySem.W.hideAll s.heap (own ++ frs X.stack) := ⟨_, rfl⟩
  rw [← hB] at hkb hfl
  have eo := x.mem
  have hen : B.get? e = none := by
    rw [hB]
    exact PySem.W.hideAll_none _ (List.mem_append_left _ eo)
  have fin : ∀ (h' : Heap) (a0 : Value), Heap.NotedW B X.stack e cls a0 (rawInt X.env.locals) s.heap h' → Q () { s with heap := h' } := fun h' a0 N => by
    subst hB
    obtain ⟨k1, k2, k3, k4⟩ := N
    have K : Kept X own s.heap h' := ⟨k1, k2, k4⟩
    obtain ⟨T, x', oo'⟩ := traced_own I oo eo hx K k3
    exact k _ T (K.inv I oo (t' := s.toks)) x' oo'
  obtain ⟨oe, vs, a0, he, hc, hd, h0, r⟩ := x
  subst hc
  rw [hst] at hfr hfl
  rcases r with ⟨_, _, h1⟩ | ⟨T, oT, ts, fl, rfl, ro, h1, hTe, hT, hdT, h3⟩
  · unfold noteFrame
    simp only [hf]
    refine (wpAny_bind (wpAny_field he hd h1 ?_))
    rw [if_neg (by decide)]
    exact wpAny_entryW hfr hfl hf he hkb hen hd (Array.getElem?_eq_some_iff.mp h1).1 h0 fun h' N => fin h' a0 (by rw [hst]; exact N)
  · have hnT : B.get? T = none := by
      rw [hB]
      exact PySem.W.hideAll_none _ (List.mem_append_left _ (by rw [ro]; simp))
    have tr : s.heap.TracedAtW B e oe.cls a0 fl := ⟨oe, vs, T, oT, ts, he, ⟨rfl, h0⟩, hd, h1, hnT, hTe, hT, hdT, h3⟩
    rcases hz with hz | hz | ⟨L, hL, hz⟩
    · cases hz
    · cases hz
      exact wpAny_noteFrame_onW hfr hfl hf tr hkb hen fun h' N => fin h' a0 (by rw [hst]; exact N)
    · cases hz
      obtain rfl : X.env.locals = L := Option.some.inj (hf.symm.trans hL)
      refine wpAny_noteFrame_againW hf tr ?_
      subst ro
      exact k s T I ⟨oe, vs, a0, he, rfl, hd, h0, .inr ⟨T, oT, ts, _, rfl, rfl, h1, hTe, hT, hdT, h3⟩⟩ oo
theorem ex_land {A' : Around} {e T : Addr} {cls fl : Value} {Q : Unit → Shared → Prop} {R : Value → Shared → Prop} (I : Inv X pins σ H s) (x : ExAt s.heap e cls [e, T] (some fl)) (oo : OwnOk X pins H [e, T]) (hx : X.ex = [])
    (k : ∀ s2 T', Inv X pins σ H s2 → ExAt s2.heap e cls [e, T'] (some .none) → OwnOk X pins H [e, T'] → Q () s2) : wpAny (model X.prog X.w) A' (setFlight (.ref e) none) Q R s := by
  obtain ⟨hkb, hfl⟩ := I.hide [e, T]
  have eo := x.mem
  obtain ⟨oe, vs, a0, he, hc, hd, h0, r⟩ := x
  rcases r with ⟨z, _⟩ | ⟨T', oT, ts, fl', z, ro, h1, hTe, hT, hdT, h3⟩
  · cases z
  · cases z
    have hnT : (PySem.W.hideAll s.heap ([e, T] ++ frs X.stack)).get? T' = none := PySem.W.hideAll_none _ (List.mem_append_left _ (by rw [ro]; simp))
    refine wpAny_setFlight_noneW hkb hfl ⟨oe, vs, T', oT, ts, he, ⟨hc, h0⟩, hd, h1, hnT, hTe, hT, hdT, h3⟩ fun h' k1 k2 k3 k4 => ?_
    have K : Kept X [e, T] s.heap h' := ⟨k1, k2, fun b o q hn => ⟨o.slots, k4 b o q hn⟩⟩
    obtain ⟨T2, x', oo'⟩ := traced_own I oo eo hx K k3
    exact k _ T2 (K.inv I oo (t' := s.toks)) x' oo'
/-- an error that is known: its class -/
def exO (e : Addr) (cls : Value) : HO := .ext fun h => ∃ o vs, h.get? e = some o ∧ o.cls = cls ∧ o.data = .fields vs
theorem Inv.track {e : Addr} {cls : Value} {own : List Addr} {z : Option Value} (I : Inv X pins σ H s) (x : ExAt s.heap e cls own z) (oo : OwnOk X pins H own) : Inv X pins σ (upd H e (exO e cls)) s := by
  have eo := x.mem
  obtain ⟨oe, vs, a0, he, hc, hd, h0, r⟩ := x
  have hn := (oo e eo).1
  have ne : ∀ b u, H b = some u → b ≠ e := fun b u q z => by rw [z, hn] at q; cases q
  rcases s with ⟨hp, g, d, tk, os⟩
  refine I.step' (h' := hp) (g' := g) (t' := tk) (d' := d) (ch := [e]) (fun b hb => by rw [List.mem_singleton.mp hb]; exact (oo e eo).2) (fun b o _ _ _ q _ => q) (fun b o _ _ _ q _ => ⟨o.slots, q⟩) (fun b o hb q n => ?_) (fun b o _ q => ⟨o, q⟩)
    (fun b xs q => by rw [upd_ne (ne _ _ q)]; exact q) (fun b o u q => by rw [upd_ne (ne _ _ q)]; exact q) (fun b ps q => ⟨#[], by rw [upd_ne (ne _ _ q), q]; simp⟩) (fun m hm => hm) (fun a o q => ?_) I.bare
  · rw [upd_ne (fun z => hb (by simp [z]))]
    exact n
  · by_cases ea : a = e
    · subst ea
      rw [upd_same] at q
      cases q
      exact ⟨⟨oe, vs, he, hc, hd⟩, ⟨oe, he⟩, fun h1 h2 ⟨o, vs, q1, q2, q3⟩ kk => ⟨o, vs, kk o q1, q2, q3⟩⟩
    · rw [upd_ne ea] at q
      exact (I.hok a o q).stay (fun b u _ q => q) (fun b q => by rw [upd_ne (ne _ _ q)]; exact q) (fun b xs q => by rw [upd_ne (ne _ _ q)]; exact q)
/-- the clause's name goes: what the names held is forgotten -/
theorem Inv.gone {h' : Heap} {m' : Str → Option Value} {t' : Nat} (I : Inv X pins σ H s) (hn' : h'.Ns X.env.locals m') (hs : Heap.SameBut X.env.locals s.heap h') : Inv X pins (List.replicate X.N.length none) H { s with heap := h', toks := t' } := by
  obtain ⟨m, hn, hl⟩ := id I.loc
  obtain ⟨oL, _, _, hoL, _⟩ := id hn
  have lt : ∀ b o, X.s₀.heap.get? b = some o → b ≠ X.env.locals := fun b o e => Nat.ne_of_lt (Nat.lt_of_lt_of_le (Heap.lt_size e) I.ok.above)
  refine ⟨I.ok, I.os, I.bare, ⟨fun b o e n hb hx => ?_, fun b o e n hb hx => ?_, I.base.free, fun b o e hx => ?_, I.base.tups, I.base.frzs, I.base.tbls⟩, ⟨m', hn', fun j y v' e1 e2 e3 => ?_⟩, fun y c e => ?_, I.free, I.freeC, fun p hp => ?_, fun b ob e => ?_, by simp⟩
  · exact (hs.2 b (lt b o e)).trans (I.base.keep b o e n hb hx)
  · obtain ⟨sl, e1⟩ := I.base.slot b o e n hb hx
    exact ⟨sl, (hs.2 b (lt b o e)).trans e1⟩
  · obtain ⟨o', e1⟩ := I.base.there b o e hx
    exact ⟨o', (hs.2 b (lt b o e)).trans e1⟩
  · rw [List.getElem?_replicate] at e2
    split at e2 <;> cases e2
  · obtain ⟨w', z⟩ := I.cell y c e
    exact ⟨w', z.sameBut hs (I.cne y c e)⟩
  · obtain ⟨e, n, ne, nf, d⟩ := I.pin p hp
    exact ⟨(hs.2 p.1 ne).trans e, n, ne, nf, d⟩
  · refine (I.hok b ob e).stay (fun c w' hc q => (hs.2 c ?_).trans q) (fun _ q => q) fun _ _ q => q
    rintro rfl
    rcases hc with hc | hc
    · rw [← hc, I.free] at e
      cases e
    · rw [I.free] at hc
      cases hc
theorem Cx.Ok.setPn (ok : X.Ok) (pn : List (Addr × Obj)) : ({ X with pn := pn } : Cx).Ok :=
  ⟨ok.mod, ok.kind, ok.glob, ok.blt, ok.above, ok.inj, ok.has, ok.cab, ok.hd, ok.frames, ok.stk, ok.exf, ok.bs, ok.bsz, ok.noex, ok.exfs, ok.funs, ok.frf⟩
theorem Cx.Ok.unsetPn {pn : List (Addr × Obj)} (ok : ({ X with pn := pn } : Cx).Ok) : X.Ok :=
  ⟨ok.mod, ok.kind, ok.glob, ok.blt, ok.above, ok.inj, ok.has, ok.cab, ok.hd, ok.frames, ok.stk, ok.exf, ok.bs, ok.bsz, ok.noex, ok.exfs, ok.funs, ok.frf⟩
theorem Inv.inpin (I : Inv X pins σ H s) : Inv { X with pn := X.pn ++ pins } [] σ H s :=
  ⟨I.ok.setPn _, I.os, I.bare, I.base, I.loc, I.cell, I.free, I.freeC, fun p hp => I.pin p (by simpa using hp), I.hok, I.len⟩
theorem Inv.outpin {pins' : List (Addr × Obj)} (I : Inv { X with pn := X.pn ++ pins } pins' σ H s) : Inv X pins σ H s :=
  ⟨I.ok.unsetPn, I.os, I.bare, I.base, I.loc, I.cell, I.free, I.freeC, fun p hp => I.pin p (List.mem_append_left _ hp), I.hok, I.len⟩
/-- within a clause's suite: the error e is being handled -/
abbrev Cx.hand (X : Cx) (e : Addr) : Cx := { X with A := X.A.mark (some (.ref e)), calm := false, xe := fun _ _ => False }
theorem Inv.hand (I : Inv X pins σ H s) (e : Addr) : Inv (X.hand e) pins σ H s :=
  ⟨⟨I.ok.mod, I.ok.kind, I.ok.glob, I.ok.blt, I.ok.above, I.ok.inj, I.ok.has, I.ok.cab, (fun z => by cases z), I.ok.frames, I.ok.stk, I.ok.exf, I.ok.bs, I.ok.bsz, I.ok.noex, I.ok.exfs, I.ok.funs, I.ok.frf⟩,
    I.os, I.bare, I.base, I.loc, I.cell, I.free, I.freeC, I.pin, I.hok, I.len⟩
theorem Inv.unhand {e : Addr} (I : Inv (X.hand e) pins σ H s) (hd : X.calm = true → X.A.handled = none) : Inv X pins σ H s :=
  ⟨⟨I.ok.mod, I.ok.kind, I.ok.glob, I.ok.blt, I.ok.above, I.ok.inj, I.ok.has, I.ok.cab, hd, I.ok.frames, I.ok.stk, I.ok.exf, I.ok.bs, I.ok.bsz, I.ok.noex, I.ok.exfs, I.ok.funs, I.ok.frf⟩,
    I.os, I.bare, I.base, I.loc, I.cell, I.free, I.freeC, I.pin, I.hok, I.len⟩
end
/-- try: .. except C as n: .. -/
def tTry (K : PySem.W.Frag) (c : Value) (i N : Nat) (tb : XK → TS) (th : TS) : TS := fun D σ H => ∃ E : XK, tb E D σ H ∧ ∀ cls H' e, E cls none H' → H' e = none → PySem.W.exmOne K cls c = some true ∧
  ∀ σ' : St, σ'.length = N → th { nx := fun _ H2 => D.nx (List.replicate N none) H2, rt := D.rt, bk := fun _ H2 => D.bk (List.replicate N none) H2, ct := fun _ H2 => D.ct (List.replicate N none) H2 } (σ'.set i (some (.ref e))) (upd H' e (exO e cls))
theorem ps_try {X : Cx} {body : List Stmt} {c n : Str} {np hpos pos : Pos} {C : Addr} {b₀ : Stmt} {suite : List Stmt} {i : Nat} {tb : XK → TS} {th : TS} (hm : X.mg c = some (.ref C))
    (hb : ∀ (E : XK) (pn : List (Addr × Obj)), PSs (({ X with pn := pn } : Cx).wish (ER { X with pn := pn } E)) body (tb E)) (hh : ∀ e : Addr, PSs (X.hand e) (b₀ :: suite) th)
    (hN : X.N.Nodup) (hi : X.N[i]? = some n) (hl : X.env.scope.names.lookup n = some .local) (hg : Gl X c := by rfl) (hx : X.ex = [] := by rfl) (hst : X.stack = X.env :: X.outer := by rfl) (hf : X.env.frame = some X.env.locals := by rfl) (hdb : (c == ("__debug__" : Str)) = false := by decide) :
    PS X (.Try body [.ExceptHandler (some (.Name c np)) (some n) (b₀ :: suite) hpos] [] [] pos) (tTry X.K (.ref C) i X.N.length tb th) := by
  intro pins s σ H D I h
  obtain ⟨E, h1, h2⟩ := h
  refine wpAny_Try_except (wpAny_mono (hb E (X.pn ++ pins) [] s σ H D (I.inpin.wish _) h1) (fun f s1 q => ?_) fun ev s1 q => ?_)
  · have q1 : SP ({ X with pn := X.pn ++ pins } : Cx) [] D f s1 := q.unwish
    have q' : SP X pins D f s1 := by
      cases f with
      | next => obtain ⟨σ', H', I', z⟩ := q1; exact ⟨σ', H', I'.outpin, z⟩
      | brk => obtain ⟨σ', H', I', z⟩ := q1; exact ⟨σ', H', I'.outpin, z⟩
      | cont => obtain ⟨σ', H', I', z⟩ := q1; exact ⟨σ', H', I'.outpin, z⟩
      | ret u => obtain ⟨v, σ', H', I', r, z⟩ := q1; exact ⟨v, σ', H', I'.outpin, r, z⟩
    cases f with
    | next => exact wpAny_execs_nil q'
    | brk => exact q'
    | cont => exact q'
    | ret u => exact q'
  · obtain ⟨pins', e, own, cls, z, σ1, H1, rfl, I1, x, hz, oo, qE⟩ := q
    have J1 : Inv X pins σ1 H1 s1 := I1.outpin
    have oo1 : OwnOk X pins H1 own := fun b hb => let ⟨a1, a2, a3, a4, a5⟩ := oo b hb; ⟨a1, a2, a3, a4, fun p hp => a5 p (List.mem_append_left _ hp)⟩
    obtain ⟨hmat, hth⟩ := h2 cls H1 e qE (oo e x.mem).1
    refine ex_note J1 x hz oo1 hx I.ok.frames hst hf fun s2 T I2 x2 oo2 => ?_
    refine ex_land I2 x2 oo2 hx fun s3 T3 I3 x3 oo3 => ?_
    refine wpAny_handleBy_cons (codeAny_handlers_test ?_) (by intro q; cases q)
    refine ld_glob (X := X.hand e) (I3.hand e) hg hm ?_ hdb
    have ty : PySem.W.Looks (model X.prog X.w) s3.heap (typeOf (.ref e)) cls := by
      obtain ⟨oe, vs, a0, he, hc, _⟩ := x3
      subst hc
      exact (PySem.W.Looks.ld he).andThen .now
    refine (PySem.W.exm_one I3.kIn ty hmat).here ?_
    refine (codeAny_handlers_suite_as ?_)
    refine ex_land (X := X.hand e) (I3.hand e) x3 oo3 hx fun s4 T4 I4 x4 oo4 => ?_
    have I5 := I4.track x4 oo4
    refine store_ok (X := X.hand e) I5 hN hi (.inl hl) (v := .ref e) rfl (fun s5 I6 => ?_) (.inr hl)
    refine wpAny_mono (hh e pins s5 _ _ _ I6 (hth σ1 J1.len)) (fun f s6 q => ?_) fun _ _ z => z.elim
    have fin : ∀ {σ' : St} {H' : Hp} {Qf : Shared → Prop}, Inv (X.hand e) pins σ' H' s6 → (∀ s7, Inv X pins (List.replicate X.N.length none) H' s7 → Qf s7) → wpAny (model X.prog X.w) X.A (do bindName X.env n .none; unbindBehindTheSuite X.env n hpos) (fun _ s7 => Qf s7) X.xe s6 := fun {σ' H' Qf} J k => by
      have J' : Inv X pins σ' H' s6 := J.unhand I.ok.hd
      obtain ⟨m, hn, _⟩ := J'.loc
      exact wpAny_nameGoes hl hn (by rw [I.ok.kind]; rfl) fun h' m' hn' hs => k _ (J'.gone hn' hs)
    cases f with
    | next => obtain ⟨σ', H', I', z⟩ := q; exact fin I' fun s7 J => ⟨_, _, J, z⟩
    | brk => obtain ⟨σ', H', I', z⟩ := q; exact fin I' fun s7 J => ⟨_, _, J, z⟩
    | cont => obtain ⟨σ', H', I', z⟩ := q; exact fin I' fun s7 J => ⟨_, _, J, z⟩
    | ret u => obtain ⟨v, σ', H', I', r, z⟩ := q; exact fin I' fun s7 J => ⟨v, _, _, J, r, z⟩
end L2

set_option maxRecDepth 100000
namespace L2
open PySem PySem.Spec
section
variable {prog : Program} {w : World} {A : Around} {E : Value → Shared → Prop} {h : Heap} {g : Array GenState} {d : Drawn} {t : Nat} {os : OsState} {a C : Addr} {o : Obj} {vs : Array Value}
open PySem.W (Looks)
theorem xcls_get {R : Result → Shared → Prop} (hx : h.get? a = some o) (hc : o.cls = .ref C) (hsub : Looks (model prog w) h (isSubtype (.ref C) (.type "object")) true) (hq : R (.ok (.ret (.ref C))) ⟨h, g, d, t, os⟩) :
    codeAny (model prog w) A (.call (.builtin "getset_descriptor.__get__") ⟨[.builtin "object.__class__", .ref a, .ref C], []⟩) R ⟨h, g, d, t, os⟩ := by
  have isGs : (⟨h, g, d, t, os⟩ : Shared).TypeIs (.builtin "object.__class__") "getset_descriptor" := F.typeOf_object_class
  refine codeAny_call_builtin F.slot_gs_get.plain F.entry_gs_get (F.slot_gs_get.check _ _ _ _ _ _ _ _ isGs (F.args_gs_get _ _ _) ?_)
  have ho : (".".intercalate ("object.__class__".cutAt '.').dropLast) = "object" := F.owner_object_class
  repeat (any_goals (first | assumption | (with_reducible refine wpAny_loadPart_at hx ?_; rw [hc]) | (rw [ho]; with_reducible refine hsub.here ?_) | wp_step))
  refine And.intro (Code.quiet_builtin _ (by decide +kernel)) (codeAny_builtin F.entry_object_class ?_)
  repeat (any_goals (first | assumption | (with_reducible refine wpAny_loadPart_at hx ?_; rw [hc]) | wp_step))
theorem xcls_entry {ct : Tok} {Q : Fin → Shared → Prop} (hx : h.get? a = some o) (hc : o.cls = .ref C) (hd : o.data = .fields vs) (hlk : Looks (model prog w) h (typeLookup (.ref C) "__class__") (some (.builtin "object.__class__"))) (hsub : Looks (model prog w) h (isSubtype (.ref C) (.type "object")) true) (hq : Q (.done (.ret (.ref C))) ⟨h, g, d, t, os⟩) :
    wpAny (model prog w) A (Builtin.«object.__getattribute__» ⟨[.ref a, .str "__class__" ct], []⟩) Q E ⟨h, g, d, t, os⟩ := by
  have isGs : (⟨h, g, d, t, os⟩ : Shared).TypeIs (.builtin "object.__class__") "getset_descriptor" := F.typeOf_object_class
  have known := And.intro F.typeOf_object_class (And.intro F.slot_gs_get.lookup F.slot_gs_set.lookup)
  obtain ⟨f5, f6, f7⟩ := known
  repeat (any_goals (first | assumption | (with_reducible refine wpAny_loadPart_at hx ?_; rw [hc]) | with_reducible refine hlk.here ?_ | wp_step))
  refine xcls_get hx hc hsub ?_
  repeat (any_goals first | assumption | wp_step)
theorem xcls_check {nameV : Value} {Q : Unit → Shared → Prop} (hx : h.get? a = some o) (hc : o.cls = .ref C) (hsb : Looks (model prog w) h (isSubtype (.ref C) (.type "BaseException")) true) (hq : Q () ⟨h, g, d, t, os⟩) :
    wpAny (model prog w) A (checkBuiltinCall "BaseException.__getattribute__" ⟨[.ref a, nameV], []⟩) Q E ⟨h, g, d, t, os⟩ := by
  have hk : builtinKind "BaseException.__getattribute__" = some .slot ∧ splitId "BaseException.__getattribute__" = some ("BaseException", "__getattribute__") := ⟨by decide +kernel, by decide +kernel⟩
  have hag := F.args_bexc_ga (.ref a) nameV
  simp only [checkBuiltinCall, hk.1, hk.2]
  refine wpAny_bind ?_
  · unfold isInstance
    repeat (first | (with_reducible refine wpAny_loadPart_at hx ?_; rw [hc]) | with_reducible refine hsb.here ?_ | wp_step)
    exact hq
theorem xcls_call {ct : Tok} {R : Result → Shared → Prop} (hx : h.get? a = some o) (hc : o.cls = .ref C) (hd : o.data = .fields vs) (hlk : Looks (model prog w) h (typeLookup (.ref C) "__class__") (some (.builtin "object.__class__"))) (hsub : Looks (model prog w) h (isSubtype (.ref C) (.type "object")) true)
    (hsb : Looks (model prog w) h (isSubtype (.ref C) (.type "BaseException")) true) (hq : R (.ok (.ret (.ref C))) ⟨h, g, d, t, os⟩) :
    codeAny (model prog w) A (.call (.builtin "BaseException.__getattribute__") ⟨[.ref a, .str "__class__" ct], []⟩) R ⟨h, g, d, t, os⟩ :=
  codeAny_call_builtin PySem.F.attr_ValueError.ga.plain F.entry_bexc_ga (xcls_check hx hc hsb (xcls_entry hx hc hd hlk hsub hq))
theorem xcls_by {ct : Tok} {Q : Value → Shared → Prop} (hx : h.get? a = some o) (hc : o.cls = .ref C) (hd : o.data = .fields vs) (hga : Looks (model prog w) h (typeLookup (.ref C) "__getattribute__") (some (.builtin "BaseException.__getattribute__"))) (hge : Looks (model prog w) h (typeLookup (.ref C) "__getattr__") none) (hlk : Looks (model prog w) h (typeLookup (.ref C) "__class__") (some (.builtin "object.__class__"))) (hsub : Looks (model prog w) h (isSubtype (.ref C) (.type "object")) true)
    (hsb : Looks (model prog w) h (isSubtype (.ref C) (.type "BaseException")) true) (hq : Q (.ref C) ⟨h, g, d, t, os⟩) : wpAny (model prog w) A (getAttrBy (.ref a) (.str "__class__" ct) false) Q E ⟨h, g, d, t, os⟩ := by
  have f3 := PySem.F.attr_ValueError.ga.bind (.ref a)
  have hz2 : (Value.builtin "BaseException.__getattribute__" == Value.builtin "object.__getattribute__") = false := by decide +kernel
  have hz1 : (onTheHeap (Value.ref C) && Value.builtin "BaseException.__getattribute__" == Value.builtin "object.__getattribute__") = false := by rw [hz2]; rfl
  repeat (any_goals (first | assumption | (with_reducible refine wpAny_loadPart_at hx ?_; rw [hc]) | with_reducible refine hga.here ?_ | with_reducible refine hge.here ?_ | wp_step))
  refine xcls_call hx hc hd hlk hsub hsb ?_
  repeat (any_goals first | assumption | wp_step)
theorem xcls_attr {Q : Option Value → Shared → Prop} (hx : h.get? a = some o) (hc : o.cls = .ref C) (hd : o.data = .fields vs) (hga : Looks (model prog w) h (typeLookup (.ref C) "__getattribute__") (some (.builtin "BaseException.__getattribute__"))) (hge : Looks (model prog w) h (typeLookup (.ref C) "__getattr__") none) (hlk : Looks (model prog w) h (typeLookup (.ref C) "__class__") (some (.builtin "object.__class__"))) (hsub : Looks (model prog w) h (isSubtype (.ref C) (.type "object")) true)
    (hsb : Looks (model prog w) h (isSubtype (.ref C) (.type "BaseException")) true) (hq : Q (some (.ref C)) ⟨h, g, d, t + 1, os⟩) : wpAny (model prog w) A (getAttr? (.ref a) "__class__") Q E ⟨h, g, d, t, os⟩ := by
  unfold getAttr? getAttrBy?
  repeat (any_goals (first | assumption | with_reducible apply xcls_by hx hc hd hga hge hlk hsub hsb | wp_step))
end
end L2

/-! f-strings whose text does not matter -/
namespace L2
open PySem PySem.Spec PyProof.Rows
abbrev TJ := St → Hp → (Hp → Prop) → Prop
def PJ (X : Cx) (es : List Expr) (t : TJ) : Prop :=
  ∀ (out : Str) (pins : List (Addr × Obj)) (s : Shared) (σ : St) (H : Hp) (Q : VK), Inv X pins σ H s → out.length + 2000 * es.length ≤ sizeLine → t σ H (fun H1 => ∀ z, Q (.str z) H1) →
    wpAny (model X.prog X.w) X.A (joinParts out (evalEach es X.env)) (EP X pins σ Q) X.xe s
structure QJ (X : Cx) (es : List Expr) (t : TJ) : Prop where
  out : PJ X es t
def jNil : TJ := fun _ H Q => Q H
def jCons (te : TE) (t : TJ) : TJ := fun σ H Q => te σ H fun x H1 => ∃ y, x = .str y ∧ y.length ≤ 2000 ∧ t σ H1 Q
def tJs (t : TJ) : TE := fun σ H Q => t σ H fun H1 => ∀ z, Q (.str z) H1
def tFv (te : TE) : TE := fun σ H Q => te σ H fun x H1 => ∃ i, x = .int i ∧ i.natAbs.log2 < 1920 ∧ ∀ y : Str, y.length ≤ 2000 → Q (.str y) H1
section
variable {X : Cx} {a b e : Expr} {es : List Expr} {te : TE} {t : TJ} {pos : Pos}
theorem pj_nil : PJ X [] jNil := by
  intro out pins s σ H Q I hz q
  exact joinParts_nil ⟨.str out, H, I.tok _, ⟨_, rfl⟩, q out⟩ (by simpa using hz)
theorem pj_cons (he : PE X e te) (hr : PJ X es t) (hv : evalEach (e :: es) X.env = eval e X.env :: evalEach es X.env) : PJ X (e :: es) (jCons te t) := by
  intro out pins s σ H Q I hz q
  rw [hv]
  refine joinParts_cons (thn (he pins s σ H _ I q) fun v s1 ⟨x, H1, I1, r1, y, ex, hl, q1⟩ => ?_)
  subst ex
  obtain ⟨tk, rfl⟩ := r1
  have e1 : (out ++ y).length = out.length + y.length := strLen_append ..
  rw [List.length_cons] at hz
  exact ⟨by omega, hr (out ++ y) pins s1 σ H1 Q I1 (by omega) q1⟩
theorem qj_nil : QJ X [] jNil := ⟨pj_nil⟩
theorem qj_cons (he : QE X e te) (hr : QJ X es t) (hv : evalEach (e :: es) X.env = eval e X.env :: evalEach es X.env := by rfl) : QJ X (e :: es) (jCons te t) := ⟨pj_cons he.out hr.out hv⟩
theorem qe_js (h : QJ X (a :: b :: es) t) (hn : es.length ≤ 100 := by decide) (hv : evalEach (a :: b :: es) X.env = eval a X.env :: eval b X.env :: evalEach es X.env := by rfl) : QE X (.JoinedStr (a :: b :: es) pos) (tJs t) := ⟨fun pins s σ H Q I q =>
  JoinedStr_many (by
    have hz : (Str.empty).length + 2000 * (a :: b :: es).length ≤ sizeLine := by
      have e0 : (Str.empty).length = 0 := rfl
      rw [e0, List.length_cons, List.length_cons, sizeLine_eq]
      omega
    have q' := h.out Str.empty pins s σ H Q I hz q
    rw [hv] at q'
    exact q')⟩
theorem qe_fv (he : QE X e te) : QE X (.FormattedValue e (-1) none pos) (tFv te) := ⟨fun pins s σ H Q I q =>
  FormattedValue_plain (thn (he.out pins s σ H _ I q) fun v s1 ⟨x, H1, I1, r1, i, ex, hd, q1⟩ => by
    subst ex
    obtain ⟨tk, rfl⟩ := r1
    exact formatField_int_small hd ⟨.str (toString i), H1, I1.tok _, ⟨_, rfl⟩, q1 _ (Nat.le_trans (int_text_len_1921 hd) (by decide))⟩)⟩
end
end L2

/-! own errors: what the text's part knows of their classes; isinstance of a caught one; raise, try as structures; a chain of three comparisons -/
namespace L2
open PySem PySem.Spec PyProof.Rows
open PySem.W (Looks)
structure ErrIn (K : PySem.W.Frag) (C : Addr) : Prop where
  exc : PySem.W.excIn K C bmV "ValueError.__new__" = true
  ty : PySem.W.typeIn K (.ref C) = some (.type "type")
  cl : ∃ c, PySem.W.clsIn K C = some c
  ga : PySem.W.findIn K (.ref C) "__getattribute__" = some (some (.builtin "BaseException.__getattribute__"))
  ge : PySem.W.findIn K (.ref C) "__getattr__" = some none
  lk : PySem.W.findIn K (.ref C) "__class__" = some (some (.builtin "object.__class__"))
  so : PySem.W.subIn K (.ref C) (.type "object") = some true
  sb : PySem.W.subIn K (.ref C) (.type "BaseException") = some true
  se : PySem.W.subIn K (.ref C) (.ref C) = some true
section
variable {K : PySem.W.Frag} {C D e : Addr} {b : Bool}
theorem ErrIn.kitC (E : ErrIn K C) (h : PySem.W.subIn K (.ref D) (.ref C) = some b) : PySem.W.kitCls K (.ref D) (.ref C) = some b := by
  obtain ⟨c, hc⟩ := E.cl
  show (if ((PySem.W.clsIn K C).isSome && PySem.W.typeIn K (.ref C) == some (.type "type")) = true then PySem.W.subIn K (.ref D) (.ref C) else none) = some b
  rw [hc, E.ty, if_pos (by simp)]
  exact h
theorem ErrIn.exm (E : ErrIn K C) (h : PySem.W.subIn K (.ref D) (.ref C) = some b) : PySem.W.exmOne K (.ref D) (.ref C) = some b := by
  unfold PySem.W.exmOne
  rw [E.sb, if_pos (by simp)]
  exact E.kitC h
theorem ErrIn.kitO (E : ErrIn K C) (h : PySem.W.subIn K (.ref D) (.ref C) = some b) : PySem.W.kitOne K (.ref D) (.ref C) = some b := by
  unfold PySem.W.kitOne
  by_cases q : ((Value.ref D) == (Value.ref C)) = true
  · rw [if_pos q]
    have e : D = C := by
      have := beq_iff_eq.mp q
      cases this
      rfl
    subst e
    rw [E.se] at h
    exact h
  · rw [if_neg q]
    exact E.kitC h
theorem ErrIn.kit (E : ErrIn K C) : PySem.W.KitX K (.ref e) (.ref C) (fun h => ∃ o vs, h.get? e = some o ∧ o.cls = .ref C ∧ o.data = .fields vs) where
  ty := fun M h X ⟨o, vs, he, hc, hd⟩ => by
    rw [← hc]
    exact (Looks.ld he).andThen .now
  it := fun M h X _ => (PySem.W.kit_cls X (E.kitC E.se)).2.1
  ne := fun h tq dd its n sl X htq => by
    refine Bool.eq_false_iff.mpr fun same => ?_
    have e : C = tq := by
      have := beq_iff_eq.mp same
      cases this
      rfl
    subst e
    obtain ⟨bm, N, nm, q2, bs, hdct, sn, sub, ab, col, dd2, k0, k1, k2, k3, k5, mN, hC, _⟩ := excObj X E.exc
    rw [htq] at hC
    have z : Value.type "tuple" = Value.type "type" := congrArg Obj.cls (Option.some.inj hC)
    exact absurd z (by decide)
  ca := fun {prog w A E' Q s} X ⟨o, vs, he, hc, hd⟩ hq => by
    obtain ⟨h, g, d, t, os⟩ := s
    exact xcls_attr he hc hd (PySem.W.looks_findIn X E.ga) (PySem.W.looks_findIn X E.ge) (PySem.W.looks_findIn X E.lk) (PySem.W.looks_subIn X E.so) (PySem.W.looks_subIn X E.sb) hq
end
def rIsX (K : PySem.W.Frag) : List V → Hp → VK → Prop := fun xs H Q => ∃ (e D C : Addr) (b : Bool), xs = [.ref e, .ref C] ∧ H e = some (exO e (.ref D)) ∧ ErrIn K D ∧ PySem.W.kitOne K (.ref D) (.ref C) = some b ∧ Q (.bl b) H
section
variable {X : Cx}
theorem call_isX : CallR X (.builtin "isinstance") (rIsX X.K) := by
  intro pins s σ H xs us Q I r h
  obtain ⟨e, D, C, b, rfl, he, hE, hk, q⟩ := h
  obtain ⟨u, w', rfl, rx, ry⟩ := vals2 r
  cases rx
  cases ry
  exact PySem.W.kia_one hE.kit I.kIn (I.hok e _ he).1 hk (by intro z; cases z) fun tk => ⟨.bl b, H, I.tok _, rfl, q⟩
end
section
variable {σ : St} {H : Hp} {Q : VK} {D : Ends} {K : PySem.W.Frag}
theorem rd_isX {e De C : Addr} {b : Bool} (he : H e = some (exO e (.ref De))) (hE : ErrIn K De) (hC : ErrIn K C) (h : PySem.W.subIn K (.ref De) (.ref C) = some b) (q : Q (.bl b) H) : rIsX K [.ref e, .ref C] H Q := ⟨e, De, C, b, rfl, he, hE, hC.kitO h, q⟩
theorem rd_itup {tl : TE} {R : It → Hp → Prop} (q : tl σ H fun x H1 => ∃ a, x = .ref a ∧ (∃ xs, SqT K H1 a xs) ∧ R (Itt K a) H1) : iTup K tl σ H R := q
theorem rd_forT {a : Addr} {xs : List V} {P : Addr → Prop} (h : SqT K H a xs) (q : P a) : ∃ a', V.ref a = .ref a' ∧ (∃ xs, SqT K H a' xs) ∧ P a' := ⟨a, rfl, ⟨xs, h⟩, q⟩
theorem rd_raise {cls : Value} {E : XK} {t : TA} (q : t σ H fun vs H1 => vs.length ≤ sizeLine ∧ E cls none H1) : tRaise cls E t D σ H := q
theorem rd_js {t : TJ} (q : t σ H fun H1 => ∀ z, Q (.str z) H1) : tJs t σ H Q := q
theorem rd_jnil {R : Hp → Prop} (q : R H) : jNil σ H R := q
theorem rd_jcons {te : TE} {t : TJ} {R : Hp → Prop} (q : te σ H fun x H1 => ∃ y, x = .str y ∧ y.length ≤ 2000 ∧ t σ H1 R) : jCons te t σ H R := q
theorem rd_fv {te : TE} (q : te σ H fun x H1 => ∃ i, x = .int i ∧ i.natAbs.log2 < 1920 ∧ ∀ y : Str, y.length ≤ 2000 → Q (.str y) H1) : tFv te σ H Q := q
theorem rd_jstr {y : Str} {P : Prop} (h : y.length ≤ 2000) (q : P) : ∃ y', V.str y = .str y' ∧ y'.length ≤ 2000 ∧ P := ⟨y, rfl, h, q⟩
theorem rd_fvint {i : Int} {P : Prop} (h : i.natAbs.log2 < 1920) (q : P) : ∃ i', V.int i = .int i' ∧ i'.natAbs.log2 < 1920 ∧ P := ⟨i, rfl, h, q⟩
end
/-! ### a op1 b op2 c op3 d, as a test -/
def tChain3 (r r' r'' : R2) (ta tb tc td : TE) : TE := fun σ H Q => ta σ H fun x H1 => tb σ H1 fun y H2 => r x y H2 fun z H3 => ∃ k, z = .bl k ∧
  (if k = true then tc σ H3 fun w' H4 => r' y w' H4 fun z' H5 => ∃ k', z' = .bl k' ∧ (if k' = true then td σ H5 fun u' H6 => r'' w' u' H6 Q else Q (.bl false) H5) else Q (.bl false) H3)
section
variable {X : Cx} {a b c d : Expr} {ta tb tc td : TE} {pos : Pos}
theorem pt_chain3 {op op' op'' : CmpOp} {r r' r'' : R2} (ho : OpR X (compareOp op) r) (ho' : OpR X (compareOp op') r') (ho'' : OpR X (compareOp op'') r'') (ha : PE X a ta) (hb : PE X b tb) (hc : PE X c tc) (hd : PE X d td)
    (hm : lastMarks [op, op', op''] [b, c, d] = false := by with_unfolding_all rfl) : PT X (.Compare a [op, op', op''] [b, c, d] pos) (tTest (tChain3 r r' r'' ta tb tc td)) := by
  intro pins s σ H Q I h
  refine isTrue_chain (thn (ha pins s σ H _ I h) fun v s1 ⟨x, H1, I1, r1, q1⟩ => test_link (thn (hb pins s1 σ H1 _ I1 q1) fun u s2 ⟨y, H2, I2, r2, q2⟩ =>
    thn (ho pins s2 σ H2 x y v u _ I2 r1 r2 q2) fun d' s3 ⟨z, H3, I3, r3, k, e, q3⟩ => ?_)) hm
  subst e
  cases r3
  refine wpAny_truthy_bool ?_
  cases k with
  | false =>
    obtain ⟨k', e', q'⟩ := q3
    cases e'
    exact ite_ff ⟨H3, I3, q'⟩
  | true =>
    refine ite_tt (test_link (thn (hc pins s3 σ H3 _ I3 q3) fun w1 s4 ⟨z', H4, I4, r4, q4⟩ => thn (ho' pins s4 σ H4 y z' u w1 _ I4 r2 r4 q4) fun d2 s5 ⟨z2, H5, I5, r5, k2, e2, q5⟩ => ?_))
    subst e2
    cases r5
    refine wpAny_truthy_bool ?_
    cases k2 with
    | false =>
      obtain ⟨k', e', q'⟩ := q5
      cases e'
      exact ite_ff ⟨H5, I5, q'⟩
    | true =>
      refine ite_tt (test_last (thn (hd pins s5 σ H5 _ I5 q5) fun w2 s6 ⟨z3, H6, I6, r6, q6⟩ => thn (ho'' pins s6 σ H6 z' z3 w1 w2 _ I6 r4 r6 q6) fun d3 s7 ⟨z4, H7, I7, r7, k4, e4, q7⟩ => ?_))
      subst e4
      cases r7
      exact wpAny_truthy_bool ⟨H7, I7, q7⟩
theorem qt_chain3 {op op' op'' : CmpOp} {r r' r'' : R2} (ho : OpR X (compareOp op) r) (ho' : OpR X (compareOp op') r') (ho'' : OpR X (compareOp op'') r'') (ha : QE X a ta) (hb : QE X b tb) (hc : QE X c tc) (hd : QE X d td)
    (hm : lastMarks [op, op', op''] [b, c, d] = false := by with_unfolding_all rfl) : QT X (.Compare a [op, op', op''] [b, c, d] pos) (tTest (tChain3 r r' r'' ta tb tc td)) := ⟨pt_chain3 ho ho' ho'' ha.out hb.out hc.out hd.out hm⟩
theorem rd_chain3 {σ : St} {H : Hp} {Q : VK} {r r' r'' : R2} (q : ta σ H fun x H1 => tb σ H1 fun y H2 => r x y H2 fun z H3 => ∃ k, z = .bl k ∧
    (if k = true then tc σ H3 fun w' H4 => r' y w' H4 fun z' H5 => ∃ k', z' = .bl k' ∧ (if k' = true then td σ H5 fun u' H6 => r'' w' u' H6 Q else Q (.bl false) H5) else Q (.bl false) H3)) : tChain3 r r' r'' ta tb tc td σ H Q := q
end
/-! ### as structures -/
section
variable {X : Cx} {e : Expr} {es : List Expr} {t : TA} {np cpos pos hpos : Pos}
theorem qs_raise {x : Str} {C : Addr} {E : XK} (hq : PySem.W.excIn X.K C bmV "ValueError.__new__" = true) (hm : X.mg x = some (.ref C)) (ha : QA (X.wish (ER X E)) (e :: es) t) (hg : Gl X x := by rfl) (hc : X.calm = true := by rfl) (hx : X.ex = [] := by rfl)
    (hdb : (x == ("__debug__" : Str)) = false := by decide) (he : starEach (e :: es) X.env = (false, eval e X.env) :: starEach es X.env := by rfl) (hpl : (backTo cpos (starEach es X.env)).any (·.1) = false := by rfl) :
    QS (X.wish (ER X E)) (.Raise (some (.Call (.Name x np) (e :: es) [] cpos)) none pos) (tRaise (.ref C) E t) := ⟨ps_raise hq hm ha.out hg hc hx hdb he hpl⟩
theorem qs_try {body : List Stmt} {c n : Str} {C : Addr} {b₀ : Stmt} {suite : List Stmt} {i : Nat} {tb : XK → TS} {th : TS} (hm : X.mg c = some (.ref C))
    (hN : X.N.Nodup) (hi : X.N[i]? = some n) (hl : X.env.scope.names.lookup n = some .local)
    (hb : ∀ (E : XK) (pn : List (Addr × Obj)), QSs (({ X with pn := pn } : Cx).wish (ER { X with pn := pn } E)) body (tb E)) (hh : ∀ e : Addr, QSs (X.hand e) (b₀ :: suite) th)
    (hg : Gl X c := by rfl) (hx : X.ex = [] := by rfl) (hst : X.stack = X.env :: X.outer := by rfl) (hf : X.env.frame = some X.env.locals := by rfl) (hdb : (c == ("__debug__" : Str)) = false := by decide) :
    QS X (.Try body [.ExceptHandler (some (.Name c np)) (some n) (b₀ :: suite) hpos] [] [] pos) (tTry X.K (.ref C) i X.N.length tb th) :=
  ⟨ps_try hm (fun E pn => (hb E pn).out) (fun e => (hh e).out) hN hi hl hg hx hst hf hdb⟩
end
/-- a call of which no error comes -/
theorem pass1 {X : Cx} {P : Program} {w : World} : Passes (CXE P w) X (fun _ _ _ => False) := fun _ _ _ _ _ _ _ h => by
  obtain ⟨_, _, _, _, _, _, _, _, _, _, _, _, _, _, _, z⟩ := h
  exact z.elim
theorem qs_nox {X : Cx} {st : Stmt} {t : TS} (h : QS X.nox st t) : QS X st t := ⟨h.out.nox⟩
theorem Fun.okEQ {P : Program} {w : World} {K : PySem.W.Frag} {mg : Str → Option Value} {base : Heap} {x qual : Str} {st : Stmt} {f : Addr} {fd : FuncData} {N ps : List Str} {k : Nat} {sp : Sp} (F : Fun K x qual st f fd) (S : FnScope N ps (defScope st)) (len : ∀ vs H Q E, sp vs H Q E → vs.length = ps.length)
    (hbody : ∀ (cdv : Value) (A : Around) (outer : List Env) (s : Shared) (H : Hp) (vs : List V) (Q : VK) (E : XK), Room k (A.deeper (envOfC qual (defScope st) s.heap.objs.size f cdv)) → sp vs H Q E →
      ∃ t, QSs ((cxOf (CXE P w) P w K mg base N qual (defScope st) f cdv A outer s H E).wish (ER (cxOf (CXE P w) P w K mg base N qual (defScope st) f cdv A outer s H E) E)) (defBody st) t ∧ t { nx := fun _ H' => Q .non H', rt := Q } (start N vs) H) : FnOk P w K mg base (CXE P w) (k + 1) f fd ps sp :=
  F.okE S len fun cdv A outer s H vs Q E hr h => by
    obtain ⟨t, ht, q⟩ := hbody cdv A outer s H vs Q E hr h
    exact ⟨t, ht.out, q⟩
end L2

/-! words about rolls, tables, pieces; the promises of the drawing defs that every law has -/
open PySem PySem.Spec PyProof.Rows L2
namespace Dr
/-- the script's list -/
def Scr (K : PySem.W.Frag) (H : Hp) (a : Addr) (ns : List Int) : Prop := SqL K H a (ns.map V.int) ∧ ns.length ≤ 63
theorem same_new {H : Hp} {p : Addr} (h : H p = none) (o : HO) : Same H (upd H p o) := fun b u q => by rw [upd_ne (ne_of_none q h)]; exact q
theorem Scr.same {K : PySem.W.Frag} {H H' : Hp} {a : Addr} {ns : List Int} (e : Same H H') (h : Scr K H a ns) : Scr K H' a ns := ⟨e.seq h.1, h.2⟩
theorem big {n : Nat} (h : n ≤ 1000000) : n ≤ sizeLine := Nat.le_trans h (by decide)
theorem tp6 : (10 : Int) ^ (6 : Int).toNat = 1000000 := by decide
theorem tp15 : (10 : Int) ^ (15 : Int).toNat = 1000000000000000 := by decide
theorem tp17 : (10 : Int) ^ (17 : Int).toNat = 100000000000000000 := by decide
theorem tp18 : (10 : Int) ^ (18 : Int).toNat = 1000000000000000000 := by decide
theorem tp59 : (10 : Int) ^ (59 : Int).toNat = 100000000000000000000000000000000000000000000000000000000000 := by decide +kernel
theorem small {n : Nat} (h : n ≤ 1000) : n ≤ sizeLine := Nat.le_of_lt (small1000 h)
theorem atI_ints {ns : List Int} {i : Int} (h0 : 0 ≤ i) (h : i < ns.length) : atI (ns.map V.int) i = some (.int (ns.getD i.toNat 0)) := by
  have hk : i.toNat < ns.length := by omega
  have q : atI (ns.map V.int) ((i.toNat : Nat) : Int) = some (.int (ns.getD i.toNat 0)) := by
    refine atI_nat ?_
    rw [List.getElem?_map, List.getElem?_eq_getElem hk]
    simp [List.getD, hk]
  rw [show ((i.toNat : Nat) : Int) = i by omega] at q
  exact q
/-- cell: any int -/
def spCell (K : PySem.W.Frag) : Sp := fun vs H Q _ => ∃ (a : Addr) (ns : List Int) (i : Int), vs = [.ref a, .int i] ∧ Scr K H a ns ∧ 0 ≤ i ∧ i < 1000000 ∧ ∀ (n : Int) (H' : Hp), Same H H' → Q (.int n) H'
def spMix : Sp := fun vs H Q _ => ∃ (c k : Int), vs = [.int c, .int k] ∧ 0 ≤ k ∧ k < 1000000 ∧ ∀ (n : Int), Q (.int n) H
/-- row: as many ints as sizes, each below its size -/
structure Row (ms os : List Int) : Prop where
  len : os.length = ms.length
  at_ : ∀ k, k < ms.length → 0 ≤ os.getD k 0 ∧ os.getD k 0 < ms.getD k 0
def spRow (K : PySem.W.Frag) : Sp := fun vs H Q _ => ∃ (a : Addr) (ns : List Int) (i : Int) (b : Addr) (ms : List Int), vs = [.ref a, .int i, .ref b] ∧ Scr K H a ns ∧ 0 ≤ i ∧ i < 1000 ∧ SqL K H b (ms.map V.int) ∧ ms.length ≤ 1000 ∧ (∀ m ∈ ms, 0 < m ∧ m < 2 ^ 200) ∧
  ∀ (r : Addr) (H' : Hp) (os : List Int), Same H H' → H r = none → H' r = some (.lst (os.map V.int)) → Row ms os → Q (.ref r) H'
/-- items of an explicit list of ints -/
theorem getD_all {P : Int → Prop} {ws : List Int} {i : Nat} (h : ∀ w ∈ ws, P w) (hi : i < ws.length) : P (ws.getD i 0) := by
  have e : ws.getD i 0 = ws[i] := by simp [List.getD, hi]
  rw [e]
  exact h _ (List.getElem_mem hi)
theorem cut_int {ns : List Int} {lo hi : Option Int} {x : V} (h : x ∈ cutV (ns.map V.int) lo hi) : ∃ z, x = V.int z := by
  unfold cutV at h
  have h1 := List.mem_of_mem_take h
  have h2 := List.mem_of_mem_drop h1
  obtain ⟨z, _, e⟩ := List.mem_map.mp h2
  exact ⟨z, e.symm⟩
theorem Row.push {ms os : List Int} {k : Nat} {v : Int} (h : Row (ms.take k) os) (hk : k < ms.length) (h0 : 0 ≤ v) (h1 : v < ms.getD k 0) : Row (ms.take (k + 1)) (os ++ [v]) := by
  have hl := h.len
  rw [List.length_take] at hl
  have hm : min k ms.length = k := by omega
  have hm' : min (k + 1) ms.length = k + 1 := by omega
  refine ⟨by rw [List.length_append, List.length_take, hm', List.length_singleton]; omega, fun j hj => ?_⟩
  rw [List.length_take, hm'] at hj
  by_cases e : j = k
  · subst e
    have e1 : (os ++ [v]).getD j 0 = v := by
      have : os.length = j := by omega
      simp [List.getD, ← this]
    have e2 : (ms.take (j + 1)).getD j 0 = ms.getD j 0 := by simp [List.getD, List.getElem?_take]
    rw [e1, e2]
    exact ⟨h0, h1⟩
  · have hj' : j < k := by omega
    have q := h.at_ j (by rw [List.length_take]; omega)
    have e1 : (os ++ [v]).getD j 0 = os.getD j 0 := by
      have : j < os.length := by omega
      simp [List.getD, List.getElem?_append_left this]
    have e2 : (ms.take (k + 1)).getD j 0 = (ms.take k).getD j 0 := by
      have h1 : j < k + 1 := by omega
      simp [List.getD, List.getElem?_take, hj', h1]
    rw [e1, e2]
    exact q
/-- a flat list of two, of three, over and over -/
theorem rep2_get (x y : Int) : ∀ (n k : Nat), k < n → (List.replicate n [x, y]).flatten.getD (2 * k) 0 = x ∧ (List.replicate n [x, y]).flatten.getD (2 * k + 1) 0 = y
  | 0, k, h => by omega
  | n + 1, 0, _ => by simp [List.replicate_succ, List.flatten_cons, List.getD]
  | n + 1, k + 1, h => by
    have q := rep2_get x y n k (by omega)
    have e1 : 2 * (k + 1) = 2 * k + 2 := by omega
    rw [List.replicate_succ, List.flatten_cons, e1]
    exact q
theorem rep3_get (x y z : Int) : ∀ (n k : Nat), k < n → (List.replicate n [x, y, z]).flatten.getD (3 * k) 0 = x ∧ (List.replicate n [x, y, z]).flatten.getD (3 * k + 1) 0 = y ∧ (List.replicate n [x, y, z]).flatten.getD (3 * k + 2) 0 = z
  | 0, k, h => by omega
  | n + 1, 0, _ => by simp [List.replicate_succ, List.flatten_cons, List.getD]
  | n + 1, k + 1, h => by
    have q := rep3_get x y z n k (by omega)
    have e1 : 3 * (k + 1) = 3 * k + 3 := by omega
    rw [List.replicate_succ, List.flatten_cons, e1]
    exact q
theorem rep_len (l : List Int) : ∀ n : Nat, (List.replicate n l).flatten.length = n * l.length
  | 0 => by simp
  | n + 1 => by rw [List.replicate_succ, List.flatten_cons, List.length_append, rep_len l n, Nat.succ_mul, Nat.add_comm]
theorem rep_map (l : List Int) (n : Nat) : (List.replicate n (l.map V.int)).flatten = (List.replicate n l).flatten.map V.int := by
  rw [List.map_flatten, List.map_replicate]
/-- sums of the first cells -/
def pre (ns : List Int) (i : Nat) : Int := (ns.take i).sum
theorem pre_cut (ns : List Int) (a b : Nat) (h : a ≤ b) : ((ns.drop a).take (b - a)).sum = pre ns b - pre ns a := by
  unfold pre
  have e : ns.take b = ns.take a ++ (ns.drop a).take (b - a) := by
    have := List.take_add (l := ns) (i := a) (j := b - a)
    rw [show a + (b - a) = b by omega] at this
    exact this
  rw [e, List.sum_append]
  omega
/-! ### kinds, pieces: lists of tuples -/
structure Kd where
  name : Str
  w : Int
  wo : Int
  al : Int
def kindV (k : Kd) : List V := [.str k.name, .int k.w, .int k.wo, .int k.al]
def kindD (k : Kd) : PyData := .tuple [.str k.name, .int k.w, .int k.wo, .int k.al]
def pieceV (p : Int × Str) : List V := [.int p.1, .str p.2]
def pieceD (p : Int × Str) : PyData := .tuple [.int p.1, .str p.2]
def TupIs (H : Hp) (v : V) (xs : List V) : Prop := ∃ p, v = .ref p ∧ H p = some (.tup xs)
def LstOf (H : Hp) {α : Type} (enc : α → List V) (vs : List V) (xs : List α) : Prop := Paired (fun v x => TupIs H v (enc x)) vs xs
section
variable {K : PySem.W.Frag} {H H' : Hp} {α : Type} {enc : α → List V}
theorem TupIs.same {v : V} {xs : List V} (e : Same H H') (h : TupIs H v xs) : TupIs H' v xs := by
  obtain ⟨p, e1, h1⟩ := h
  exact ⟨p, e1, e _ _ h1⟩
theorem LstOf.same (e : Same H H') : ∀ {vs : List V} {xs : List α}, LstOf H enc vs xs → LstOf H' enc vs xs
  | _, _, .nil => .nil
  | _, _, .cons h r => .cons (h.same e) (LstOf.same e r)
/-- where the tuples stay -/
theorem LstOf.keep (e : ∀ b l, H b = some (.tup l) → H' b = some (.tup l)) : ∀ {vs : List V} {xs : List α}, LstOf H enc vs xs → LstOf H' enc vs xs
  | _, _, .nil => .nil
  | _, _, .cons h r => by
    obtain ⟨p, e1, h1⟩ := h
    exact .cons ⟨p, e1, e _ _ h1⟩ (LstOf.keep e r)
theorem LstOf.len : ∀ {vs : List V} {xs : List α}, LstOf H enc vs xs → vs.length = xs.length
  | _, _, .nil => rfl
  | _, _, .cons _ r => congrArg (· + 1) (LstOf.len r)
theorem LstOf.get : ∀ {vs : List V} {xs : List α} {i : Nat} {v : V}, LstOf H enc vs xs → vs[i]? = some v → ∃ x, xs[i]? = some x ∧ TupIs H v (enc x)
  | _, _, _, _, .nil, h => by simp at h
  | _, _, 0, _, .cons h r, e => by
    simp only [List.getElem?_cons_zero, Option.some.injEq] at e
    subst e
    exact ⟨_, by simp, h⟩
  | _, _, i + 1, _, .cons h r, e => by
    simp only [List.getElem?_cons_succ] at e
    obtain ⟨x, e1, e2⟩ := LstOf.get r e
    exact ⟨x, by simpa using e1, e2⟩
theorem LstOf.app : ∀ {vs ws : List V} {xs ys : List α}, LstOf H enc vs xs → LstOf H enc ws ys → LstOf H enc (vs ++ ws) (xs ++ ys)
  | _, _, _, _, .nil, r => r
  | _, _, _, _, .cons h r, q => .cons h (LstOf.app r q)
theorem LstOf.rev : ∀ {vs : List V} {xs : List α}, LstOf H enc vs xs → LstOf H enc vs.reverse xs.reverse
  | _, _, .nil => .nil
  | _, _, .cons h r => by
    rw [List.reverse_cons, List.reverse_cons]
    exact LstOf.app (LstOf.rev r) (.cons h .nil)
theorem LstOf.snoc {vs : List V} {xs : List α} {x : α} {t p : Addr} (hL : LstOf H enc vs xs) (ht : H t = some (.lst vs)) (hp : H p = some (.tup (enc x))) : LstOf (upd H t (.lst (vs ++ [.ref p]))) enc (vs ++ [.ref p]) (xs ++ [x]) := by
  have rne : ∀ b l, H b = some (.tup l) → upd H t (.lst (vs ++ [.ref p])) b = some (.tup l) := fun b l e => by
    have : b ≠ t := fun z => by
      rw [z, ht] at e
      cases e
    rw [upd_ne this]
    exact e
  exact LstOf.app (hL.keep rne) (.cons ⟨p, rfl, rne _ _ hp⟩ .nil)
theorem LstOf.dn {encD : α → List PyData} (hd : ∀ x, DnA K H (enc x) (encD x)) : ∀ {vs : List V} {xs : List α}, LstOf H enc vs xs → DnA K H vs (xs.map fun x => PyData.tuple (encD x))
  | _, _, .nil => .nil
  | _, _, .cons h r => by
    obtain ⟨p, e, h1⟩ := h
    subst e
    exact .cons (.tup (SqT.of h1) (hd _)) (LstOf.dn hd r)
end
theorem canLay_all {ds : List PyData} (h : ∀ d ∈ ds, d.canLay0 = true) : PyData.canLayAll0 ds = true := by
  induction ds with
  | nil => rfl
  | cons d ds ih =>
    simp only [PyData.canLayAll0, Bool.and_eq_true]
    exact ⟨h d (by simp), ih fun x hx => h x (by simp [hx])⟩
theorem depth_all {ds : List PyData} {n : Nat} (h : ∀ d ∈ ds, d.depth ≤ n) : PyData.depthAll ds ≤ n := by
  induction ds with
  | nil => exact Nat.zero_le _
  | cons d ds ih =>
    simp only [PyData.depthAll]
    exact Nat.max_le.mpr ⟨h d (by simp), ih fun x hx => h x (by simp [hx])⟩
theorem shaped_list {ds : List PyData} (h : ∀ d ∈ ds, d.canLay0 = true ∧ d.depth ≤ 9) : SeqAt.shaped (.list ds) = true := by
  unfold SeqAt.shaped
  simp only [PyData.canLay0, Bool.and_eq_true, decide_eq_true_eq]
  have := depth_all (n := 9) fun d hd => (h d hd).2
  refine ⟨canLay_all fun d hd => (h d hd).1, ?_⟩
  have e : PyData.depth (.list ds) = PyData.depthAll ds + 1 := by simp only [PyData.depth]
  first | omega | (rw [e]; omega)
theorem ints_dn {K : PySem.W.Frag} {H : Hp} : ∀ ns : List Int, DnA K H (ns.map V.int) (ns.map PyData.int)
  | [] => .nil
  | _ :: r => .cons (.int _) (ints_dn r)
theorem shaped_ints (ns : List Int) : SeqAt.shaped (.list (ns.map PyData.int)) = true := shaped_list fun d hd => by
  obtain ⟨i, _, e⟩ := List.mem_map.mp hd
  subst e
  exact ⟨rfl, Nat.zero_le _⟩
theorem shaped_pieces {ps : List (Int × Str)} (h : ∀ p ∈ ps, PyData.strOk p.2 = true) : SeqAt.shaped (.list (ps.map pieceD)) = true := shaped_list fun d hd => by
  obtain ⟨p, hp, e⟩ := List.mem_map.mp hd
  subst e
  refine ⟨?_, ?_⟩
  · simp [pieceD, PyData.canLay0, PyData.canLayAll0, h p hp]
  · simp [pieceD, PyData.depth, PyData.depthAll]
theorem shaped_kinds {ks : List Kd} (h : ∀ k ∈ ks, PyData.strOk k.name = true) : SeqAt.shaped (.list (ks.map kindD)) = true := shaped_list fun d hd => by
  obtain ⟨k, hk, e⟩ := List.mem_map.mp hd
  subst e
  refine ⟨?_, ?_⟩
  · simp [kindD, PyData.canLay0, PyData.canLayAll0, h k hk]
  · simp [kindD, PyData.depth, PyData.depthAll]
theorem kinds_dn {K : PySem.W.Frag} {H : Hp} {vs : List V} {ks : List Kd} (h : LstOf H kindV vs ks) : DnA K H vs (ks.map kindD) :=
  LstOf.dn (encD := fun (k : Kd) => [.str k.name, .int k.w, .int k.wo, .int k.al]) (fun _ => .cons (.str _) (.cons (.int _) (.cons (.int _) (.cons (.int _) .nil)))) h
theorem pieces_dn {K : PySem.W.Frag} {H : Hp} {vs : List V} {ps : List (Int × Str)} (h : LstOf H pieceV vs ps) : DnA K H vs (ps.map pieceD) :=
  LstOf.dn (encD := fun (p : Int × Str) => [.int p.1, .str p.2]) (fun _ => .cons (.int _) (.cons (.str _) .nil)) h
theorem same_upd {H H2 : Hp} {r : Addr} (g : Same H H2) (hr : H r = none) (o : HO) : Same H (upd H2 r o) := fun b u q => by
  rw [upd_ne (ne_of_none q hr)]
  exact g b u q
theorem atI_k {ms : List Int} {k : Nat} (h : k < ms.length) : atI (ms.map V.int) (0 + (k : Int)) = some (.int (ms.getD k 0)) := by
  have q := atI_ints (ns := ms) (i := 0 + (k : Int)) (by omega) (by omega)
  rw [show (0 + (k : Int)).toNat = k by omega] at q
  exact q
theorem atI_of {ms : List Int} {i : Int} {k : Nat} (e : i = (k : Int)) (h : k < ms.length) : atI (ms.map V.int) i = some (.int (ms.getD k 0)) := by
  subst e
  refine atI_nat ?_
  rw [List.getElem?_map, List.getElem?_eq_getElem h]
  simp [List.getD, h]
theorem atS_of {ss : List Str} {i : Int} {k : Nat} (e : i = (k : Int)) (h : k < ss.length) : atI (ss.map V.str) i = some (.str (ss.getD k "")) := by
  subst e
  refine atI_nat ?_
  rw [List.getElem?_map, List.getElem?_eq_getElem h]
  simp [List.getD, h]
theorem getD_in {ms : List Int} {k : Nat} (h : k < ms.length) : ms.getD k 0 ∈ ms := by
  have e : ms.getD k 0 = ms[k] := by simp [List.getD, h]
  rw [e]
  exact List.getElem_mem h
theorem iteN {c A B : Prop} [Decidable c] (hc : ¬ c) (h : B) : if decide c = true then A else B := by
  rw [decide_eq_false hc]
  exact iteF h
theorem iteP {c A B : Prop} [Decidable c] (hc : c) (h : A) : if decide c = true then A else B := by
  rw [decide_eq_true hc]
  exact iteT h
theorem Row.nil (ms : List Int) : Row (ms.take 0) [] := ⟨by simp, fun k hk => by simp at hk⟩
theorem Row.all {ms os : List Int} (h : Row (ms.take ms.length) os) : Row ms os := by
  rw [List.take_length] at h
  exact h
/-! ### what fits -/
def good (ns : List Int) (k : Kd) (p : Int) : Bool := decide (0 ≤ p ∧ p + k.w ≤ ns.length ∧ pre ns (p + k.w).toNat - pre ns p.toNat ≤ k.al)
/-- the pieces at the first n places -/
def pcs (ns : List Int) (ks : List Kd) : Nat → List (Int × Str)
  | 0 => []
  | n + 1 => pcs ns ks n ++ (ks.filter fun k => good ns k n).map fun k => ((n : Int), k.name)
theorem pcs_len (ns : List Int) (ks : List Kd) : ∀ n, (pcs ns ks n).length ≤ n * ks.length
  | 0 => by simp [pcs]
  | n + 1 => by
    have h := pcs_len ns ks n
    have h1 := List.length_filter_le (fun k => good ns k n) ks
    simp only [pcs, List.length_append, List.length_map, Nat.succ_mul]
    omega
theorem pcs_ok {ns : List Int} {ks : List Kd} (h : ∀ k ∈ ks, PyData.strOk k.name = true) : ∀ n, ∀ p ∈ pcs ns ks n, PyData.strOk p.2 = true
  | 0, p, hp => by simp [pcs] at hp
  | n + 1, p, hp => by
    simp only [pcs, List.mem_append, List.mem_map, List.mem_filter] at hp
    rcases hp with hp | ⟨k, ⟨hk, _⟩, e⟩
    · exact pcs_ok h n p hp
    · subst e
      exact h k hk
theorem filt_take {α : Type} {ks : List α} {i : Nat} {k : α} (h : ks[i]? = some k) (g : α → Bool) : (ks.take (i + 1)).filter g = (ks.take i).filter g ++ (if g k = true then [k] else []) := by
  rw [List.take_add_one, h, List.filter_append]
  congr 1
  by_cases hg : g k = true
  · simp [hg]
  · simp [hg]
def sumsOf (ns : List Int) : List Int := (List.range (ns.length + 1)).map (pre ns)
theorem sums_at (ns : List Int) (k : Nat) (h : k ≤ ns.length) : (sumsOf ns).getD k 0 = pre ns k := by
  unfold sumsOf
  have h' : k < ns.length + 1 := by omega
  simp [List.getD, h']
theorem sums_len (ns : List Int) : (sumsOf ns).length = ns.length + 1 := by simp [sumsOf]
theorem pre_succ {ns : List Int} {i : Nat} {x : Int} (h : ns[i]? = some x) : pre ns (i + 1) = pre ns i + x := by
  unfold pre
  rw [List.take_add_one, h, List.sum_append]
  simp
/-- a kind as the document tells it -/
structure KindOk (k : Kd) : Prop where
  nm : PyData.strOk k.name = true
  w1 : 1 ≤ k.w
  w2 : k.w ≤ 200
  o1 : 1 ≤ k.wo
  o2 : k.wo ≤ 10 ^ 18
  a1 : 0 ≤ k.al
  a2 : k.al < 10 ^ 18
theorem cut_map {ns : List Int} {b e : Int} (h0 : 0 ≤ b) (h1 : b ≤ e) (h2 : e ≤ ns.length) : cutV (ns.map V.int) (some b) (some e) = ((ns.drop b.toNat).take (e.toNat - b.toNat)).map V.int := by
  unfold cutV
  have eb : b = ((b.toNat : Nat) : Int) := by omega
  have ee : e = ((e.toNat : Nat) : Int) := by omega
  rw [eb, ee, HT.sIx_nat, HT.sIx_nat, List.length_map]
  rw [show min b.toNat ns.length = b.toNat by omega, show min e.toNat ns.length = e.toNat by omega]
  simp only [Int.toNat_natCast, List.map_take, List.map_drop]
def poolL : List Str := ["a", "ab", "abc", "b", "ba", "z", "zzzzzzzz", "roll", "cut", "by", "aab", "zz", "kind", "qsvw", "fghjmp", "x"]
theorem pool_ok : ∀ k : Nat, k < 16 → PyData.strOk (poolL.getD k "") = true := by decide +kernel
theorem pool_inj : ∀ j : Nat, j < 16 → ∀ k : Nat, k < 16 → poolL.getD j "" = poolL.getD k "" → j = k := by decide +kernel
def nameAt (s4 s5 : Int) (k : Nat) : Str := poolL.getD ((s4 + (2 * s5 + 1) * (k : Int)) % 16).toNat ""
theorem nameAt_inj {s4 s5 : Int} (h0 : 0 ≤ s5) (h1 : s5 < 4) {j k : Nat} (hj : j < 8) (hk : k < 8) (e : nameAt s4 s5 j = nameAt s4 s5 k) : j = k := by
  have q := pool_inj _ (by omega) _ (by omega) e
  have c : s5 = 0 ∨ s5 = 1 ∨ s5 = 2 ∨ s5 = 3 := by omega
  rcases c with rfl | rfl | rfl | rfl <;> omega
theorem names_nd {s4 s5 : Int} (h0 : 0 ≤ s5) (h1 : s5 < 4) {n : Nat} (hn : n ≤ 8) : ((List.range n).map (nameAt s4 s5)).Nodup := by
  rw [List.nodup_iff_pairwise_ne, List.pairwise_map]
  refine List.Pairwise.imp_of_mem ?_ (List.nodup_iff_pairwise_ne.mp List.nodup_range)
  intro i j hi hj hij e
  exact hij (nameAt_inj h0 h1 (by have := List.mem_range.mp hi; omega) (by have := List.mem_range.mp hj; omega) e)
theorem cut_take {ns : List Int} {n : Nat} : cutV (ns.map V.int) none (some (n : Int)) = (ns.take n).map V.int := by
  unfold cutV
  rw [HT.sIx_none, HT.sIx_nat, List.drop_zero, Nat.sub_zero, List.map_take, List.length_map]
  by_cases h : n ≤ ns.length
  · rw [show min n ns.length = n by omega]
  · rw [show min n ns.length = ns.length by omega, List.take_of_length_le (by simp), List.take_of_length_le (by simp; omega)]
/-! ### the promises of the drawing defs -/
def spFlaw (K : PySem.W.Frag) : Sp := fun vs H Q _ => ∃ (a : Addr) (ns : List Int) (i m : Int), vs = [.ref a, .int i, .int m] ∧ Scr K H a ns ∧ 0 ≤ i ∧ i < 900 ∧ 0 ≤ m ∧ m ≤ 1000 ∧ ∀ (n : Int) (H' : Hp), Same H H' → 1 ≤ n → n ≤ 10 ^ 17 → Q (.int n) H'
def spRoll (K : PySem.W.Frag) : Sp := fun vs H Q _ => ∃ (a : Addr) (ns : List Int) (i m fl : Int), vs = [.ref a, .int i, .int m, .int fl] ∧ Scr K H a ns ∧ 0 ≤ i ∧ i < 900 ∧ 0 ≤ m ∧ m ≤ 200 ∧ 1 ≤ fl ∧ fl ≤ 10 ^ 17 ∧
  ∀ (r : Addr) (H' : Hp) (ws : List Int), Same H H' → H r = none → H' r = some (.lst (ws.map V.int)) → (ws.length : Int) ≤ m → (∀ x ∈ ws, 0 ≤ x ∧ x ≤ 10 ^ 18) → Q (.ref r) H'
/-- a table stands at r -/
structure TabAt (H : Hp) (r : Addr) (ks : List Kd) : Prop where
  ex : ∃ vs, H r = some (.lst vs) ∧ LstOf H kindV vs ks
  ok : ∀ k ∈ ks, KindOk k
  nd : (ks.map (·.name)).Nodup
theorem TabAt.same {H H' : Hp} {r : Addr} {ks : List Kd} (e : Same H H') (h : TabAt H r ks) : TabAt H' r ks := by
  obtain ⟨vs, h1, h2⟩ := h.ex
  exact ⟨⟨vs, e _ _ h1, h2.same e⟩, h.ok, h.nd⟩
def spTable (K : PySem.W.Frag) : Sp := fun vs H Q _ => ∃ (a : Addr) (ns : List Int) (i m : Int), vs = [.ref a, .int i, .int m] ∧ Scr K H a ns ∧ 0 ≤ i ∧ i < 900 ∧ 0 ≤ m ∧ m ≤ 8 ∧
  ∀ (r : Addr) (H' : Hp) (ks : List Kd), Same H H' → H r = none → TabAt H' r ks → (ks.length : Int) ≤ m → Q (.ref r) H'
def spDrawn (K : PySem.W.Frag) : Sp := fun vs H Q _ => ∃ (a : Addr) (ns : List Int) (i m ki : Int), vs = [.ref a, .int i, .int m, .int ki] ∧ Scr K H a ns ∧ 0 ≤ i ∧ i < 800 ∧ 0 ≤ m ∧ m ≤ 200 ∧ 0 ≤ ki ∧ ki ≤ 8 ∧
  ∀ (p r t : Addr) (H' : Hp) (ws : List Int) (ks : List Kd), Same H H' → H' p = some (.tup [.ref r, .ref t]) → H r = none → H t = none → r ≠ t → H' r = some (.lst (ws.map V.int)) → TabAt H' t ks → (ws.length : Int) ≤ m → (∀ x ∈ ws, 0 ≤ x ∧ x ≤ 10 ^ 18) → (ks.length : Int) ≤ ki → Q (.ref p) H'
end Dr

/-! heights: the greatest worths, and the promises of the defs that tell them -/
open PySem PySem.Spec PyProof.Rows L2
namespace Dr
def spSpoilt (K : PySem.W.Frag) : Sp := fun vs H Q _ => ∃ (a : Addr) (ns : List Int) (b e : Int), vs = [.ref a, .int b, .int e] ∧ SqL K H a (ns.map V.int) ∧ 0 ≤ b ∧ b ≤ e ∧ e ≤ ns.length ∧
  ∀ (H' : Hp), Same H H' → Q (.int (pre ns e.toNat - pre ns b.toNat)) H'
def spFits (K : PySem.W.Frag) : Sp := fun vs H Q _ => ∃ (a c : Addr) (ns : List Int) (kd : Kd) (p : Int), vs = [.ref a, .ref c, .int p] ∧ SqL K H a (ns.map V.int) ∧ H c = some (.tup (kindV kd)) ∧ 1 ≤ kd.w ∧
  ∀ (H' : Hp), Same H H' → Q (.bl (good ns kd p)) H'
def spSums (K : PySem.W.Frag) : Sp := fun vs H Q _ => ∃ (a : Addr) (ns : List Int), vs = [.ref a] ∧ SqL K H a (ns.map V.int) ∧ ns.length ≤ 1000 ∧
  ∀ (r : Addr) (H' : Hp), Same H H' → H r = none → H' r = some (.lst ((sumsOf ns).map V.int)) → Q (.ref r) H'
def spGood (K : PySem.W.Frag) : Sp := fun vs H Q _ => ∃ (a c : Addr) (ns : List Int) (kd : Kd) (p : Int), vs = [.ref a, .ref c, .int p] ∧ SqL K H a ((sumsOf ns).map V.int) ∧ H c = some (.tup (kindV kd)) ∧ 1 ≤ kd.w ∧ Q (.bl (good ns kd p)) H
def spWhole : Sp := fun vs H Q _ => ∃ (i : Int), vs = [.int i] ∧ Q (.bl true) H
/-! ### the greatest worths -/
def valOf (tops : List Int) (k : Kd) : Int := tops.getD ((tops.length : Int) - k.w).toNat 0 + k.wo
def endsAt (ns tops : List Int) (k : Kd) : Bool := good ns k ((tops.length : Int) - k.w)
def stepM (ns tops : List Int) (m : Int) (k : Kd) : Int := if endsAt ns tops k = true then (if valOf tops k > m then valOf tops k else m) else m
def lastD (tops : List Int) : Int := tops.getD (tops.length - 1) 0
def topOf (ns : List Int) (ks : List Kd) (tops : List Int) : Int := ks.foldl (stepM ns tops) (lastD tops)
def hts (ns : List Int) (ks : List Kd) : Nat → List Int
  | 0 => [0]
  | j + 1 => hts ns ks j ++ [topOf ns ks (hts ns ks j)]
theorem hts_len (ns : List Int) (ks : List Kd) : ∀ j, (hts ns ks j).length = j + 1
  | 0 => rfl
  | j + 1 => by rw [hts, List.length_append, hts_len ns ks j]; rfl
theorem hts_ne (ns : List Int) (ks : List Kd) (j : Nat) : hts ns ks j ≠ [] := fun h => by
  have := hts_len ns ks j
  rw [h] at this
  simp at this
theorem fold_ge (ns tops : List Int) : ∀ (ks : List Kd) (m : Int), m ≤ ks.foldl (stepM ns tops) m
  | [], m => Int.le_refl _
  | k :: r, m => by
    have h := fold_ge ns tops r (stepM ns tops m k)
    rw [List.foldl_cons]
    have h2 : m ≤ stepM ns tops m k := by
      unfold stepM
      split
      · split <;> omega
      · omega
    omega
theorem fold_ub (ns tops : List Int) : ∀ (ks : List Kd) (m : Int) (k : Kd), k ∈ ks → endsAt ns tops k = true → valOf tops k ≤ ks.foldl (stepM ns tops) m
  | k0 :: r, m, k, hk, hg => by
    rw [List.foldl_cons]
    rcases List.mem_cons.mp hk with e | e
    · subst e
      have h := fold_ge ns tops r (stepM ns tops m k)
      have h2 : valOf tops k ≤ stepM ns tops m k := by
        unfold stepM
        rw [if_pos hg]
        split <;> omega
      omega
    · exact fold_ub ns tops r _ k e hg
theorem fold_in (ns tops : List Int) : ∀ (ks : List Kd) (m : Int), ks.foldl (stepM ns tops) m = m ∨ ∃ k ∈ ks, endsAt ns tops k = true ∧ ks.foldl (stepM ns tops) m = valOf tops k
  | [], m => .inl rfl
  | k :: r, m => by
    rw [List.foldl_cons]
    rcases fold_in ns tops r (stepM ns tops m k) with h | ⟨k', hk', g', e'⟩
    · rw [h]
      unfold stepM
      by_cases hg : endsAt ns tops k = true
      · rw [if_pos hg]
        by_cases hv : valOf tops k > m
        · rw [if_pos hv]
          exact .inr ⟨k, List.mem_cons_self, hg, rfl⟩
        · rw [if_neg hv]
          exact .inl rfl
      · rw [if_neg hg]
        exact .inl rfl
    · exact .inr ⟨k', List.mem_cons_of_mem _ hk', g', e'⟩
theorem topOf_is {ns tops : List Int} {ks : List Kd} {m : Int} (h1 : m ∈ lastD tops :: (ks.filter (endsAt ns tops)).map (valOf tops)) (h2 : ∀ n ∈ lastD tops :: (ks.filter (endsAt ns tops)).map (valOf tops), n ≤ m) : m = topOf ns ks tops := by
  unfold topOf
  refine Int.le_antisymm ?_ ?_
  · rcases List.mem_cons.mp h1 with e | e
    · rw [e]
      exact fold_ge _ _ _ _
    · obtain ⟨k, hk, e⟩ := List.mem_map.mp e
      obtain ⟨hk, hg⟩ := List.mem_filter.mp hk
      rw [← e]
      exact fold_ub _ _ _ _ k hk hg
  · rcases fold_in ns tops ks (lastD tops) with h | ⟨k, hk, hg, e⟩
    · rw [h]
      exact h2 _ List.mem_cons_self
    · rw [e]
      exact h2 _ (List.mem_cons_of_mem _ (List.mem_map.mpr ⟨k, List.mem_filter.mpr ⟨hk, hg⟩, rfl⟩))
theorem foldl_take {α β : Type} {g : β → α → β} {m : β} {ks : List α} {i : Nat} {k : α} (h : ks[i]? = some k) : (ks.take (i + 1)).foldl g m = g ((ks.take i).foldl g m) k := by
  rw [List.take_add_one, h, List.foldl_append]
  rfl
/-! ### a shorter roll -/
theorem pre_take {ns : List Int} {m i : Nat} (h : i ≤ m) : pre (ns.take m) i = pre ns i := by
  unfold pre
  rw [List.take_take, Nat.min_eq_left h]
theorem good_take {ns : List Int} {m : Nat} {k : Kd} {p : Int} (hm : m ≤ ns.length) (hw : 1 ≤ k.w) (h : p + k.w ≤ m) : good (ns.take m) k p = good ns k p := by
  unfold good
  by_cases h0 : 0 ≤ p
  · rw [pre_take (by omega), pre_take (by omega), List.length_take, Nat.min_eq_left hm]
    have e : (p + k.w ≤ (m : Int)) ↔ (p + k.w ≤ (ns.length : Int)) := by omega
    simp only [e]
  · rw [decide_eq_false (fun z => h0 z.1), decide_eq_false (fun z => h0 z.1)]
theorem foldl_same {α β : Type} {g g' : β → α → β} : ∀ {ks : List α} {m : β}, (∀ k ∈ ks, ∀ b, g b k = g' b k) → ks.foldl g m = ks.foldl g' m
  | [], _, _ => rfl
  | k :: r, m, h => by
    rw [List.foldl_cons, List.foldl_cons, h k List.mem_cons_self]
    exact foldl_same fun k' hk' => h k' (List.mem_cons_of_mem _ hk')
theorem hts_take {ns : List Int} {ks : List Kd} {m : Nat} (hm : m ≤ ns.length) (hw : ∀ k ∈ ks, 1 ≤ k.w) : ∀ j, j ≤ m → hts (ns.take m) ks j = hts ns ks j
  | 0, _ => rfl
  | j + 1, h => by
    rw [hts, hts, hts_take hm hw j (by omega)]
    congr 2
    unfold topOf
    refine foldl_same fun k hk b => ?_
    unfold stepM endsAt
    rw [good_take hm (hw k hk) (by rw [hts_len]; omega)]
theorem hts_cut (ns : List Int) (ks : List Kd) (j : Nat) : (hts ns ks (j + 1)).dropLast = hts ns ks j := by
  rw [hts, List.dropLast_concat]
theorem atI_lastD {tops : List Int} (h : tops ≠ []) : atI (tops.map V.int) (-1) = some (.int (lastD tops)) := by
  have e : tops.map V.int = (tops.dropLast).map V.int ++ [V.int (lastD tops)] := by
    have h1 : tops = tops.dropLast ++ [tops.getLast h] := (List.dropLast_concat_getLast h).symm
    have h2 : lastD tops = tops.getLast h := by
      unfold lastD
      have hl : tops.length - 1 < tops.length := by have := List.length_pos_iff.mpr h; omega
      rw [List.getLast_eq_getElem]
      simp [List.getD, hl]
    rw [h2]
    conv => lhs; rw [h1]
    rw [List.map_append]
    rfl
  rw [e]
  exact atI_last _ _
theorem cut_last (ns : List Int) : cutV (ns.map V.int) none (some (-1)) = (ns.dropLast).map V.int := by
  unfold cutV
  rw [HT.sIx_none, List.drop_zero, Nat.sub_zero]
  have e : HT.sIx (ns.map V.int).length (ns.map V.int).length (some (-1)) = ns.length - 1 := by
    show (if (-1 : Int) < 0 then ((-1 : Int) + ((ns.map V.int).length : Int)).toNat else min (-1 : Int).toNat (ns.map V.int).length) = ns.length - 1
    rw [if_pos (by decide), List.length_map]
    omega
  rw [e, List.dropLast_eq_take, List.map_take]
theorem shaped_two {ws : List Int} {ks : List Kd} (h : ∀ k ∈ ks, PyData.strOk k.name = true) : SeqAt.shaped (.list [.list (ws.map PyData.int), .list (ks.map kindD)]) = true := shaped_list fun d hd => by
  simp only [List.mem_cons, List.not_mem_nil, or_false] at hd
  have h1 := shaped_ints ws
  have h2 := shaped_kinds h
  unfold SeqAt.shaped at h1 h2
  simp only [Bool.and_eq_true, decide_eq_true_eq] at h1 h2
  rcases hd with rfl | rfl
  · refine ⟨h1.1, ?_⟩
    have : PyData.depthAll (ws.map PyData.int) ≤ 1 := depth_all fun d hd => by
      obtain ⟨i, _, e⟩ := List.mem_map.mp hd
      subst e
      exact Nat.zero_le _
    simp only [PyData.depth]
    omega
  · refine ⟨h2.1, ?_⟩
    have : PyData.depthAll (ks.map kindD) ≤ 2 := depth_all fun d hd => by
      obtain ⟨k, _, e⟩ := List.mem_map.mp hd
      subst e
      simp [kindD, PyData.depth, PyData.depthAll]
    simp only [PyData.depth]
    omega
/-! ### the heights one by one, and the prices -/
def hAt (ns : List Int) (ks : List Kd) (i : Nat) : Int := lastD (hts ns ks i)
theorem lastD_snoc (xs : List Int) (v : Int) : lastD (xs ++ [v]) = v := by
  unfold lastD
  simp [List.getD]
theorem hAt_succ (ns : List Int) (ks : List Kd) (i : Nat) : hAt ns ks (i + 1) = topOf ns ks (hts ns ks i) := by
  unfold hAt
  rw [hts, lastD_snoc]
theorem hts_at (ns : List Int) (ks : List Kd) : ∀ (n i : Nat), i ≤ n → (hts ns ks n).getD i 0 = hAt ns ks i
  | 0, i, h => by
    have e : i = 0 := by omega
    subst e
    rfl
  | n + 1, i, h => by
    have hl := hts_len ns ks n
    by_cases c : i ≤ n
    · rw [hts, ← hts_at ns ks n i c]
      have : i < (hts ns ks n).length := by omega
      simp [List.getD, List.getElem?_append_left this]
    · have e : i = n + 1 := by omega
      subst e
      rw [hAt_succ, hts]
      simp [List.getD, ← hl]
theorem hAt_up (ns : List Int) (ks : List Kd) (i : Nat) : hAt ns ks i ≤ hAt ns ks (i + 1) := by
  rw [hAt_succ]
  exact fold_ge _ _ _ _
def prcs (ns : List Int) (ks : List Kd) : List Int := (List.range ns.length).map fun i => hAt ns ks (i + 1) - hAt ns ks i
theorem prcs_len (ns : List Int) (ks : List Kd) : (prcs ns ks).length = ns.length := by simp [prcs]
theorem prcs_pos {ns : List Int} {ks : List Kd} : ∀ x ∈ prcs ns ks, 0 ≤ x := fun x hx => by
  obtain ⟨i, _, e⟩ := List.mem_map.mp hx
  have := hAt_up ns ks i
  omega
theorem prcs_at {ns : List Int} {ks : List Kd} {i : Nat} (h : i < ns.length) : (prcs ns ks)[i]? = some (hAt ns ks (i + 1) - hAt ns ks i) := by
  simp [prcs, h]
theorem pre_prcs (ns : List Int) (ks : List Kd) : ∀ j, j ≤ ns.length → pre (prcs ns ks) j = hAt ns ks j
  | 0, _ => rfl
  | j + 1, h => by
    rw [pre_succ (prcs_at (by omega)), pre_prcs ns ks j (by omega)]
    omega
theorem paid {ns : List Int} {ks : List Kd} {k : Kd} {p : Int} (hk : k ∈ ks) (hw : 1 ≤ k.w) (hg : good ns k p = true) : hAt ns ks p.toNat + k.wo ≤ hAt ns ks (p + k.w).toNat := by
  have h := of_decide_eq_true hg
  obtain ⟨e, he⟩ : ∃ e : Nat, (p + k.w).toNat = e + 1 := ⟨(p + k.w).toNat - 1, by omega⟩
  rw [he, hAt_succ]
  have h1 : endsAt ns (hts ns ks e) k = true := by
    unfold endsAt
    rw [hts_len, show ((e + 1 : Nat) : Int) - k.w = p by omega]
    exact hg
  have h2 := fold_ub ns (hts ns ks e) ks (lastD (hts ns ks e)) k hk h1
  have h3 : valOf (hts ns ks e) k = hAt ns ks p.toNat + k.wo := by
    unfold valOf
    rw [hts_len, show (((e + 1 : Nat) : Int) - k.w).toNat = p.toNat by omega, hts_at _ _ _ _ (by omega)]
  rw [h3] at h2
  exact h2
theorem sums_last (ns : List Int) : lastD (sumsOf ns) = pre ns ns.length := by
  unfold lastD
  rw [sums_len, Nat.add_sub_cancel, sums_at _ _ (Nat.le_refl _)]
theorem sums_ne (ns : List Int) : sumsOf ns ≠ [] := fun h => by
  have := sums_len ns
  rw [h] at this
  simp at this
/-! ### promises -/
def spPrices (K : PySem.W.Frag) : Sp := fun vs H Q _ => ∃ (a t : Addr) (ns : List Int) (ks : List Kd) (tv : List V), vs = [.ref a, .ref t] ∧ SqL K H a (ns.map V.int) ∧ SqL K H t tv ∧ LstOf H kindV tv ks ∧ (∀ k ∈ ks, 1 ≤ k.w) ∧ ns.length ≤ 1000 ∧ ks.length ≤ 100 ∧
  ∀ (r : Addr) (H' : Hp), Same H H' → H r = none → H' r = some (.lst ((prcs ns ks).map V.int)) → Q (.ref r) H'
def spShown (K : PySem.W.Frag) : Sp := fun vs H Q _ => ∃ (a t c : Addr) (ns : List Int) (ks : List Kd) (tv : List V), vs = [.ref a, .ref t, .ref c] ∧ SqL K H a (ns.map V.int) ∧ SqL K H t tv ∧ LstOf H kindV tv ks ∧ (∀ k ∈ ks, 1 ≤ k.w) ∧ ns.length ≤ 1000 ∧ ks.length ≤ 100 ∧ SqL K H c ((prcs ns ks).map V.int) ∧
  ∀ (H' : Hp), Same H H' → Q (.int (hAt ns ks ns.length)) H'
def spRightP (K : PySem.W.Frag) : Sp := fun vs H Q _ => ∃ (c a t : Addr) (ns : List Int) (ks : List Kd) (tv : List V), vs = [.ref c, .ref a, .ref t] ∧ SqL K H a (ns.map V.int) ∧ SqL K H t tv ∧ LstOf H kindV tv ks ∧ (∀ k ∈ ks, 1 ≤ k.w) ∧ ns.length ≤ 1000 ∧ ks.length ≤ 100 ∧ H c = some (.lst ((prcs ns ks).map V.int)) ∧
  ∀ (H' : Hp), Same H H' → Q (.bl true) H'
def spHts (K : PySem.W.Frag) : Sp := fun vs H Q _ => ∃ (a t : Addr) (ns : List Int) (ks : List Kd) (tv : List V), vs = [.ref a, .ref t] ∧ SqL K H a (ns.map V.int) ∧ SqL K H t tv ∧ LstOf H kindV tv ks ∧ (∀ k ∈ ks, 1 ≤ k.w) ∧ ns.length ≤ 1000 ∧ ks.length ≤ 100 ∧
  ∀ (r : Addr) (H' : Hp), Same H H' → H r = none → H' r = some (.lst ((hts ns ks ns.length).map V.int)) → Q (.ref r) H'
def spEnding (K : PySem.W.Frag) : Sp := fun vs H Q _ => ∃ (a t : Addr) (ns : List Int) (ks : List Kd) (tv : List V) (e : Int), vs = [.ref a, .ref t, .int e] ∧ SqL K H a (ns.map V.int) ∧ SqL K H t tv ∧ LstOf H kindV tv ks ∧ (∀ k ∈ ks, 1 ≤ k.w) ∧ ks.length ≤ 100 ∧
  ∀ (r : Addr) (H' : Hp) (rv : List V), Same H H' → H r = none → H' r = some (.lst rv) → LstOf H' kindV rv (ks.filter fun k => good ns k (e - k.w)) → Q (.ref r) H'
def spTop (K : PySem.W.Frag) : Sp := fun vs H Q _ => ∃ (a t u : Addr) (ns : List Int) (ks : List Kd) (tv : List V) (tops : List Int), vs = [.ref a, .ref t, .ref u] ∧ SqL K H a (ns.map V.int) ∧ SqL K H t tv ∧ LstOf H kindV tv ks ∧ (∀ k ∈ ks, 1 ≤ k.w) ∧ ks.length ≤ 100 ∧
  SqL K H u (tops.map V.int) ∧ tops ≠ [] ∧ ∀ (H' : Hp), Same H H' → Q (.int (topOf ns ks tops)) H'
def spRight (K : PySem.W.Frag) : Sp := fun vs H Q _ => ∃ (a b : Addr) (xs : List Int), vs = [.ref a, .ref b] ∧ H a = some (.lst (xs.map V.int)) ∧ SqL K H b (xs.map V.int) ∧ Q (.bl true) H
end Dr

/-! the told cutting, and the promises of the defs that tell it -/
open PySem PySem.Spec PyProof.Rows L2
namespace Dr
def fitsTo (ns : List Int) (e : Nat) (k : Kd) : Bool := good ns k ((e : Int) - k.w)
def makes (ns : List Int) (ks : List Kd) (e : Nat) (k : Kd) : Bool := decide (hAt ns ks ((e : Int) - k.w).toNat + k.wo = hAt ns ks e)
def lastK (ns : List Int) (ks : List Kd) (e : Nat) : Option Kd := if hAt ns ks e = hAt ns ks (e - 1) then none else (ks.filter (fitsTo ns e)).find? (makes ns ks e)
def rt (ns : List Int) (ks : List Kd) : Nat → Nat → List (Int × Str)
  | 0, _ => []
  | f + 1, e => if e = 0 then [] else match lastK ns ks e with
    | none => rt ns ks f (e - 1)
    | some k => ((e : Int) - k.w, k.name) :: rt ns ks f ((e : Int) - k.w).toNat
theorem rt_zero (ns : List Int) (ks : List Kd) : ∀ f, rt ns ks f 0 = []
  | 0 => rfl
  | f + 1 => by rw [rt, if_pos rfl]
theorem rt_none {ns : List Int} {ks : List Kd} {f e : Nat} (h0 : 0 < e) (hf : e ≤ f) (h : lastK ns ks e = none) : ∃ f', e - 1 ≤ f' ∧ rt ns ks f e = rt ns ks f' (e - 1) := by
  cases f with
  | zero => omega
  | succ f =>
    refine ⟨f, by omega, ?_⟩
    rw [rt, if_neg (by omega), h]
theorem rt_some {ns : List Int} {ks : List Kd} {f e : Nat} {k : Kd} (h0 : 0 < e) (hf : e ≤ f) (hw : 1 ≤ k.w) (h : lastK ns ks e = some k) : ∃ f', ((e : Int) - k.w).toNat ≤ f' ∧ rt ns ks f e = ((e : Int) - k.w, k.name) :: rt ns ks f' ((e : Int) - k.w).toNat := by
  cases f with
  | zero => omega
  | succ f =>
    refine ⟨f, by omega, ?_⟩
    rw [rt, if_neg (by omega), h]
theorem lastK_in {ns : List Int} {ks : List Kd} {e : Nat} {k : Kd} (h : lastK ns ks e = some k) : k ∈ ks ∧ fitsTo ns e k = true ∧ makes ns ks e k = true ∧ hAt ns ks e ≠ hAt ns ks (e - 1) := by
  unfold lastK at h
  by_cases c : hAt ns ks e = hAt ns ks (e - 1)
  · rw [if_pos c] at h
    cases h
  · rw [if_neg c] at h
    have h1 := List.mem_of_find?_eq_some h
    have h2 := List.find?_some h
    obtain ⟨h3, h4⟩ := List.mem_filter.mp h1
    exact ⟨h3, h4, h2, c⟩
/-- where the heights are unlike there is a piece -/
theorem lastK_some {ns : List Int} {ks : List Kd} {e : Nat} (h0 : 0 < e) (hw : ∀ k ∈ ks, 1 ≤ k.w) (h : hAt ns ks e ≠ hAt ns ks (e - 1)) : ∃ k, lastK ns ks e = some k := by
  unfold lastK
  rw [if_neg h]
  obtain ⟨j, rfl⟩ : ∃ j, e = j + 1 := ⟨e - 1, by omega⟩
  rw [Nat.add_sub_cancel] at h
  have hs := hAt_succ ns ks j
  rcases fold_in ns (hts ns ks j) ks (lastD (hts ns ks j)) with q | ⟨k, hk, hg, q⟩
  · exact absurd (hs.trans q) h
  · have hm : fitsTo ns (j + 1) k = true := by
      unfold fitsTo
      unfold endsAt at hg
      rw [hts_len] at hg
      exact hg
    have hgd := of_decide_eq_true hm
    have hw1 := hw k hk
    have hv : makes ns ks (j + 1) k = true := by
      unfold makes
      refine decide_eq_true ?_
      have e1 : valOf (hts ns ks j) k = hAt ns ks (((j + 1 : Nat) : Int) - k.w).toNat + k.wo := by
        unfold valOf
        rw [hts_len, hts_at _ _ _ _ (by omega)]
      rw [hs, ← e1]
      exact q.symm
    cases hf : (ks.filter (fitsTo ns (j + 1))).find? (makes ns ks (j + 1)) with
    | some k' => exact ⟨k', rfl⟩
    | none =>
      have := List.find?_eq_none.mp hf k (List.mem_filter.mpr ⟨hk, hm⟩)
      exact absurd hv this
theorem find_first {α : Type} {p : α → Bool} : ∀ {fs : List α} {i : Nat} {k : α}, (∀ x ∈ fs.take i, p x = false) → fs[i]? = some k → p k = true → fs.find? p = some k
  | [], i, k, _, h, _ => by simp at h
  | x :: r, 0, k, _, h, hp => by
    obtain rfl : x = k := by simpa using h
    rw [List.find?_cons, hp]
  | x :: r, i + 1, k, hn, h, hp => by
    rw [List.find?_cons, hn x (by simp)]
    exact find_first (i := i) (fun y hy => hn y (by rw [List.take_succ_cons]; exact List.mem_cons_of_mem _ hy)) (by simpa using h) hp
theorem find_no {α : Type} {p : α → Bool} {fs : List α} (h : ∀ x ∈ fs, p x = false) : fs.find? p = none := List.find?_eq_none.mpr fun x hx => by rw [h x hx]; simp
def KOpt (H : Hp) (v : V) : Option Kd → Prop
  | none => v = .non
  | some k => TupIs H v (kindV k)
/-- roll, table as they stand -/
structure RT (K : PySem.W.Frag) (H : Hp) (a t : Addr) (ns : List Int) (ks : List Kd) (tv : List V) : Prop where
  ro : SqL K H a (ns.map V.int)
  ta : SqL K H t tv
  ki : LstOf H kindV tv ks
  w1 : ∀ k ∈ ks, 1 ≤ k.w
  nl : ns.length ≤ 1000
  kl : ks.length ≤ 100
theorem RT.same {K : PySem.W.Frag} {H H' : Hp} {a t : Addr} {ns : List Int} {ks : List Kd} {tv : List V} (e : Same H H') (h : RT K H a t ns ks tv) : RT K H' a t ns ks tv := ⟨e.seq h.ro, e.seq h.ta, h.ki.same e, h.w1, h.nl, h.kl⟩
def spLastKind (K : PySem.W.Frag) : Sp := fun vs H Q _ => ∃ (a t u : Addr) (ns : List Int) (ks : List Kd) (tv : List V) (e : Nat), vs = [.ref a, .ref t, .ref u, .int (e : Int)] ∧ RT K H a t ns ks tv ∧ SqL K H u ((hts ns ks ns.length).map V.int) ∧ 0 < e ∧ e ≤ ns.length ∧
  ∀ (v : V) (H' : Hp), Same H H' → KOpt H' v (lastK ns ks e) → Q v H'
def spToldC (K : PySem.W.Frag) : Sp := fun vs H Q _ => ∃ (a t u : Addr) (ns : List Int) (ks : List Kd) (tv : List V) (e : Nat), vs = [.ref a, .ref t, .ref u, .int (e : Int)] ∧ RT K H a t ns ks tv ∧ SqL K H u ((hts ns ks ns.length).map V.int) ∧ e ≤ ns.length ∧
  ∀ (r : Addr) (H' : Hp) (rv : List V), Same H H' → H r = none → H' r = some (.lst rv) → LstOf H' pieceV rv (rt ns ks e e).reverse → Q (.ref r) H'
def spBest (K : PySem.W.Frag) : Sp := fun vs H Q _ => ∃ (a t : Addr) (ns : List Int) (ks : List Kd) (tv : List V), vs = [.ref a, .ref t] ∧ RT K H a t ns ks tv ∧
  ∀ (p r : Addr) (H' : Hp) (rv : List V), Same H H' → H p = none → H r = none → H' p = some (.tup [.int (hAt ns ks ns.length), .ref r]) → H' r = some (.lst rv) → LstOf H' pieceV rv (rt ns ks ns.length ns.length).reverse → Q (.ref p) H'
def spToldL (K : PySem.W.Frag) : Sp := fun vs H Q _ => ∃ (a t : Addr) (ns : List Int) (ks : List Kd) (tv : List V) (e : Nat), vs = [.ref a, .ref t, .int (e : Int)] ∧ RT K H a t ns ks tv ∧ e ≤ ns.length ∧
  ∀ (r : Addr) (H' : Hp) (rv : List V), Same H H' → H r = none → H' r = some (.lst rv) → LstOf H' pieceV rv (rt ns ks e e).reverse → Q (.ref r) H'
def spIsCut (K : PySem.W.Frag) : Sp := fun vs H Q _ => ∃ (a : Addr) (tv : List V) (ps : List (Int × Str)), vs = [.ref a] ∧ H a = some (.lst tv) ∧ LstOf H pieceV tv ps ∧ Q (.bl true) H
def spRightB (K : PySem.W.Frag) : Sp := fun vs H Q _ => ∃ (p a t r : Addr) (ns : List Int) (ks : List Kd) (tv rv : List V), vs = [.ref p, .ref a, .ref t] ∧ RT K H a t ns ks tv ∧ (∀ k ∈ ks, PyData.strOk k.name = true) ∧ H p = some (.tup [.int (hAt ns ks ns.length), .ref r]) ∧ H r = some (.lst rv) ∧ LstOf H pieceV rv (rt ns ks ns.length ns.length).reverse ∧
  ∀ (H' : Hp), Same H H' → Q (.bl true) H'
theorem rt_len (ns : List Int) (ks : List Kd) : ∀ f e, (rt ns ks f e).length ≤ f
  | 0, _ => Nat.le_refl _
  | f + 1, e => by
    rw [rt]
    split
    · exact Nat.zero_le _
    · split
      · have := rt_len ns ks f (e - 1)
        omega
      · rename_i k _
        have := rt_len ns ks f ((e : Int) - k.w).toNat
        rw [List.length_cons]
        omega
theorem rt_ok {ns : List Int} {ks : List Kd} (h : ∀ k ∈ ks, PyData.strOk k.name = true) : ∀ f e, ∀ p ∈ rt ns ks f e, PyData.strOk p.2 = true
  | 0, _, p, hp => by simp [rt] at hp
  | f + 1, e, p, hp => by
    rw [rt] at hp
    split at hp
    · simp at hp
    · split at hp
      · exact rt_ok h f _ p hp
      · rename_i k hk
        rcases List.mem_cons.mp hp with rfl | hp
        · exact h k (lastK_in hk).1
        · exact rt_ok h f _ p hp
end Dr

/-! what prices show -/
open PySem PySem.Spec PyProof.Rows L2
namespace Dr
def undp (ns cs : List Int) (k : Kd) (p : Int) : Bool := good ns k p && decide (pre cs (p + k.w).toNat - pre cs p.toNat < k.wo)
def anyUnd (ns cs : List Int) (ks : List Kd) : Bool := ks.any fun k => ((List.range ns.length).map fun (p : Nat) => undp ns cs k (p : Int)).any id
def shownB (ns cs : List Int) (ks : List Kd) : Bool := decide (cs.length = ns.length) && (!((cs.map fun c => decide (c < 0)).any id) && !anyUnd ns cs ks)
theorem pre_all (cs : List Int) : pre cs cs.length = cs.sum := by
  unfold pre
  rw [List.take_length]
theorem any_take {α : Type} {ks : List α} {i : Nat} {k : α} (h : ks[i]? = some k) (g : α → Bool) : (ks.take (i + 1)).any g = ((ks.take i).any g || g k) := by
  rw [List.take_add_one, h, List.any_append]
  simp
theorem any_step {α : Type} {ks : List α} {i : Nat} {k : α} (h : ks[i]? = some k) {g : α → Bool} (h0 : (ks.take i).any g = false) (h1 : g k = false) : (ks.take (i + 1)).any g = false := by
  rw [any_take h, h0, h1]
  rfl
theorem any_hit {α : Type} {ks : List α} {i : Nat} {k : α} (h : ks[i]? = some k) {g : α → Bool} (h1 : g k = true) : ks.any g = true := List.any_eq_true.mpr ⟨k, List.mem_of_getElem? h, h1⟩
def spUnder (K : PySem.W.Frag) : Sp := fun vs H Q _ => ∃ (a c u : Addr) (ns cs : List Int) (kd : Kd) (p : Int), vs = [.ref a, .ref c, .ref u, .int p] ∧ SqL K H a (ns.map V.int) ∧ H c = some (.tup (kindV kd)) ∧ 1 ≤ kd.w ∧ SqL K H u (cs.map V.int) ∧ cs.length = ns.length ∧
  ∀ (H' : Hp), Same H H' → Q (.bl (undp ns cs kd p)) H'
def spShows (K : PySem.W.Frag) : Sp := fun vs H Q _ => ∃ (a t u : Addr) (ns cs : List Int) (ks : List Kd) (tv : List V) (N : Int), vs = [.ref a, .ref t, .int N, .ref u] ∧ SqL K H a (ns.map V.int) ∧ SqL K H t tv ∧ LstOf H kindV tv ks ∧ (∀ k ∈ ks, 1 ≤ k.w) ∧ ns.length ≤ 1000 ∧ cs.length ≤ 1000 ∧ SqL K H u (cs.map V.int) ∧
  ∀ (H' : Hp), Same H H' → Q (.bl (shownB ns cs ks && decide (cs.sum ≤ N))) H'
/-- None, or the sum -/
def spShownA (K : PySem.W.Frag) : Sp := fun vs H Q _ => ∃ (a t u : Addr) (ns cs : List Int) (ks : List Kd) (tv : List V), vs = [.ref a, .ref t, .ref u] ∧ SqL K H a (ns.map V.int) ∧ SqL K H t tv ∧ LstOf H kindV tv ks ∧ (∀ k ∈ ks, 1 ≤ k.w) ∧ ns.length ≤ 1000 ∧ cs.length ≤ 1000 ∧ SqL K H u (cs.map V.int) ∧
  ∀ (H' : Hp), Same H H' → Q (if shownB ns cs ks = true then .int cs.sum else .non) H'
/-- some ints, a new list -/
def spPaid (K : PySem.W.Frag) : Sp := fun vs H Q _ => ∃ (b a t : Addr) (xs ns : List Int) (ks : List Kd) (tv : List V), vs = [.ref b, .ref a, .ref t] ∧ Scr K H b xs ∧ H a = some (.lst (ns.map V.int)) ∧ SqL K H t tv ∧ LstOf H kindV tv ks ∧ (∀ k ∈ ks, 1 ≤ k.w) ∧ ns.length ≤ 200 ∧ ks.length ≤ 100 ∧
  ∀ (r : Addr) (H' : Hp) (ps : List Int), Same H H' → H r = none → H' r = some (.lst (ps.map V.int)) → ps.length = ns.length → Q (.ref r) H'
def spBent (K : PySem.W.Frag) : Sp := fun vs H Q _ => ∃ (a o : Addr) (ps os : List Int), vs = [.ref a, .ref o] ∧ H a = some (.lst (ps.map V.int)) ∧ ps.length ≤ 200 ∧ H o = some (.lst (os.map V.int)) ∧ Row [9, 200, 40, 6, 1000000000, 8] os ∧
  ∀ (r : Addr) (H' : Hp) (cs : List Int), Same H H' → H r = none → H' r = some (.lst (cs.map V.int)) → cs.length ≤ 201 → Q (.ref r) H'
def spRightS (K : PySem.W.Frag) : Sp := fun vs H Q _ => ∃ (a t u : Addr) (ns cs : List Int) (ks : List Kd) (tv : List V) (N : Int), vs = [.ref a, .ref t, .int N, .ref u] ∧ H a = some (.lst (ns.map V.int)) ∧ H t = some (.lst tv) ∧ LstOf H kindV tv ks ∧ (∀ k ∈ ks, 1 ≤ k.w) ∧ (∀ k ∈ ks, PyData.strOk k.name = true) ∧ ns.length ≤ 1000 ∧ cs.length ≤ 1000 ∧ H u = some (.lst (cs.map V.int)) ∧
  ∀ (H' : Hp), Same H H' → Q (.bl true) H'
theorem shaped_three {ws cs : List Int} {ks : List Kd} (h : ∀ k ∈ ks, PyData.strOk k.name = true) : SeqAt.shaped (.list [.list (ws.map PyData.int), .list (ks.map kindD), .list (cs.map PyData.int)]) = true := shaped_list fun d hd => by
  simp only [List.mem_cons, List.not_mem_nil, or_false] at hd
  have h1 := shaped_ints ws
  have h2 := shaped_kinds h
  have h3 := shaped_ints cs
  have hd1 : ∀ xs : List Int, PyData.depthAll (xs.map PyData.int) ≤ 1 := fun xs => depth_all fun d hd => by
    obtain ⟨i, _, e⟩ := List.mem_map.mp hd
    subst e
    exact Nat.zero_le _
  unfold SeqAt.shaped at h1 h2 h3
  simp only [Bool.and_eq_true, decide_eq_true_eq] at h1 h2 h3
  rcases hd with rfl | rfl | rfl
  · refine ⟨h1.1, ?_⟩
    have := hd1 ws
    simp only [PyData.depth]
    omega
  · refine ⟨h2.1, ?_⟩
    have : PyData.depthAll (ks.map kindD) ≤ 2 := depth_all fun d hd => by
      obtain ⟨k, _, e⟩ := List.mem_map.mp hd
      subst e
      simp [kindD, PyData.depth, PyData.depthAll]
    simp only [PyData.depth]
    omega
  · refine ⟨h3.1, ?_⟩
    have := hd1 cs
    simp only [PyData.depth]
    omega
theorem set_ints (xs : List Int) (j : Nat) (v : Int) : (xs.map V.int).set j (V.int v) = (xs.set j v).map V.int := by rw [List.map_set]
theorem ixN_of {n : Nat} {i : Int} {k : Nat} (e : i = (k : Int)) (h : k < n) : ixN n i = some k := by
  subst e
  unfold ixN
  rw [if_pos (by omega), if_pos (by omega), Int.toNat_natCast]
theorem ixN_neg {n : Nat} {i : Int} (h : i < 0) (h2 : 0 ≤ i + n) : ixN n i = some (i + n).toNat := by
  unfold ixN
  rw [if_neg (by omega)]
  first
    | rw [if_pos (by omega)]
    | rw [if_pos (by omega), Int.add_comm]
theorem atI_at {ms : List Int} {i : Int} {j : Nat} (e : ixN ms.length i = some j) (h : j < ms.length) : atI (ms.map V.int) i = some (.int (ms.getD j 0)) := by
  unfold atI
  rw [List.length_map, e]
  show (ms.map V.int)[j]? = _
  rw [List.getElem?_map, List.getElem?_eq_getElem h]
  simp [List.getD, h]
theorem ixN_lt {n : Nat} {i : Int} {j : Nat} (h : ixN n i = some j) : j < n := (ixN_seq h).2.1
theorem cut_from1 (xs : List Int) : ∃ ys : List Int, cutV (xs.map V.int) (some 1) none = ys.map V.int ∧ ys.length ≤ xs.length := by
  refine ⟨(xs.drop (HT.sIx xs.length 0 (some 1))).take (HT.sIx xs.length xs.length none - HT.sIx xs.length 0 (some 1)), ?_, ?_⟩
  · unfold cutV
    rw [List.length_map, List.map_take, List.map_drop]
  · rw [List.length_take, List.length_drop]
    omega
end Dr

/-! promises of defs that may refuse (k14) -/
open PySem PySem.Spec PyProof.Rows L2
namespace Dr
theorem log_ok {i : Int} (h1 : -(10 ^ 60) ≤ i) (h2 : i ≤ 10 ^ 60) : i.natAbs.log2 < 1920 := by
  by_cases z : i.natAbs = 0
  · rw [z]
    decide
  · have h : i.natAbs.log2 < 200 := (Nat.log2_lt z).mpr (by omega)
    omega
theorem len4 {σ : L2.St} (h : σ.length = 4) : ∃ a b c d, σ = [a, b, c, d] := by
  match σ, h with
  | [a, b, c, d], _ => exact ⟨a, b, c, d, rfl⟩
theorem getD_slice {os : List Int} {a n j : Nat} (h : j < n) : ((os.drop a).take n).getD j 0 = os.getD (a + j) 0 := by
  simp [List.getD, List.getElem?_take, h]
/-- within the roll -/
def inR (ns : List Int) (b e : Int) : Prop := 0 ≤ b ∧ b ≤ e ∧ e ≤ ns.length
instance (ns : List Int) (b e : Int) : Decidable (inR ns b e) := inferInstanceAs (Decidable (_ ∧ _))
def isC (ns : List Int) (i : Int) : Prop := 0 ≤ i ∧ i < ns.length
instance (ns : List Int) (i : Int) : Decidable (isC ns i) := inferInstanceAs (Decidable (_ ∧ _))
def Far (i : Int) : Prop := -(10 ^ 60) ≤ i ∧ i ≤ 10 ^ 60
def spSpoiltE (K : PySem.W.Frag) (C : Addr) : Sp := fun vs H Q E => ∃ (a : Addr) (ns : List Int) (b e : Int), vs = [.ref a, .int b, .int e] ∧ SqL K H a (ns.map V.int) ∧ Far b ∧ Far e ∧
  (inR ns b e → ∀ (H' : Hp), Same H H' → Q (.int (pre ns e.toNat - pre ns b.toNat)) H') ∧ (¬ inR ns b e → ∀ (H' : Hp), Same H H' → E (.ref C) none H')
def spChangedE (K : PySem.W.Frag) (C : Addr) : Sp := fun vs H Q E => ∃ (a : Addr) (ns : List Int) (i v : Int), vs = [.ref a, .int i, .int v] ∧ SqL K H a (ns.map V.int) ∧ Far i ∧
  (isC ns i → ∀ (r : Addr) (H' : Hp), Same H H' → H r = none → H' r = some (.lst ((ns.set i.toNat v).map V.int)) → Q (.ref r) H') ∧ (¬ isC ns i → ∀ (H' : Hp), Same H H' → E (.ref C) none H')
def spLSum (K : PySem.W.Frag) : Sp := fun vs H Q _ => ∃ (a : Addr) (ns : List Int) (b e : Int), vs = [.ref a, .int b, .int e] ∧ SqL K H a (ns.map V.int) ∧ Far b ∧ Far e ∧
  ∀ (p : Addr) (H' : Hp), Same H H' → (inR ns b e → H' p = some (.tup [.str "told", .int (pre ns e.toNat - pre ns b.toNat)])) → (¬ inR ns b e → H' p = some (.tup [.str "none", .int 0])) → Q (.ref p) H'
def spLOther (K : PySem.W.Frag) : Sp := fun vs H Q _ => ∃ (a : Addr) (ns : List Int) (i v : Int), vs = [.ref a, .int i, .int v] ∧ SqL K H a (ns.map V.int) ∧ Far i ∧
  ∀ (p r : Addr) (H' : Hp), Same H H' → H r = none → (isC ns i → H' p = some (.tup [.str "told", .ref r]) ∧ H' r = some (.lst ((ns.set i.toNat v).map V.int))) → (¬ isC ns i → H' p = some (.tup [.str "none", .int 0])) → Q (.ref p) H'
def spSumRight (K : PySem.W.Frag) : Sp := fun vs H Q _ => ∃ (a : Addr) (ns : List Int) (b e : Int), vs = [.ref a, .int b, .int e] ∧ SqL K H a (ns.map V.int) ∧ ns.length ≤ 1000 ∧ Far b ∧ Far e ∧ ∀ (H' : Hp), Same H H' → Q (.bl true) H'
def spOtherRight (K : PySem.W.Frag) : Sp := fun vs H Q _ => ∃ (a : Addr) (ns : List Int) (i v : Int), vs = [.ref a, .int i, .int v] ∧ SqL K H a (ns.map V.int) ∧ ns.length ≤ 1000 ∧ Far i ∧ ∀ (H' : Hp), Same H H' → Q (.bl true) H'
theorem set_parts {ns : List Int} {i : Nat} {v : Int} (h : i < ns.length) : ns.take i ++ [v] ++ ns.drop (i + 1) = ns.set i v := by
  rw [List.set_eq_take_append_cons_drop, if_pos h, List.append_assoc]
  rfl
theorem cut_drop {ns : List Int} {n : Nat} (h : n ≤ ns.length) : cutV (ns.map V.int) (some (n : Int)) none = (ns.drop n).map V.int := by
  unfold cutV
  rw [HT.sIx_none, HT.sIx_nat, List.length_map, Nat.min_eq_left h, List.map_drop, List.take_of_length_le (by simp)]
theorem shaped_word {s : Str} (xs : List Int) (h : PyData.strOk s = true) : SeqAt.shaped (.tuple [.str s, .list (xs.map PyData.int)]) = true := by
  have h1 := shaped_ints xs
  have hd1 : PyData.depthAll (xs.map PyData.int) ≤ 1 := depth_all fun d hd => by
    obtain ⟨i, _, e⟩ := List.mem_map.mp hd
    subst e
    exact Nat.zero_le _
  unfold SeqAt.shaped at h1 ⊢
  simp only [Bool.and_eq_true, decide_eq_true_eq] at h1 ⊢
  refine ⟨?_, ?_⟩
  · simp [PyData.canLay0, PyData.canLayAll0, h]
    have := h1.1
    simpa [PyData.canLay0] using this
  · simp only [PyData.depth, PyData.depthAll]
    omega
end Dr

/-! a roll turned about is worth as much -/
open PySem PySem.Spec PyProof.Rows L2
namespace Dr
theorem pre_drop (ns : List Int) (i : Nat) : (ns.drop i).sum = pre ns ns.length - pre ns i := by
  unfold pre
  rw [List.take_length]
  have h : (ns.take i ++ ns.drop i).sum = ns.sum := by rw [List.take_append_drop]
  rw [List.sum_append] at h
  omega
theorem pre_rev (ns : List Int) (i : Nat) : pre ns.reverse i = pre ns ns.length - pre ns (ns.length - i) := by
  rw [← pre_drop]
  unfold pre
  rw [List.take_reverse, List.sum_reverse]
theorem good_rev {ns : List Int} {k : Kd} {p : Int} (hw : 1 ≤ k.w) (h : good ns.reverse k p = true) : good ns k ((ns.length : Int) - p - k.w) = true := by
  have q := of_decide_eq_true h
  rw [List.length_reverse, pre_rev, pre_rev] at q
  refine decide_eq_true ⟨by omega, by omega, ?_⟩
  rw [show ((ns.length : Int) - p - k.w + k.w).toNat = ns.length - p.toNat by omega, show ((ns.length : Int) - p - k.w).toNat = ns.length - (p + k.w).toNat by omega]
  omega
theorem hAt_mono (ns : List Int) (ks : List Kd) (i : Nat) : ∀ j, i ≤ j → hAt ns ks i ≤ hAt ns ks j
  | 0, h => by
    have e : i = 0 := by omega
    rw [e]
    exact Int.le_refl _
  | j + 1, h => by
    by_cases e : i = j + 1
    · rw [e]
      exact Int.le_refl _
    · have h1 := hAt_mono ns ks i j (by omega)
      have h2 := hAt_up ns ks j
      omega
theorem rev_le {ns : List Int} {ks : List Kd} (hw : ∀ k ∈ ks, 1 ≤ k.w) : ∀ m i, i ≤ m → i ≤ ns.length → hAt ns.reverse ks i ≤ hAt ns ks ns.length - hAt ns ks (ns.length - i)
  | 0, i, h, _ => by
    have e : i = 0 := by omega
    subst e
    rw [Nat.sub_zero, Int.sub_self]
    exact Int.le_refl _
  | m + 1, i, h, hn => by
    by_cases c : i ≤ m
    · exact rev_le hw m i c hn
    · obtain ⟨j, rfl⟩ : ∃ j, i = j + 1 := ⟨i - 1, by omega⟩
      have ih := rev_le (ns := ns) hw m
      rw [hAt_succ]
      rcases fold_in ns.reverse (hts ns.reverse ks j) ks (lastD (hts ns.reverse ks j)) with q | ⟨k, hk, hg, q⟩
      · have e1 : topOf ns.reverse ks (hts ns.reverse ks j) = hAt ns.reverse ks j := q
        have h1 := ih j (by omega) (by omega)
        have h2 := hAt_mono ns ks (ns.length - (j + 1)) (ns.length - j) (by omega)
        rw [e1]
        omega
      · have hw1 := hw k hk
        have e1 : topOf ns.reverse ks (hts ns.reverse ks j) = valOf (hts ns.reverse ks j) k := q
        unfold endsAt at hg
        rw [hts_len] at hg
        have hgd := of_decide_eq_true hg
        have hg2 := good_rev hw1 hg
        have hp := paid hk hw1 hg2
        have e2 : valOf (hts ns.reverse ks j) k = hAt ns.reverse ks (((j + 1 : Nat) : Int) - k.w).toNat + k.wo := by
          unfold valOf
          rw [hts_len, hts_at _ _ _ _ (by omega)]
        have h1 := ih (((j + 1 : Nat) : Int) - k.w).toNat (by omega) (by omega)
        rw [show ((ns.length : Int) - (((j + 1 : Nat) : Int) - k.w) - k.w).toNat = ns.length - (j + 1) by omega, show ((ns.length : Int) - (((j + 1 : Nat) : Int) - k.w) - k.w + k.w).toNat = ns.length - (((j + 1 : Nat) : Int) - k.w).toNat by omega] at hp
        rw [e1, e2]
        omega
theorem hAt_rev {ns : List Int} {ks : List Kd} (hw : ∀ k ∈ ks, 1 ≤ k.w) : hAt ns.reverse ks ns.length = hAt ns ks ns.length := by
  have h1 := rev_le (ns := ns) hw ns.length ns.length (Nat.le_refl _) (Nat.le_refl _)
  have h2 := rev_le (ns := ns.reverse) hw ns.length ns.length (Nat.le_refl _) (by rw [List.length_reverse]; exact Nat.le_refl _)
  rw [List.reverse_reverse, List.length_reverse, Nat.sub_self] at h2
  rw [Nat.sub_self] at h1
  have z1 : hAt ns ks 0 = 0 := rfl
  have z2 : hAt ns.reverse ks 0 = 0 := rfl
  omega
theorem hAt_take {ns : List Int} {ks : List Kd} (hw : ∀ k ∈ ks, 1 ≤ k.w) {m : Nat} (h : m ≤ ns.length) : hAt (ns.take m) ks m = hAt ns ks m := by
  unfold hAt
  rw [hts_take h hw m (Nat.le_refl _)]
theorem hAt_tail {ns : List Int} {ks : List Kd} (hw : ∀ k ∈ ks, 1 ≤ k.w) {i : Nat} (h : i ≤ ns.length) : hAt (ns.drop i) ks (ns.length - i) = hAt ns.reverse ks (ns.length - i) := by
  have h1 := hAt_rev (ns := ns.drop i) hw
  have e : (ns.drop i).reverse = ns.reverse.take (ns.length - i) := by
    rw [List.take_reverse, show ns.length - (ns.length - i) = i by omega]
  rw [List.length_drop, e, hAt_take hw (by rw [List.length_reverse]; omega)] at h1
  exact h1.symm
end Dr
namespace Dr
def restAt (ns : List Int) (ks : List Kd) (i : Nat) : Int := hAt ns.reverse ks (ns.length - i)
theorem tail_at {ns : List Int} {ks : List Kd} {i : Nat} (h : i ≤ ns.length) : ((hts ns.reverse ks ns.length).reverse).getD i 0 = restAt ns ks i := by
  have hl := hts_len ns.reverse ks ns.length
  have e : ((hts ns.reverse ks ns.length).reverse).getD i 0 = (hts ns.reverse ks ns.length).getD (ns.length - i) 0 := by
    simp only [List.getD]
    rw [List.getElem?_reverse (by omega), hl, show ns.length + 1 - 1 - i = ns.length - i by omega]
  rw [e, hts_at _ _ _ _ (by omega)]
  rfl
def freeL (ns : List Int) (ks : List Kd) (m : Nat) : List Int := ((List.range m).filter fun i => decide (hAt ns ks i + restAt ns ks i = hAt ns ks ns.length)).map fun (i : Nat) => (i : Int)
theorem freeL_succ (ns : List Int) (ks : List Kd) (m : Nat) : freeL ns ks (m + 1) = freeL ns ks m ++ (if decide (hAt ns ks m + restAt ns ks m = hAt ns ks ns.length) = true then [(m : Int)] else []) := by
  unfold freeL
  rw [List.range_succ, List.filter_append, List.map_append]
  congr 1
  by_cases c : hAt ns ks m + restAt ns ks m = hAt ns ks ns.length
  · simp [c]
  · simp [c]
theorem freeL_len (ns : List Int) (ks : List Kd) (m : Nat) : (freeL ns ks m).length ≤ m := by
  unfold freeL
  rw [List.length_map]
  have := List.length_filter_le (fun i => decide (hAt ns ks i + restAt ns ks i = hAt ns ks ns.length)) (List.range m)
  rw [List.length_range] at this
  exact this
def spTurned (K : PySem.W.Frag) : Sp := fun vs H Q _ => ∃ (a : Addr) (ns : List Int), vs = [.ref a] ∧ SqL K H a (ns.map V.int) ∧ ∀ (r : Addr) (H' : Hp), Same H H' → H r = none → H' r = some (.lst (ns.reverse.map V.int)) → Q (.ref r) H'
def spTails (K : PySem.W.Frag) : Sp := fun vs H Q _ => ∃ (a t : Addr) (ns : List Int) (ks : List Kd) (tv : List V), vs = [.ref a, .ref t] ∧ RT K H a t ns ks tv ∧
  ∀ (r : Addr) (H' : Hp), Same H H' → H r = none → H' r = some (.lst ((hts ns.reverse ks ns.length).reverse.map V.int)) → Q (.ref r) H'
def lossAt (ns : List Int) (ks : List Kd) (i : Nat) : Int := hAt ns ks ns.length - hAt ns ks i - restAt ns ks i
def spPartLoss (K : PySem.W.Frag) (C : Addr) : Sp := fun vs H Q E => ∃ (a t : Addr) (ns : List Int) (ks : List Kd) (tv : List V) (p : Int), vs = [.ref a, .ref t, .int p] ∧ RT K H a t ns ks tv ∧ Far p ∧
  (0 ≤ p ∧ p ≤ ns.length → ∀ (H' : Hp), Same H H' → Q (.int (lossAt ns ks p.toNat)) H') ∧ (¬ (0 ≤ p ∧ p ≤ ns.length) → ∀ (H' : Hp), Same H H' → E (.ref C) none H')
def spFree (K : PySem.W.Frag) : Sp := fun vs H Q _ => ∃ (a t : Addr) (ns : List Int) (ks : List Kd) (tv : List V), vs = [.ref a, .ref t] ∧ RT K H a t ns ks tv ∧
  ∀ (r : Addr) (H' : Hp), Same H H' → H r = none → H' r = some (.lst ((freeL ns ks (ns.length + 1)).map V.int)) → Q (.ref r) H'
def spLost (K : PySem.W.Frag) : Sp := fun vs H Q _ => ∃ (a t u : Addr) (ns : List Int) (ks : List Kd) (tv : List V) (i : Nat), vs = [.ref a, .ref t, .int (i : Int), .ref u] ∧ RT K H a t ns ks tv ∧ i ≤ ns.length ∧ SqL K H u ((hts ns ks ns.length).map V.int) ∧
  ∀ (H' : Hp), Same H H' → Q (.int (lossAt ns ks i)) H'
def spRefused (K : PySem.W.Frag) : Sp := fun vs H Q _ => ∃ (a t : Addr) (ns : List Int) (ks : List Kd) (tv : List V) (p : Int), vs = [.ref a, .ref t, .int p] ∧ RT K H a t ns ks tv ∧ Far p ∧ ¬ (0 ≤ p ∧ p ≤ ns.length) ∧ ∀ (H' : Hp), Same H H' → Q (.bl true) H'
end Dr

set_option maxHeartbeats 4000000
open PySem PySem.Spec PyProof.Rows L2
local macro_rules | `(tactic| walk_at "lt0") => `(tactic| (first | (show CMul _ _; first | exact Or.inl ⟨by omega, by omega⟩ | exact Or.inr ⟨by omega, by omega⟩) | (show CDivL _ _; exact ⟨by omega, by omega⟩) | (show CPow _ _; exact ⟨by omega, by omega, by first | decide | omega⟩) | (show (0 : Int) < _; first | decide | omega)))
local macro_rules | `(tactic| walk_at "sq") => `(tactic| (first | assumption | exact SqL.of upd_same | exact Same.seq (by assumption) (by assumption) | exact SqL.of (by assumption)))
local macro_rules | `(tactic| walk_at "rd1") => `(tactic| (with_reducible first
  | refine rd_seq ?_ | refine rd_asg ?_ | refine rd_name ?_ | refine rd_ret ?_ | refine rd_drop ?_ | refine rd_if ?_ | refine rd_next ?_
  | refine rd_test ?_ | refine rd_tB ?_ | refine rd_bl ?_ | refine rd_tnot ?_ | refine rd_tor ?_ | refine rd_tand ?_ | refine rd_andV ?_ | refine rd_orV ?_ | refine rd_notV ?_
  | refine rd_c ?_ | refine rd_op ?_ | refine rd_un ?_ | refine rd_I0 ?_ | refine rd_U ?_ | refine rd_add ?_ | refine rd_eqI ?_ | refine rd_neI ?_ | refine rd_eqB ?_ | refine rd_neB ?_ | refine rd_eqS ?_ | refine rd_neS ?_
  | refine rd_nil ?_ | refine rd_cons ?_ | refine rd_cb ?_ | refine rd_lst ?_ | refine rd_tup ?_ | refine rd_call ?_ | refine rd_bm ?_
  | refine rd_sl ?_ | refine rd_nopart ?_ | refine rd_part ?_ | refine rd_int ?_ | refine rd_min2 ?_ | refine rd_rev ?_ | refine rd_gcons ?_ | refine rd_gnil ?_
  | refine rd_nx ?_ | refine rd_rt ?_ | refine rd_for ?_ | refine rd_ilist ?_ | refine rd_irng1 ?_ | refine rd_irng2 ?_ | refine rd_comp ?_ | refine rd_yes ?_ | refine rd_gsub ?_ | refine rd_bm0 ?_ | refine rd_raise ?_ | refine rd_itup ?_ | refine rd_js ?_ | refine rd_jcons ?_ | refine rd_jnil ?_ | refine rd_fv ?_ | refine rd_chain3 ?_ | refine rd_chain ?_ | refine rd_isA0 ?_ | refine rd_notA0 ?_ | refine rd_isAB ?_ | refine rd_notAB ?_ | refine rd_lrev ?_ | refine rd_max2 ?_ | refine rd_ipI ?_ | (refine rd_aug (v := ?vv) ?hv ?_; (case hv => with_unfolding_all exact rfl)) | (refine rd_tyL (xs := ?xx) ?hl ?_; (case hl => assumption))
  | (refine rd_var (v := ?vv) ?hv ?_; (case hv => with_unfolding_all exact rfl))
  | (refine rd_I ?hc ?_; (case hc => with_unfolding_all walk_at "lt0"))
  | (refine rd_mul ?hc ?_; (case hc => with_unfolding_all walk_at "lt0"))
  | (refine rd_lenL (ys := ?yy) ?hs ?_; (case hs => with_unfolding_all walk_at "sq"))))
local macro_rules | `(tactic| walk_at "rd") => `(tactic| repeat walk_at "rd1")

namespace K41
open PySem PySem.Spec PyProof.Rows L2 Dr
def top (i : Nat) : Stmt := PySem.Challenge.pw_selvage_k41_parting_loss.main.body.getD i (.Pass ⟨0, 0, 0, 0⟩)
abbrev sspoilt : Stmt := top 5
abbrev sturned : Stmt := top 6
abbrev sfits : Stmt := top 8
abbrev sending : Stmt := top 10
abbrev snext_top : Stmt := top 11
abbrev sheights : Stmt := top 12
abbrev stails : Stmt := top 13
abbrev sparting_loss : Stmt := top 15
abbrev sfree_places : Stmt := top 16
abbrev s_law_cell : Stmt := top 18
abbrev s_law_mix : Stmt := top 19
abbrev s_law_row : Stmt := top 20
abbrev s_law_table : Stmt := top 21
abbrev s_law_flaw : Stmt := top 22
abbrev s_law_roll : Stmt := top 23
abbrev s_law_drawn : Stmt := top 24
abbrev s_law_sums : Stmt := top 25
abbrev s_law_good : Stmt := top 26
abbrev s_law_heights : Stmt := top 27
abbrev s_law_is_whole : Stmt := top 28
abbrev s_law_lost : Stmt := top 29
abbrev s_law_refused : Stmt := top 30
abbrev s_law_free : Stmt := top 31
abbrev slaw : Stmt := top 32
theorem scspoilt : FnScope ["roll", "begin", "end"] ["roll", "begin", "end"] (defScope sspoilt) := ⟨rfl, rfl, rfl, by decide +kernel, rfl, by decide +kernel, by decide +kernel⟩
theorem scturned : FnScope ["roll"] ["roll"] (defScope sturned) := ⟨rfl, rfl, rfl, by decide +kernel, rfl, by decide +kernel, by decide +kernel⟩
theorem scfits : FnScope ["roll", "kind", "place", "end"] ["roll", "kind", "place"] (defScope sfits) := ⟨rfl, rfl, rfl, by decide +kernel, rfl, by decide +kernel, by decide +kernel⟩
theorem scending : FnScope ["roll", "table", "end"] ["roll", "table", "end"] (defScope sending) := ⟨rfl, rfl, rfl, by decide +kernel, rfl, by decide +kernel, by decide +kernel⟩
theorem scnext_top : FnScope ["roll", "table", "tops", "end", "worths"] ["roll", "table", "tops"] (defScope snext_top) := ⟨rfl, rfl, rfl, by decide +kernel, rfl, by decide +kernel, by decide +kernel⟩
theorem scheights : FnScope ["roll", "table", "tops"] ["roll", "table"] (defScope sheights) := ⟨rfl, rfl, rfl, by decide +kernel, rfl, by decide +kernel, by decide +kernel⟩
theorem sctails : FnScope ["roll", "table"] ["roll", "table"] (defScope stails) := ⟨rfl, rfl, rfl, by decide +kernel, rfl, by decide +kernel, by decide +kernel⟩
theorem scparting_loss : FnScope ["roll", "table", "place", "tops"] ["roll", "table", "place"] (defScope sparting_loss) := ⟨rfl, rfl, rfl, by decide +kernel, rfl, by decide +kernel, by decide +kernel⟩
theorem scfree_places : FnScope ["roll", "table", "tops", "rests"] ["roll", "table"] (defScope sfree_places) := ⟨rfl, rfl, rfl, by decide +kernel, rfl, by decide +kernel, by decide +kernel⟩
theorem sc_law_cell : FnScope ["_law_script", "_law_place", "_law_seed", "_law_cell_here"] ["_law_script", "_law_place"] (defScope s_law_cell) := ⟨rfl, rfl, rfl, by decide +kernel, rfl, by decide +kernel, by decide +kernel⟩
theorem sc_law_mix : FnScope ["_law_cell_here", "_law_k", "_law_one", "_law_two"] ["_law_cell_here", "_law_k"] (defScope s_law_mix) := ⟨rfl, rfl, rfl, by decide +kernel, rfl, by decide +kernel, by decide +kernel⟩
theorem sc_law_row : FnScope ["_law_script", "_law_place", "_law_sizes", "_law_cell_here", "_law_left", "_law_some", "_law_k", "_law_other"] ["_law_script", "_law_place", "_law_sizes"] (defScope s_law_row) := ⟨rfl, rfl, rfl, by decide +kernel, rfl, by decide +kernel, by decide +kernel⟩
theorem sc_law_table : FnScope ["_law_script", "_law_place", "_law_most", "_law_pool", "_law_some", "_law_flaw_here", "_law_gain", "_law_table_here", "_law_k", "_law_at", "_law_width", "_law_worth", "_law_allowed", "_law_name"] ["_law_script", "_law_place", "_law_most"] (defScope s_law_table) := ⟨rfl, rfl, rfl, by decide +kernel, rfl, by decide +kernel, by decide +kernel⟩
theorem sc_law_flaw : FnScope ["_law_script", "_law_place", "_law_most"] ["_law_script", "_law_place", "_law_most"] (defScope s_law_flaw) := ⟨rfl, rfl, rfl, by decide +kernel, rfl, by decide +kernel, by decide +kernel⟩
theorem sc_law_roll : FnScope ["_law_script", "_law_place", "_law_most", "_law_flaw_here", "_law_some", "_law_great", "_law_roll_here", "_law_k", "_law_at", "_law_weight"] ["_law_script", "_law_place", "_law_most", "_law_flaw_here"] (defScope s_law_roll) := ⟨rfl, rfl, rfl, by decide +kernel, rfl, by decide +kernel, by decide +kernel⟩
theorem sc_law_drawn : FnScope ["_law_script", "_law_place", "_law_most", "_law_kinds", "_law_flaw_here"] ["_law_script", "_law_place", "_law_most", "_law_kinds"] (defScope s_law_drawn) := ⟨rfl, rfl, rfl, by decide +kernel, rfl, by decide +kernel, by decide +kernel⟩
theorem sc_law_sums : FnScope ["_law_roll_here", "_law_sums_here", "_law_weight"] ["_law_roll_here"] (defScope s_law_sums) := ⟨rfl, rfl, rfl, by decide +kernel, rfl, by decide +kernel, by decide +kernel⟩
theorem sc_law_good : FnScope ["_law_sums_here", "_law_kind", "_law_at", "_law_end"] ["_law_sums_here", "_law_kind", "_law_at"] (defScope s_law_good) := ⟨rfl, rfl, rfl, by decide +kernel, rfl, by decide +kernel, by decide +kernel⟩
theorem sc_law_heights : FnScope ["_law_roll_here", "_law_table_here", "_law_sums_here", "_law_high", "_law_end", "_law_most", "_law_kind", "_law_at"] ["_law_roll_here", "_law_table_here"] (defScope s_law_heights) := ⟨rfl, rfl, rfl, by decide +kernel, rfl, by decide +kernel, by decide +kernel⟩
theorem sc_law_is_whole : FnScope ["_law_one"] ["_law_one"] (defScope s_law_is_whole) := ⟨rfl, rfl, rfl, by decide +kernel, rfl, by decide +kernel, by decide +kernel⟩
theorem sc_law_lost : FnScope ["_law_roll_here", "_law_table_here", "_law_at", "_law_high"] ["_law_roll_here", "_law_table_here", "_law_at", "_law_high"] (defScope s_law_lost) := ⟨rfl, rfl, rfl, by decide +kernel, rfl, by decide +kernel, by decide +kernel⟩
theorem sc_law_refused : FnScope ["_law_roll_here", "_law_table_here", "_law_place", "e"] ["_law_roll_here", "_law_table_here", "_law_place"] (defScope s_law_refused) := ⟨rfl, rfl, rfl, by decide +kernel, rfl, by decide +kernel, by decide +kernel⟩
theorem sc_law_free : FnScope ["_law_found", "_law_due", "_law_one"] ["_law_found", "_law_due"] (defScope s_law_free) := ⟨rfl, rfl, rfl, by decide +kernel, rfl, by decide +kernel, by decide +kernel⟩
theorem sclaw : FnScope ["_law_script", "_law_some", "_law_most", "_law_roll_here", "_law_table_here", "_law_handed", "_law_high", "_law_places", "_law_at", "_law_found", "_law_back_high", "_law_due"] ["_law_script"] (defScope slaw) := ⟨rfl, rfl, rfl, by decide +kernel, rfl, by decide +kernel, by decide +kernel⟩
structure Txt (mg : Str → Option Value) (K : PySem.W.Frag) (cCutError cNoPlace cNoParting : Addr) : Prop where
  sum : mg "sum" = none
  len : mg "len" = none
  list : mg "list" = none
  reversed : mg "reversed" = none
  max : mg "max" = none
  range : mg "range" = none
  min : mg "min" = none
  isinstance : mg "isinstance" = none
  int : mg "int" = none
  bool : mg "bool" = none
  mCutError : mg "CutError" = some (.ref cCutError)
  eCutError : ErrIn K cCutError
  mNoPlace : mg "NoPlace" = some (.ref cNoPlace)
  eNoPlace : ErrIn K cNoPlace
  mNoParting : mg "NoParting" = some (.ref cNoParting)
  eNoParting : ErrIn K cNoParting
  sCutError_NoPlace : PySem.W.subIn K (.ref cCutError) (.ref cNoPlace) = some false
  sCutError_NoParting : PySem.W.subIn K (.ref cCutError) (.ref cNoParting) = some false
  sNoPlace_CutError : PySem.W.subIn K (.ref cNoPlace) (.ref cCutError) = some true
  sNoPlace_NoParting : PySem.W.subIn K (.ref cNoPlace) (.ref cNoParting) = some false
  sNoParting_CutError : PySem.W.subIn K (.ref cNoParting) (.ref cCutError) = some true
  sNoParting_NoPlace : PySem.W.subIn K (.ref cNoParting) (.ref cNoPlace) = some false
def spLaw (K : PySem.W.Frag) : Sp := fun vs H Q _ => ∃ (a : Addr) (ns : List Int), vs = [.ref a] ∧ Scr K H a ns ∧ ∀ H', Q (.bl true) H'
section
variable {P : Program} {w : World} {K : PySem.W.Frag} {mg : Str → Option Value} {base : Heap} {f : Addr} {fd : FuncData} {cCutError cNoPlace cNoParting : Addr}
theorem okspoilt (F : Fun K "spoilt" "spoilt" sspoilt f fd) (T : Txt mg K cCutError cNoPlace cNoParting) : FnOk P w K mg base CX0 7 f fd ["roll", "begin", "end"] (spSpoilt K) := by
  refine F.okQ scspoilt (fun vs H Q E h => ?_) (fun cdv A outer s H vs Q E hr h => ?_)
  · obtain ⟨a, ns, b, e, rfl, _⟩ := h
    rfl
  obtain ⟨a, ns, b, e, rfl, hS, h0, h1, h2, q⟩ := h
  have sc := scspoilt
  refine ⟨_, (qss_cons (qs_if (qt_w (qw_or (qt_cmpR (op_lt) (qv 1) qe_int (nomark _)) (qw_or (qt_cmpR (op_gt) (qv 2) (qe_callB (call_lenA) rfl T.len PySem.boot_len (qa_cons (qv 0) qa_nil star_name) (he := star_name)) (nomark _)) (qw_or1 (qt_cmpR (op_gt) (qv 1) (qv 2) (nomark _))))))
        (qss_one qs_never)
        qss_nil)
      (qss_one (qs_ret (qe_callB (call_sum rfl) rfl T.sum PyProof.Rows.boot_sum (qa_cons (qe_slice sl_list (qv 0) (qo_some (qv 1)) (qo_some (qv 2))) qa_nil star_sub) (he := star_sub))))), ?_⟩
  walk_at "rd"
  refine iteN (by omega) ?_
  walk_at "rd"
  refine iteN (by rw [List.length_map]; omega) ?_
  walk_at "rd"
  refine iteN (by omega) ?_
  walk_at "rd"
  refine rd_slL hS fun p hp => ?_
  walk_at "rd"
  refine rd_sum (ns := (ns.drop b.toNat).take (e.toNat - b.toNat)) (by rw [← cut_map h0 h1 h2]; exact SqL.of upd_same) ?_
  rw [pre_cut _ _ _ (by omega)]
  exact q _ (same_new hp _)
theorem okfits (F : Fun K "fits" "fits" sfits f fd) (T : Txt mg K cCutError cNoPlace cNoParting) (Dspoilt : Def P w K mg base CX0 7 "spoilt" ["roll", "begin", "end"] (spSpoilt K)) : FnOk P w K mg base CX0 8 f fd ["roll", "kind", "place"] (spFits K) := by
  refine F.okQ scfits (fun vs H Q E h => ?_) (fun cdv A outer s H vs Q E hr h => ?_)
  · obtain ⟨a, c, ns, kd, p, rfl, _⟩ := h
    rfl
  obtain ⟨a, c, ns, kd, p, rfl, hS, hk, w1, q⟩ := h
  have sc := scfits
  refine ⟨_, (qss_cons (qs_set (i := 3) sc.nd rfl (Or.inl rfl) (qe_op op_addA (qv 2) (qe_ix ix_seq (qv 1) qe_int plain_const)))
      (qss_cons (qs_if (qt_w (qw_or (qt_cmpR (op_lt) (qv 2) qe_int (nomark _)) (qw_or1 (qt_cmpR (op_gt) (qv 3) (qe_callB (call_lenA) rfl T.len PySem.boot_len (qa_cons (qv 0) qa_nil star_name) (he := star_name)) (nomark _)))))
        (qss_one (qs_ret qe_bl))
        qss_nil)
      (qss_one (qs_ret (qe_cmpR (op_le) (qe_callD Dspoilt (hr.mono (by decide)) rfl pass0 (qa_cons (qv 0) (qa_cons (qv 2) (qa_cons (qv 3) qa_nil star_name) star_name) star_name) (he := star_name)) (qe_ix ix_seq (qv 1) qe_int plain_const) (nomark _)))))), ?_⟩
  walk_at "rd"
  refine rd_ixT (SqT.of hk) rfl ?_
  walk_at "rd"
  refine ite2 (fun c1 => ?_) (fun c1 => ?_)
  · have c1' := of_decide_eq_true c1
    walk_at "rd"
    refine iteT ?_
    walk_at "rd"
    have e : good ns kd p = false := decide_eq_false (by omega)
    rw [← e]
    exact q _ (Same.refl _)
  · have c1' := of_decide_eq_false (Bool.eq_false_iff.mpr c1)
    walk_at "rd"
    refine ite2 (fun c2 => ?_) (fun c2 => ?_)
    · have c2' := of_decide_eq_true c2
      rw [List.length_map] at c2'
      walk_at "rd"
      have e : good ns kd p = false := decide_eq_false (by omega)
      rw [← e]
      exact q _ (Same.refl _)
    · have c2' := of_decide_eq_false (Bool.eq_false_iff.mpr c2)
      rw [List.length_map] at c2'
      walk_at "rd"
      refine ⟨a, ns, p, p + kd.w, rfl, hS, by omega, by omega, by omega, fun H1 g1 => ?_⟩
      walk_at "rd"
      refine rd_ixT (SqT.of (g1 _ _ hk)) rfl ?_
      walk_at "rd"
      have e : good ns kd p = decide (pre ns (p + kd.w).toNat - pre ns p.toNat ≤ kd.al) := by
        unfold good
        by_cases z : pre ns (p + kd.w).toNat - pre ns p.toNat ≤ kd.al
        · rw [decide_eq_true z]
          exact decide_eq_true ⟨by omega, by omega, z⟩
        · rw [decide_eq_false z]
          exact decide_eq_false fun y => z y.2.2
      rw [← e]
      exact q _ g1

theorem okending (F : Fun K "ending" "ending" sending f fd) (T : Txt mg K cCutError cNoPlace cNoParting) (Dfits : Def P w K mg base CX0 8 "fits" ["roll", "kind", "place"] (spFits K)) : FnOk P w K mg base CX0 9 f fd ["roll", "table", "end"] (spEnding K) := by
  refine F.okQ scending (fun vs H Q E h => ?_) (fun cdv A outer s H vs Q E hr h => ?_)
  · obtain ⟨a, t, ns, ks, tv, e, rfl, _⟩ := h
    rfl
  obtain ⟨a, t, ns, ks, tv, e, rfl, hS, hT, hL, hw, hkl, q⟩ := h
  have sc := scending
  refine ⟨_, (qss_one (qs_ret (qe_comp (defScope sending) ["roll", "table", "end"] ["roll", "table", "end"] ⟨rfl, by decide +kernel, by decide +kernel, rfl, by decide +kernel, by decide +kernel, by decide +kernel, by decide +kernel, rfl, by decide +kernel⟩ (qi_list (qv 1)) (fun _ _ _ _ _ => qif_one (qt_val (qe_callD Dfits (hr.mono (by decide)) rfl pass0 (qa_cons (qv 0 (hv := Or.inr (Or.inl rfl))) (qa_cons (qv 3 (hv := Or.inl rfl)) (qa_cons (qe_op op_sub (qv 2 (hv := Or.inr (Or.inl rfl))) (qe_ix (r := rIx K) ix_seq (qv 3 (hv := Or.inl rfl)) qe_int plain_const)) qa_nil star_bin) star_name) star_name) (he := star_name)))) (fun _ _ _ _ _ => qv 3 (hv := Or.inl rfl))))), ?_⟩
  walk_at "rd"
  refine rd_forL hT ?_
  intro D hD
  refine comp_list (K := K) (a := t) (xs := tv) (fun i H2 => ∃ (rv : List V), Same H H2 ∧ H2 D = some (.lst rv) ∧ LstOf H2 kindV rv ((ks.take i).filter fun k => good ns k (e - k.w)))
    ⟨[], same_new hD _, upd_same, Paired.nil⟩ (fun _ _ ⟨_, g, _⟩ => g.seq hT) ?_ ?_
  · rintro i x H2 hx ⟨rv, g2, hD2, hL2⟩
    obtain ⟨kd, hkd, p, rfl, hp⟩ := hL.get hx
    have hkm := List.mem_of_getElem? hkd
    have hlen : rv.length < sizeLine := by
      have h1 := hL2.len
      have h3 := List.length_filter_le (fun k => good ns k (e - k.w)) (ks.take i)
      have h4 : (ks.take i).length ≤ ks.length := by rw [List.length_take]; omega
      rw [sizeLine_eq]
      omega
    walk_at "rd"
    refine rd_ixT (SqT.of (g2 _ _ hp)) rfl ?_
    walk_at "rd"
    refine ⟨a, p, ns, kd, e - kd.w, rfl, g2.seq hS, g2 _ _ hp, hw kd hkm, fun H4 g4 => ?_⟩
    have hD4 := g4 _ _ hD2
    walk_at "rd"
    refine ite2 (fun c => ?_) (fun c => ?_)
    · walk_at "rd"
      refine ⟨rv, hD4, hlen, rv ++ [.ref p], same_upd (g2.trans g4) hD _, upd_same, ?_⟩
      rw [filt_take hkd, if_pos c]
      exact (hL2.same g4).snoc (x := kd) hD4 ((g2.trans g4) _ _ hp)
    · refine ⟨rv, g2.trans g4, hD4, ?_⟩
      rw [filt_take hkd, if_neg c, List.append_nil]
      exact hL2.same g4
  · rintro H2 ⟨rv, g2, hD2, hL2⟩
    rw [hL.len, List.take_length] at hL2
    exact q D H2 rv g2 hD hD2 hL2
theorem oknext_top (F : Fun K "next_top" "next_top" snext_top f fd) (T : Txt mg K cCutError cNoPlace cNoParting) (Dending : Def P w K mg base CX0 9 "ending" ["roll", "table", "end"] (spEnding K)) : FnOk P w K mg base CX0 10 f fd ["roll", "table", "tops"] (spTop K) := by
  refine F.okQ scnext_top (fun vs H Q E h => ?_) (fun cdv A outer s H vs Q E hr h => ?_)
  · obtain ⟨a, t, u, ns, ks, tv, tops, rfl, _⟩ := h
    rfl
  obtain ⟨a, t, u, ns, ks, tv, tops, rfl, hS, hT, hL, hw, hkl, hU, hne, q⟩ := h
  have sc := scnext_top
  refine ⟨_, (qss_cons (qs_set (i := 3) sc.nd rfl (Or.inr rfl) (qe_callB (call_lenA) rfl T.len PySem.boot_len (qa_cons (qv 2) qa_nil star_name) (he := star_name)))
      (qss_cons (qs_comp (i := 4) (defScope snext_top) ["roll", "table", "tops", "end", "worths"] ["roll", "table", "tops", "end", "worths"] ⟨rfl, by decide +kernel, by decide +kernel, rfl, by decide +kernel, by decide +kernel, by decide +kernel, by decide +kernel, rfl, by decide +kernel⟩ rfl rfl (qi_list (qe_callD Dending (hr.mono (by decide)) rfl pass0 (qa_cons (qv 0) (qa_cons (qv 1) (qa_cons (qv 3) qa_nil star_name) star_name) star_name) (he := star_name))) (fun _ _ _ _ _ => qif_nil) (fun _ _ _ _ _ => qe_op op_addA (qe_ix (r := rIx K) ix_seq (qv 2 (hv := Or.inr (Or.inl rfl))) (qe_op op_sub (qv 3 (hv := Or.inr (Or.inl rfl))) (qe_ix (r := rIx K) ix_seq (qv 5 (hv := Or.inl rfl)) qe_int plain_const)) plain_bin) (qe_ix (r := rIx K) ix_seq (qv 5 (hv := Or.inl rfl)) qe_int plain_const)))
      (qss_one (qs_ret (qe_callB (call_maxA rfl) rfl T.max PyProof.Rows.boot_max (qa_cons (qe_op op_addA (qe_lst (qa_cons (qe_ix ix_seq (qv 2) (qe_un un_neg qe_int) plain_un) qa_nil star_sub)) (qv 4)) qa_nil star_bin) (he := star_bin)))))), ?_⟩
  walk_at "rd"
  rw [List.length_map]
  refine ⟨a, t, ns, ks, tv, (tops.length : Int), rfl, hS, hT, hL, hw, hkl, fun r H1 rv g1 hr1 hr2 hLr => ?_⟩
  have hU1 := g1.seq hU
  refine rd_forL (SqL.of hr2) ?_
  intro D hD
  have hlr := hLr.len
  have hfl : (ks.filter (endsAt ns tops)).length ≤ ks.length := List.length_filter_le _ _
  refine comp_list (K := K) (a := r) (xs := rv) (fun i H2 => Same H1 H2 ∧ H2 D = some (.lst ((((ks.filter (endsAt ns tops)).take i).map (valOf tops)).map V.int)))
    ⟨same_new hD _, by rw [upd_same]; simp⟩ (fun _ _ ⟨g, _⟩ => SqL.of (g _ _ hr2)) ?_ ?_
  · rintro i x H2 hx ⟨g2, hD2⟩
    obtain ⟨kd, hkd, p, rfl, hp⟩ := hLr.get hx
    have hkm := List.mem_filter.mp (List.mem_of_getElem? hkd)
    have hgd := of_decide_eq_true hkm.2
    have hw1 := hw kd hkm.1
    have hp2 := SqT.of (K := K) (g2 _ _ hp)
    walk_at "rd"
    refine iteT ?_
    walk_at "rd"
    refine rd_ixT hp2 rfl ?_
    walk_at "rd"
    refine rd_ixL (g2.seq hU1) (atI_of (k := ((tops.length : Int) - kd.w).toNat) (by omega) (by omega)) ?_
    walk_at "rd"
    refine rd_ixT hp2 rfl ?_
    walk_at "rd"
    refine ⟨_, hD2, by rw [List.length_map, List.length_map, List.length_take, sizeLine_eq]; omega, same_upd g2 hD _, ?_⟩
    have e1 : (ks.filter (endsAt ns tops))[i]? = some kd := hkd
    rw [upd_same, List.take_add_one, e1, List.map_append, List.map_append]
    rfl
  · rintro H2 ⟨g2, hD2⟩
    have hU2 := g2.seq hU1
    have e2 : (ks.filter (endsAt ns tops)).take rv.length = ks.filter (endsAt ns tops) := List.take_of_length_le (by rw [hlr]; exact Nat.le_refl _)
    rw [e2] at hD2
    walk_at "rd"
    refine rd_ixL hU2 (atI_lastD hne) ?_
    walk_at "rd"
    refine ⟨small (by simp), fun p3 hp3 => ?_⟩
    have g3 := same_new hp3 (.lst [V.int (lastD tops)])
    walk_at "rd"
    refine rd_cat upd_same (g3 _ _ hD2) (small (by rw [List.length_map, List.length_map]; simp only [List.length_cons, List.length_nil]; have : (ks.filter (endsAt ns tops)).length ≤ ks.length := List.length_filter_le _ _; omega)) fun p4 hp4 => ?_
    have g4 := same_new hp4 (.lst ([V.int (lastD tops)] ++ ((ks.filter (endsAt ns tops)).map (valOf tops)).map V.int))
    walk_at "rd"
    refine rd_maxL (ns := lastD tops :: (ks.filter (endsAt ns tops)).map (valOf tops)) (SqL.of upd_same) (by simp) fun m h1 h2 => ?_
    rw [topOf_is h1 h2]
    exact q _ (g1.trans (g2.trans (g3.trans g4)))
theorem okheights (F : Fun K "heights" "heights" sheights f fd) (T : Txt mg K cCutError cNoPlace cNoParting) (Dnext_top : Def P w K mg base CX0 10 "next_top" ["roll", "table", "tops"] (spTop K)) : FnOk P w K mg base CX0 11 f fd ["roll", "table"] (spHts K) := by
  refine F.okQ scheights (fun vs H Q E h => ?_) (fun cdv A outer s H vs Q E hr h => ?_)
  · obtain ⟨a, t, ns, ks, tv, rfl, _⟩ := h
    rfl
  obtain ⟨a, t, ns, ks, tv, rfl, hS, hT, hL, hw, hnl, hkl, q⟩ := h
  have sc := scheights
  refine ⟨_, (qss_cons (qs_set (i := 2) sc.nd rfl (Or.inl rfl) (qe_lst (qa_cons qe_int qa_nil star_const)))
      (qss_cons (qs_while PassesOwn.never (qt_cmpR (op_le) (qe_callB (call_lenA) rfl T.len PySem.boot_len (qa_cons (qv 2) qa_nil star_name) (he := star_name)) (qe_callB (call_lenA) rfl T.len PySem.boot_len (qa_cons (qv 0) qa_nil star_name) (he := star_name)) (nomark _))
        (qss_one (qs_expr (qe_bm PySem.F.plainAttrs_list PySem.F.slot_list_append PySem.F.type_list_append mt_append (qv 2) (qa_cons (qe_callD Dnext_top (hr.mono (by decide)) rfl pass0 (qa_cons (qv 0) (qa_cons (qv 1) (qa_cons (qv 2) qa_nil star_name) star_name) star_name) (he := star_name)) qa_nil star_call) (hs := star_call)))))
      (qss_one (qs_ret (qv 2))))), ?_⟩
  walk_at "rd"
  refine ⟨small (by simp), fun r hr1 => ?_⟩
  have g1 := same_new hr1 (.lst [V.int 0])
  walk_at "rd"
  refine while_m (fun m σ H2 => ∃ (j : Nat), j ≤ ns.length ∧ m = ns.length - j ∧ σ = [some (.ref a), some (.ref t), some (.ref r)] ∧ Same H H2 ∧ H2 r = some (.lst ((hts ns ks j).map V.int))) ns.length
    ⟨0, Nat.zero_le _, by omega, rfl, g1, upd_same⟩ ?_
  rintro m σ H2 ⟨j, hj, rfl, rfl, g2, hr2⟩
  have hS2 := g2.seq hS
  walk_at "rd"
  rw [List.length_map, List.length_map, hts_len]
  refine ite2 (fun c => ?_) (fun c => ?_)
  · have c' := of_decide_eq_true c
    refine ⟨fun σ' H' => σ' = [some (.ref a), some (.ref t), some (.ref r)] ∧ Same H H' ∧ H' r = some (.lst ((hts ns ks (j + 1)).map V.int)), fun σ' H' ⟨e, g, h'⟩ => ⟨ns.length - (j + 1), by omega, j + 1, by omega, rfl, e, g, h'⟩, ?_⟩
    walk_at "rd"
    refine ⟨a, t, r, ns, ks, tv, hts ns ks j, rfl, hS2, g2.seq hT, hL.same g2, hw, hkl, SqL.of hr2, hts_ne _ _ _, fun H3 g3 => ?_⟩
    walk_at "rd"
    refine rd_app (g3 _ _ hr2) (small1000 (by rw [List.length_map, hts_len]; omega)) ?_
    refine ⟨rfl, same_upd (g2.trans g3) hr1 _, ?_⟩
    rw [upd_same, hts, List.map_append]
    rfl
  · have c' := of_decide_eq_false (Bool.eq_false_iff.mpr c)
    have e : j = ns.length := by omega
    subst e
    walk_at "rd"
    exact q r H2 g2 hr1 hr2

theorem okturned (F : Fun K "turned" "turned" sturned f fd) (T : Txt mg K cCutError cNoPlace cNoParting) : FnOk P w K mg base CX0 7 f fd ["roll"] (spTurned K) := by
  refine F.okQ scturned (fun vs H Q E h => ?_) (fun cdv A outer s H vs Q E hr h => ?_)
  · obtain ⟨a, ns, rfl, _⟩ := h
    rfl
  obtain ⟨a, ns, rfl, hS, q⟩ := h
  have sc := scturned
  refine ⟨_, (qss_one (qs_ret (qe_lrev rfl T.list rfl T.reversed (qv 0) star_name))), ?_⟩
  walk_at "rd"
  refine rd_lrev1 hS fun p hp => ?_
  rw [← List.map_reverse]
  exact q p _ (same_new hp _) hp upd_same
theorem oktails (F : Fun K "tails" "tails" stails f fd) (T : Txt mg K cCutError cNoPlace cNoParting) (Dheights : Def P w K mg base CX0 11 "heights" ["roll", "table"] (spHts K)) (Dturned : Def P w K mg base CX0 7 "turned" ["roll"] (spTurned K)) : FnOk P w K mg base CX0 12 f fd ["roll", "table"] (spTails K) := by
  refine F.okQ sctails (fun vs H Q E h => ?_) (fun cdv A outer s H vs Q E hr h => ?_)
  · obtain ⟨a, t, ns, ks, tv, rfl, _⟩ := h
    rfl
  obtain ⟨a, t, ns, ks, tv, rfl, hR, q⟩ := h
  have sc := sctails
  refine ⟨_, (qss_one (qs_ret (qe_lrev rfl T.list rfl T.reversed (qe_callD Dheights (hr.mono (by decide)) rfl pass0 (qa_cons (qe_callD Dturned (hr.mono (by decide)) rfl pass0 (qa_cons (qv 0) qa_nil star_name) (he := star_name)) (qa_cons (qv 1) qa_nil star_name) star_call) (he := star_call)) star_call))), ?_⟩
  walk_at "rd"
  refine ⟨a, ns, rfl, hR.ro, fun r H1 g1 hr1 hr2 => ?_⟩
  have hR1 := hR.same g1
  walk_at "rd"
  refine ⟨r, t, ns.reverse, ks, tv, rfl, SqL.of hr2, hR1.ta, hR1.ki, hR1.w1, by rw [List.length_reverse]; exact hR.nl, hR.kl, fun u H2 g2 hu1 hu2 => ?_⟩
  rw [List.length_reverse] at hu2
  refine rd_lrev1 (SqL.of hu2) fun p hp => ?_
  rw [← List.map_reverse]
  exact q p _ (g1.trans (g2.trans (same_new hp _))) ((g1.trans g2).free hp) upd_same

theorem okparting_loss (F : Fun K "parting_loss" "parting_loss" sparting_loss f fd) (T : Txt mg K cCutError cNoPlace cNoParting) (Dheights : Def P w K mg base CX0 11 "heights" ["roll", "table"] (spHts K)) (Dtails : Def P w K mg base CX0 12 "tails" ["roll", "table"] (spTails K)) : FnOk P w K mg base (CXE P w) 13 f fd ["roll", "table", "place"] (spPartLoss K cNoPlace) := by
  refine F.okEQ scparting_loss (fun vs H Q E h => ?_) (fun cdv A outer s H vs Q E hr h => ?_)
  · obtain ⟨a, t, ns, ks, tv, p, rfl, _⟩ := h
    rfl
  obtain ⟨a, t, ns, ks, tv, p, rfl, hR, fp, q, qe⟩ := h
  have sc := scparting_loss
  have hro := hR.ro
  have no : ¬ (0 ≤ p ∧ p ≤ ns.length) → ∀ σ D, tRaise (.ref cNoPlace) E (tCons (tJs (jCons (tC (.str "no parting at the place ")) (jCons (tFv (tVar 2)) jNil))) tNil) D (some (.ref a) :: some (.ref t) :: some (.int p) :: σ) H := fun hn σ D => by
    walk_at "rd"
    refine rd_jstr (by decide) ?_
    walk_at "rd"
    refine ⟨log_ok fp.1 fp.2, fun y hy => ?_⟩
    walk_at "rd"
    refine rd_jstr hy ?_
    walk_at "rd"
    intro z
    walk_at "rd"
    exact ⟨small (by simp), qe hn _ (Same.refl _)⟩
  refine ⟨_, (qss_cons (qs_if (qt_not (qt_chain (op_le) (op_le) qe_int (qv 2) (qe_callB (call_lenA) rfl T.len PySem.boot_len (qa_cons (qv 0) qa_nil star_name) (he := star_name))))
        (qss_one (qs_raise T.eNoPlace.exc T.mNoPlace (qa_cons (qe_js (qj_cons qe_str (qj_cons (qe_fv (qv 2)) qj_nil))) qa_nil star_js) (he := star_js)))
        qss_nil)
      (qss_cons (qs_set (i := 3) sc.nd rfl (Or.inl rfl) (qe_callD Dheights (hr.mono (by decide)) rfl pass0 (qa_cons (qv 0) (qa_cons (qv 1) qa_nil star_name) star_name) (he := star_name)))
      (qss_one (qs_ret (qe_op op_sub (qe_op op_sub (qe_ix ix_seq (qv 3) (qe_un un_neg qe_int) plain_un) (qe_ix ix_seq (qv 3) (qv 2) plain_name)) (qe_ix ix_seq (qe_callD Dtails (hr.mono (by decide)) rfl pass0 (qa_cons (qv 0) (qa_cons (qv 1) qa_nil star_name) star_name) (he := star_name)) (qv 2) plain_name)))))), ?_⟩
  walk_at "rd"
  refine ite2 (fun c1 => ?_) (fun c1 => ?_)
  · have c1' := of_decide_eq_true c1
    walk_at "rd"
    rw [List.length_map]
    by_cases c2 : p ≤ (ns.length : Int)
    · rw [decide_eq_true c2]
      refine iteF ?_
      walk_at "rd"
      refine ⟨a, t, ns, ks, tv, rfl, hR.ro, hR.ta, hR.ki, hR.w1, hR.nl, hR.kl, fun u H1 g1 hu1 hu2 => ?_⟩
      walk_at "rd"
      refine rd_ixL (SqL.of hu2) (atI_lastD (hts_ne _ _ _)) ?_
      walk_at "rd"
      refine rd_ixL (SqL.of hu2) (atI_of (k := p.toNat) (by omega) (by rw [hts_len]; omega)) ?_
      walk_at "rd"
      refine ⟨a, t, ns, ks, tv, rfl, hR.same g1, fun r H2 g2 hr1 hr2 => ?_⟩
      walk_at "rd"
      refine rd_ixL (SqL.of hr2) (atI_of (k := p.toNat) (by omega) (by rw [List.length_reverse, hts_len]; omega)) ?_
      walk_at "rd"
      rw [tail_at (by omega), hts_at _ _ _ _ (by omega)]
      exact q ⟨c1', c2⟩ _ (g1.trans g2)
    · rw [decide_eq_false c2]
      refine iteT ?_
      exact no (fun z => c2 z.2) _ _
  · have c1' := of_decide_eq_false (Bool.eq_false_iff.mpr c1)
    walk_at "rd"
    refine iteT ?_
    exact no (fun z => c1' z.1) _ _
theorem okfree_places (F : Fun K "free_places" "free_places" sfree_places f fd) (T : Txt mg K cCutError cNoPlace cNoParting) (Dheights : Def P w K mg base CX0 11 "heights" ["roll", "table"] (spHts K)) (Dtails : Def P w K mg base CX0 12 "tails" ["roll", "table"] (spTails K)) : FnOk P w K mg base CX0 13 f fd ["roll", "table"] (spFree K) := by
  refine F.okQ scfree_places (fun vs H Q E h => ?_) (fun cdv A outer s H vs Q E hr h => ?_)
  · obtain ⟨a, t, ns, ks, tv, rfl, _⟩ := h
    rfl
  obtain ⟨a, t, ns, ks, tv, rfl, hR, q⟩ := h
  have sc := scfree_places
  have hu : _ + 64 < cLine := hr.units
  have hnl := hR.nl
  refine ⟨_, (qss_cons (qs_set (i := 2) sc.nd rfl (Or.inr rfl) (qe_callD Dheights (hr.mono (by decide)) rfl pass0 (qa_cons (qv 0) (qa_cons (qv 1) qa_nil star_name) star_name) (he := star_name)))
      (qss_cons (qs_set (i := 3) sc.nd rfl (Or.inr rfl) (qe_callD Dtails (hr.mono (by decide)) rfl pass0 (qa_cons (qv 0) (qa_cons (qv 1) qa_nil star_name) star_name) (he := star_name)))
      (qss_one (qs_ret (qe_comp (defScope sfree_places) ["roll", "table", "tops", "rests"] ["roll", "table", "tops", "rests"] ⟨rfl, by decide +kernel, by decide +kernel, rfl, by decide +kernel, by decide +kernel, by decide +kernel, by decide +kernel, rfl, by decide +kernel⟩ (qi_range1 rfl T.range (qa_cons (qe_op op_addA (qe_callB (call_lenA) rfl T.len PySem.boot_len (qa_cons (qv 0) qa_nil star_name) (he := star_name)) qe_int) qa_nil star_bin)) (fun _ _ _ _ _ => qif_one (qt_cmpR (r := rEqA K) (op_eqA hu) (qe_op op_addA (qe_ix (r := rIx K) ix_seq (qv 2 (hv := Or.inr (Or.inl rfl))) (qv 4 (hv := Or.inl rfl)) plain_name) (qe_ix (r := rIx K) ix_seq (qv 3 (hv := Or.inr (Or.inl rfl))) (qv 4 (hv := Or.inl rfl)) plain_name)) (qe_ix (r := rIx K) ix_seq (qv 2 (hv := Or.inr (Or.inl rfl))) (qe_un un_neg qe_int) plain_un) (nomark _))) (fun _ _ _ _ _ => qv 4 (hv := Or.inl rfl))))))), ?_⟩
  walk_at "rd"
  refine ⟨a, t, ns, ks, tv, rfl, hR.ro, hR.ta, hR.ki, hR.w1, hR.nl, hR.kl, fun u H1 g1 hu1 hu2 => ?_⟩
  walk_at "rd"
  refine ⟨a, t, ns, ks, tv, rfl, hR.same g1, fun r H2 g2 hr1 hr2 => ?_⟩
  have hro2 := (hR.same (g1.trans g2)).ro
  have hu3 := SqL.of (K := K) (g2 _ _ hu2)
  walk_at "rd"
  refine rd_rng1 (n := ns.length + 1) (by simp) (by omega) ?_
  rw [Int.toNat_natCast]
  intro D hD
  refine comp_range (fun i H3 => Same H2 H3 ∧ H3 D = some (.lst ((freeL ns ks i).map V.int))) ⟨same_new hD _, upd_same⟩ ?_ ?_
  · rintro i H3 hi ⟨g3, hD3⟩
    have hfl := freeL_len ns ks i
    rw [Int.zero_add]
    walk_at "rd"
    refine rd_ixL (g3.seq hu3) (atI_of (k := i) rfl (by rw [hts_len]; omega)) ?_
    walk_at "rd"
    refine rd_ixL (SqL.of (g3 _ _ hr2)) (atI_of (k := i) rfl (by rw [List.length_reverse, hts_len]; omega)) ?_
    walk_at "rd"
    refine rd_ixL (g3.seq hu3) (atI_lastD (hts_ne _ _ _)) ?_
    walk_at "rd"
    rw [tail_at (by omega), hts_at _ _ _ _ (by omega)]
    refine ite2 (fun c => ?_) (fun c => ?_)
    · walk_at "rd"
      refine ⟨_, hD3, by rw [List.length_map, sizeLine_eq]; omega, same_upd g3 hD _, ?_⟩
      rw [upd_same, freeL_succ, if_pos (show decide (hAt ns ks i + restAt ns ks i = hAt ns ks ns.length) = true from c), List.map_append]
      rfl
    · refine ⟨g3, ?_⟩
      rw [freeL_succ, if_neg (show ¬ decide (hAt ns ks i + restAt ns ks i = hAt ns ks ns.length) = true from c), List.append_nil]
      exact hD3
  · rintro H3 ⟨g3, hD3⟩
    exact q D H3 (g1.trans (g2.trans g3)) ((g1.trans g2).free hD) hD3
theorem ok_law_cell (F : Fun K "_law_cell" "_law_cell" s_law_cell f fd) (T : Txt mg K cCutError cNoPlace cNoParting) : FnOk P w K mg base CX0 7 f fd ["_law_script", "_law_place"] (spCell K) := by
  refine F.okQ sc_law_cell (fun vs H Q E h => ?_) (fun cdv A outer s H vs Q E hr h => ?_)
  · obtain ⟨a, ns, i, rfl, _⟩ := h
    rfl
  obtain ⟨a, ns, i, rfl, ⟨hS, h63⟩, h0, h1, q⟩ := h
  have sc := sc_law_cell
  refine ⟨_, (qss_cons (qs_if (qt_cmpR (op_lt) (qv 1) (qe_callB (call_lenA) rfl T.len PySem.boot_len (qa_cons (qv 0) qa_nil star_name) (he := star_name)) (nomark _))
        (qss_one (qs_ret (qe_ix ix_seq (qv 0) (qv 1) plain_name)))
        qss_nil)
      (qss_cons (qs_set (i := 2) sc.nd rfl (Or.inl rfl) qe_int)
      (qss_cons (qs_for PassesOwn.never rfl (qi_list (qe_slice sl_list (qv 0) qo_none (qo_some qe_int))) (qg_name (i := 3) sc.nd rfl (Or.inl rfl))
        (qss_one (qs_set (i := 2) sc.nd rfl (Or.inl rfl) (qe_op op_mod (qe_op op_addA (qe_op op_addA (qe_op op_mulA (qv 2) qe_int) (qe_op op_mod (qv 3) qe_int)) qe_int) qe_int))))
      (qss_one (qs_ret (qe_op op_mod (qe_op op_addA (qv 2) (qe_op op_mulA qe_int (qv 1))) qe_int)))))), ?_⟩
  walk_at "rd"
  refine ite2 (fun c => ?_) (fun c => ?_)
  · have c' := of_decide_eq_true c
    rw [List.length_map] at c'
    walk_at "rd"
    exact rd_ixL hS (atI_ints h0 c') (q _ _ (Same.refl _))
  · walk_at "rd"
    refine rd_slL hS fun p hp => ?_
    refine rd_forL (SqL.of upd_same) ?_
    refine (for_list (K := K) (a := p) (xs := cutV (ns.map V.int) none (some 63)) (fun _ σ H2 => ∃ (z : Int) (v : Option V), σ = [some (.ref a), some (.int i), some (.int z), v] ∧ 0 ≤ z ∧ z < 2147483647 ∧ H2 = upd H p (.lst (cutV (ns.map V.int) none (some 63))))
      ⟨5, none, rfl, by decide, by decide, rfl⟩ (fun _ _ _ _ ⟨_, _, _, _, _, e⟩ => by rw [e]; exact SqL.of upd_same) ?_ ?_)
    · rintro j x σ H2 hx ⟨z, v, rfl, z0, z1, rfl⟩
      obtain ⟨y, rfl⟩ := cut_int (List.mem_of_getElem? hx)
      walk_at "rd"
      exact ⟨_, _, rfl, Int.emod_nonneg _ (by decide), Int.emod_lt_of_pos _ (by decide), rfl⟩
    · rintro σ H2 ⟨z, v, rfl, z0, z1, rfl⟩
      walk_at "rd"
      exact q _ _ (same_new hp _)
theorem ok_law_mix (F : Fun K "_law_mix" "_law_mix" s_law_mix f fd) (T : Txt mg K cCutError cNoPlace cNoParting) : FnOk P w K mg base CX0 7 f fd ["_law_cell_here", "_law_k"] spMix := by
  refine F.okQ sc_law_mix (fun vs H Q E h => ?_) (fun cdv A outer s H vs Q E hr h => ?_)
  · obtain ⟨c, k, rfl, _⟩ := h
    rfl
  obtain ⟨c, k, rfl, h0, h1, q⟩ := h
  have sc := sc_law_mix
  refine ⟨_, (qss_cons (qs_set (i := 2) sc.nd rfl (Or.inl rfl) (qe_op op_mod (qe_op op_pow (qe_op op_addA (qe_op op_addA (qe_op op_mod (qv 0) qe_int) (qe_op op_mulA qe_int (qv 1))) qe_int) qe_int) qe_int))
      (qss_cons (qs_set (i := 3) sc.nd rfl (Or.inl rfl) (qe_op op_mod (qe_op op_addA (qe_op op_addA (qe_op op_mulA (qv 2) qe_int) (qe_op op_mulA (qe_op op_mulA qe_int (qv 1)) (qv 1))) qe_int) qe_int))
      (qss_one (qs_ret (qe_op op_fdivL (qv 3) qe_int))))), ?_⟩
  walk_at "rd"
  exact q _
theorem ok_law_row (F : Fun K "_law_row" "_law_row" s_law_row f fd) (T : Txt mg K cCutError cNoPlace cNoParting) (D_law_cell : Def P w K mg base CX0 7 "_law_cell" ["_law_script", "_law_place"] (spCell K)) (D_law_mix : Def P w K mg base CX0 7 "_law_mix" ["_law_cell_here", "_law_k"] spMix) : FnOk P w K mg base CX0 8 f fd ["_law_script", "_law_place", "_law_sizes"] (spRow K) := by
  refine F.okQ sc_law_row (fun vs H Q E h => ?_) (fun cdv A outer s H vs Q E hr h => ?_)
  · obtain ⟨a, ns, i, b, ms, rfl, _⟩ := h
    rfl
  obtain ⟨a, ns, i, b, ms, rfl, hScr, h0, h1, hM, hml, hmp, q⟩ := h
  have sc := sc_law_row
  refine ⟨_, (qss_cons (qs_set (i := 3) sc.nd rfl (Or.inl rfl) (qe_callD D_law_cell (hr.mono (by decide)) rfl pass0 (qa_cons (qv 0) (qa_cons (qv 1) qa_nil star_name) star_name) (he := star_name)))
      (qss_cons (qs_set (i := 4) sc.nd rfl (Or.inl rfl) (qv 3))
      (qss_cons (qs_set (i := 5) sc.nd rfl (Or.inl rfl) (qe_lst qa_nil))
      (qss_cons (qs_for PassesOwn.never rfl (qi_range1 rfl T.range (qa_cons (qe_callB (call_lenA) rfl T.len PySem.boot_len (qa_cons (qv 2) qa_nil star_name) (he := star_name)) qa_nil star_call)) (qg_name (i := 6) sc.nd rfl (Or.inl rfl))
        (qss_one (qs_if (qt_cmpR (op_lt) (qv 3) (qe_op op_pow qe_int qe_int) (nomark _))
            (qss_one (qs_expr (qe_bm PySem.F.plainAttrs_list PySem.F.slot_list_append PySem.F.type_list_append mt_append (qv 5) (qa_cons (qe_op op_mod (qe_callD D_law_mix (hr.mono (by decide)) rfl pass0 (qa_cons (qv 3) (qa_cons (qv 6) qa_nil star_name) star_name) (he := star_name)) (qe_ix ix_seq (qv 2) (qv 6) plain_name)) qa_nil star_bin) (hs := star_bin))))
            (qss_one (qs_if (qt_cmpR (op_gt) (qv 4) qe_int (nomark _))
                (qss_cons (qs_expr (qe_bm PySem.F.plainAttrs_list PySem.F.slot_list_append PySem.F.type_list_append mt_append (qv 5) (qa_cons (qe_op op_mod (qv 4) (qe_ix ix_seq (qv 2) (qv 6) plain_name)) qa_nil star_bin) (hs := star_bin)))
                  (qss_one (qs_set (i := 4) sc.nd rfl (Or.inl rfl) (qe_op op_fdivL (qv 4) (qe_ix ix_seq (qv 2) (qv 6) plain_name)))))
                (qss_cons (qs_set (i := 7) sc.nd rfl (Or.inl rfl) (qe_callD D_law_cell (hr.mono (by decide)) rfl pass0 (qa_cons (qv 0) (qa_cons (qe_op op_mod (qe_op op_addA (qe_op op_addA (qv 1) qe_int) (qv 6)) qe_int) qa_nil star_bin) star_name) (he := star_name)))
                  (qss_one (qs_expr (qe_bm PySem.F.plainAttrs_list PySem.F.slot_list_append PySem.F.type_list_append mt_append (qv 5) (qa_cons (qe_op op_mod (qe_callD D_law_mix (hr.mono (by decide)) rfl pass0 (qa_cons (qv 7) (qa_cons (qv 6) qa_nil star_name) star_name) (he := star_name)) (qe_ix ix_seq (qv 2) (qv 6) plain_name)) qa_nil star_bin) (hs := star_bin))))))))))
      (qss_one (qs_ret (qv 5))))))), ?_⟩
  walk_at "rd"
  refine ⟨a, ns, i, rfl, hScr, h0, by omega, fun c H1 g1 => ?_⟩
  walk_at "rd"
  refine ⟨small (by simp), fun r hr1 => ?_⟩
  have g0 := g1.trans (same_new hr1 (.lst []))
  have hM1 := g0.seq hM
  have hHr : H r = none := g1.free hr1
  walk_at "rd"
  refine rd_rng1 (n := ms.length) (by simp) (by omega) ?_
  rw [Int.toNat_natCast]
  refine (for_range (fun k σ H2 => ∃ (lf : Int) (os : List Int) (kv ov : Option V), σ = [some (.ref a), some (.int i), some (.ref b), some (.int c), some (.int lf), some (.ref r), kv, ov] ∧ Same H H2 ∧ H2 r = some (.lst (os.map V.int)) ∧ Row (ms.take k) os)
    ⟨c, [], none, none, rfl, g0, upd_same, Row.nil ms⟩ ?_ ?_)
  · rintro k σ H2 hk ⟨lf, os, kv, ov, rfl, g2, hr2, R⟩
    rw [Int.zero_add]
    have hM2 := g2.seq hM
    have hScr2 := hScr.same g2
    obtain ⟨hm0, hm1⟩ := hmp _ (getD_in hk)
    have hol : (os.map V.int).length < sizeLine := by
      have := R.len
      rw [List.length_take] at this
      rw [List.length_map]
      exact small1000 (by omega)
    walk_at "rd"
    refine ite2 (fun cc => ?_) (fun cc => ?_)
    · walk_at "rd"
      refine ⟨c, (k : Int), rfl, by omega, by omega, fun n => ?_⟩
      walk_at "rd"
      refine rd_ixL hM2 (atI_of rfl hk) ?_
      walk_at "rd"
      refine rd_app hr2 hol ?_
      exact ⟨lf, os ++ [n % ms.getD k 0], _, ov, rfl, same_upd g2 hHr _, by rw [upd_same, List.map_append]; rfl, R.push hk (Int.emod_nonneg _ (by omega)) (Int.emod_lt_of_pos _ hm0)⟩
    · walk_at "rd"
      refine ite2 (fun cd => ?_) (fun cd => ?_)
      · walk_at "rd"
        refine rd_ixL hM2 (atI_of rfl hk) ?_
        walk_at "rd"
        refine rd_app hr2 hol ?_
        have g3 := same_upd g2 hHr (.lst (os.map V.int ++ [.int (lf % ms.getD k 0)]))
        walk_at "rd"
        refine rd_ixL (g3.seq hM) (atI_of rfl hk) ?_
        walk_at "rd"
        exact ⟨_, os ++ [lf % ms.getD k 0], _, ov, rfl, g3, by rw [upd_same, List.map_append]; rfl, R.push hk (Int.emod_nonneg _ (by omega)) (Int.emod_lt_of_pos _ hm0)⟩
      · walk_at "rd"
        refine ⟨a, ns, _, rfl, hScr2, by omega, by omega, fun c2 H3 g3 => ?_⟩
        have hr3 := g3 _ _ hr2
        have g4 := g2.trans g3
        walk_at "rd"
        refine ⟨c2, (k : Int), rfl, by omega, by omega, fun n => ?_⟩
        walk_at "rd"
        refine rd_ixL (g4.seq hM) (atI_of rfl hk) ?_
        walk_at "rd"
        refine rd_app hr3 hol ?_
        exact ⟨lf, os ++ [n % ms.getD k 0], _, _, rfl, same_upd g4 hHr _, by rw [upd_same, List.map_append]; rfl, R.push hk (Int.emod_nonneg _ (by omega)) (Int.emod_lt_of_pos _ hm0)⟩
  · rintro σ H2 ⟨lf, os, kv, ov, rfl, g2, hr2, R⟩
    walk_at "rd"
    exact q r H2 os g2 hHr hr2 R.all

theorem ok_law_flaw (F : Fun K "_law_flaw" "_law_flaw" s_law_flaw f fd) (T : Txt mg K cCutError cNoPlace cNoParting) (D_law_row : Def P w K mg base CX0 8 "_law_row" ["_law_script", "_law_place", "_law_sizes"] (spRow K)) : FnOk P w K mg base CX0 9 f fd ["_law_script", "_law_place", "_law_most"] (spFlaw K) := by
  refine F.okQ sc_law_flaw (fun vs H Q E h => ?_) (fun cdv A outer s H vs Q E hr h => ?_)
  · obtain ⟨a, ns, i, m, rfl, _⟩ := h
    rfl
  obtain ⟨a, ns, i, m, rfl, hScr, h0, h1, m0, m1, q⟩ := h
  have sc := sc_law_flaw
  refine ⟨_, (qss_one (qs_ret (qe_ix ix_seq (qe_lst (qa_cons qe_int (qa_cons qe_int (qa_cons qe_int (qa_cons (qe_op op_pow qe_int qe_int) qa_nil star_bin) star_const) star_const) star_const)) (qe_ix ix_seq (qe_callD D_law_row (hr.mono (by decide)) rfl pass0 (qa_cons (qv 0) (qa_cons (qv 1) (qa_cons (qe_lst (qa_cons (qe_op op_addA (qv 2) qe_int) (qa_cons qe_int qa_nil star_const) star_bin)) qa_nil star_list) star_name) star_name) (he := star_name)) qe_int plain_const) plain_sub))), ?_⟩
  walk_at "rd"
  rw [tp17]
  refine ⟨small (by simp), fun p hp => ?_⟩
  have g1 := same_new hp (.lst [V.int 1, V.int 1, V.int 7, V.int 100000000000000000])
  walk_at "rd"
  refine ⟨small (by simp), fun p2 hp2 => ?_⟩
  have g2 := same_new hp2 (.lst [V.int (m + 1), V.int 4])
  walk_at "rd"
  refine ⟨a, ns, i, p2, [m + 1, 4], rfl, (hScr.same g1).same g2, h0, by omega, SqL.of upd_same, by simp, ?_, fun r H3 os g3 hr1 hr3 R => ?_⟩
  · intro z hz
    simp only [List.mem_cons, List.not_mem_nil, or_false] at hz
    rcases hz with rfl | rfl <;> exact ⟨by omega, by omega⟩
  have hv := R.at_ 1 (by simp)
  have hv2 : os.getD 1 0 < 4 := hv.2
  have hol := R.len
  walk_at "rd"
  refine rd_ixL (SqL.of hr3) (atI_of (k := 1) rfl (by rw [hol]; simp)) ?_
  refine rd_ixL (xs := ([1, 1, 7, 100000000000000000] : List Int).map V.int) (g3.seq (g2.seq (SqL.of upd_same))) (atI_of (k := (os.getD 1 0).toNat) (by omega) (by simp only [List.length_cons, List.length_nil]; omega)) ?_
  have hb : 1 ≤ ([1, 1, 7, 100000000000000000] : List Int).getD (os.getD 1 0).toNat 0 ∧ ([1, 1, 7, 100000000000000000] : List Int).getD (os.getD 1 0).toNat 0 ≤ 10 ^ 17 :=
    getD_all (P := fun w => 1 ≤ w ∧ w ≤ 10 ^ 17) (by intro w hw; simp only [List.mem_cons, List.not_mem_nil, or_false] at hw; rcases hw with rfl | rfl | rfl | rfl <;> decide) (by simp only [List.length_cons, List.length_nil]; omega)
  exact q _ _ (g1.trans (g2.trans g3)) hb.1 hb.2
theorem ok_law_roll (F : Fun K "_law_roll" "_law_roll" s_law_roll f fd) (T : Txt mg K cCutError cNoPlace cNoParting) (D_law_row : Def P w K mg base CX0 8 "_law_row" ["_law_script", "_law_place", "_law_sizes"] (spRow K)) : FnOk P w K mg base CX0 9 f fd ["_law_script", "_law_place", "_law_most", "_law_flaw_here"] (spRoll K) := by
  refine F.okQ sc_law_roll (fun vs H Q E h => ?_) (fun cdv A outer s H vs Q E hr h => ?_)
  · obtain ⟨a, ns, i, m, fl, rfl, _⟩ := h
    rfl
  obtain ⟨a, ns, i, m, fl, rfl, hScr, h0, h1, m0, m1, f0, f1, q⟩ := h
  have sc := sc_law_roll
  have hu : _ + 64 < cLine := hr.units
  refine ⟨_, (qss_cons (qs_set (i := 4) sc.nd rfl (Or.inl rfl) (qe_callD D_law_row (hr.mono (by decide)) rfl pass0 (qa_cons (qv 0) (qa_cons (qv 1) (qa_cons (qe_op op_addA (qe_lst (qa_cons (qe_op op_addA (qv 2) qe_int) (qa_cons qe_int (qa_cons qe_int qa_nil star_const) star_const) star_bin)) (qe_op op_mulA (qe_lst (qa_cons qe_int (qa_cons qe_int qa_nil star_const) star_const)) (qv 2))) qa_nil star_bin) star_name) star_name) (he := star_name)))
      (qss_cons (qs_set (i := 5) sc.nd rfl (Or.inl rfl) (qe_op op_mulA qe_int (qv 3)))
      (qss_cons (qs_cut (qs_if (qt_cmpR (op_eqA hu) (qe_ix ix_seq (qv 4) qe_int plain_const) qe_int (nomark _))
        (qss_one (qs_set (i := 5) sc.nd rfl (Or.inl rfl) (qe_op op_pow qe_int qe_int)))
        qss_nil))
      (qss_cons (qs_set (i := 6) sc.nd rfl (Or.inl rfl) (qe_lst qa_nil))
      (qss_cons (qs_for PassesOwn.never rfl (qi_range1 rfl T.range (qa_cons (qe_ix ix_seq (qv 4) qe_int plain_const) qa_nil star_sub)) (qg_name (i := 7) sc.nd rfl (Or.inl rfl))
        (qss_cons (qs_set (i := 8) sc.nd rfl (Or.inl rfl) (qe_op op_addA (qe_op op_mulA qe_int (qv 7)) qe_int))
          (qss_cons (qs_set (i := 9) sc.nd rfl (Or.inl rfl) qe_int)
          (qss_cons (qs_cut (qs_if (qt_cmpR (op_lt) (qe_ix ix_seq (qv 4) (qv 8) plain_name) (qe_ix ix_seq (qe_lst (qa_cons qe_int (qa_cons qe_int (qa_cons qe_int (qa_cons qe_int qa_nil star_const) star_const) star_const) star_const)) (qe_ix ix_seq (qv 4) qe_int plain_const) plain_sub) (nomark _))
            (qss_one (qs_set (i := 9) sc.nd rfl (Or.inl rfl) (qe_ix ix_seq (qe_lst (qa_cons (qv 3) (qa_cons (qv 3) (qa_cons (qe_op op_mulA qe_int (qv 3)) (qa_cons (qe_op op_mulA qe_int (qv 3)) (qa_cons (qv 5) qa_nil star_name) star_bin) star_bin) star_name) star_name)) (qe_ix ix_seq (qv 4) (qe_op op_addA (qv 8) qe_int) plain_bin) plain_sub)))
            qss_nil))
          (qss_one (qs_expr (qe_bm PySem.F.plainAttrs_list PySem.F.slot_list_append PySem.F.type_list_append mt_append (qv 6) (qa_cons (qv 9) qa_nil star_name) (hs := star_name))))))))
      (qss_one (qs_ret (qv 6)))))))), ?_⟩
  walk_at "rd"
  refine ⟨small (by simp), fun p1 hp1 => ?_⟩
  have g1 := same_new hp1 (.lst [V.int (m + 1), V.int 4, V.int 3])
  walk_at "rd"
  refine ⟨small (by simp), fun p2 hp2 => ?_⟩
  have g2 := same_new hp2 (.lst [V.int 8, V.int 5])
  walk_at "rd"
  refine rd_rep upd_same (by omega) (by omega) (small (by simp only [List.length_cons, List.length_nil]; omega)) fun p3 hp3 => ?_
  have g3 := same_new hp3 (.lst (List.replicate m.toNat [V.int 8, V.int 5]).flatten)
  refine rd_cat (g3 _ _ (g2 _ _ upd_same)) upd_same (small (by rw [len_rep]; simp only [List.length_cons, List.length_nil]; omega)) fun p4 hp4 => ?_
  have g4 := same_new hp4 (.lst ([V.int (m + 1), V.int 4, V.int 3] ++ (List.replicate m.toNat [V.int 8, V.int 5]).flatten))
  have g5 := g1.trans (g2.trans (g3.trans g4))
  have eM : [V.int (m + 1), V.int 4, V.int 3] ++ (List.replicate m.toNat [V.int 8, V.int 5]).flatten = ((m + 1) :: 4 :: 3 :: (List.replicate m.toNat [(8 : Int), 5]).flatten).map V.int := by
    have e := rep_map [8, 5] m.toNat
    rw [List.map_cons, List.map_cons, List.map_cons, ← e]
    rfl
  have hlen : ((m + 1) :: 4 :: 3 :: (List.replicate m.toNat [(8 : Int), 5]).flatten).length = 3 + m.toNat * 2 := by
    rw [List.length_cons, List.length_cons, List.length_cons, rep_len]
    simp
    omega
  walk_at "rd"
  refine ⟨a, ns, i, p4, _, rfl, hScr.same g5, h0, by omega, by rw [← eM]; exact SqL.of upd_same, by rw [hlen]; omega, ?_, fun r H6 os g6 hr1 hr6 R => ?_⟩
  · intro z hz
    simp only [List.mem_cons] at hz
    rcases hz with rfl | rfl | rfl | hz
    · exact ⟨by omega, by omega⟩
    · exact ⟨by decide, by decide⟩
    · exact ⟨by decide, by decide⟩
    · obtain ⟨l, hl, hz⟩ := List.mem_flatten.mp hz
      rw [List.eq_of_mem_replicate hl] at hz
      simp only [List.mem_cons, List.not_mem_nil, or_false] at hz
      rcases hz with rfl | rfl <;> exact ⟨by decide, by decide⟩
  have hol := R.len
  rw [hlen] at hol
  have r0 := R.at_ 0 (by rw [hlen]; omega)
  have r1 := R.at_ 1 (by rw [hlen]; omega)
  have r2 := R.at_ 2 (by rw [hlen]; omega)
  have q0 : os.getD 0 0 < m + 1 := r0.2
  have q1 : os.getD 1 0 < 4 := r1.2
  have rk : ∀ k : Nat, k < m.toNat → (0 ≤ os.getD (2 * k + 3) 0 ∧ os.getD (2 * k + 3) 0 < 8) ∧ (0 ≤ os.getD (2 * k + 4) 0 ∧ os.getD (2 * k + 4) 0 < 5) := fun k hk => by
    obtain ⟨e1, e2⟩ := rep2_get 8 5 m.toNat k hk
    have a1 := R.at_ (2 * k + 3) (by rw [hlen]; omega)
    have a2 := R.at_ (2 * k + 4) (by rw [hlen]; omega)
    have b1 : ((m + 1) :: 4 :: 3 :: (List.replicate m.toNat [(8 : Int), 5]).flatten).getD (2 * k + 3) 0 = 8 := e1
    have b2 : ((m + 1) :: 4 :: 3 :: (List.replicate m.toNat [(8 : Int), 5]).flatten).getD (2 * k + 4) 0 = 5 := e2
    rw [b1] at a1
    rw [b2] at a2
    exact ⟨a1, a2⟩
  have gA := g5.trans g6
  have hHr : H r = none := g5.free hr1
  walk_at "rd"
  refine ⟨fun σ' H' => ∃ gr : Int, 0 ≤ gr ∧ gr ≤ 10 ^ 18 ∧ σ' = [some (.ref a), some (.int i), some (.int m), some (.int fl), some (.ref r), some (.int gr), none, none, none, none] ∧ H' = H6, ?_, ?_⟩
  · walk_at "rd"
    refine rd_ixL (SqL.of hr6) (atI_of (k := 2) rfl (by omega)) ?_
    walk_at "rd"
    refine ite2 (fun c => ?_) (fun c => ?_)
    · walk_at "rd"
      exact ⟨_, by decide, by decide, rfl, rfl⟩
    · walk_at "rd"
      exact ⟨_, by omega, by omega, rfl, rfl⟩
  rintro σ6 H6' ⟨gr, gr0, gr1, rfl, hE⟩
  rw [hE]
  clear hE
  walk_at "rd"
  refine ⟨small (by simp), fun t ht => ?_⟩
  have g7 := same_new ht (.lst [])
  have hHt : H t = none := gA.free ht
  walk_at "rd"
  refine rd_ixL (SqL.of (g7 _ _ hr6)) (atI_of (k := 0) rfl (by omega)) ?_
  walk_at "rd"
  refine rd_rng1 (n := (os.getD 0 0).toNat) (by omega) (by omega) ?_
  rw [Int.toNat_natCast]
  refine (for_range (fun k σ H2 => ∃ (ws : List Int) (kv av wv : Option V), σ = [some (.ref a), some (.int i), some (.int m), some (.int fl), some (.ref r), some (.int gr), some (.ref t), kv, av, wv] ∧ Same H6 H2 ∧ H2 t = some (.lst (ws.map V.int)) ∧ ws.length = k ∧ ∀ x ∈ ws, 0 ≤ x ∧ x ≤ 10 ^ 18)
    ⟨[], none, none, none, rfl, g7, upd_same, rfl, by simp⟩ ?_ ?_)
  · rintro k σ H2 hk ⟨ws, kv, av, wv, rfl, g8, ht8, hwl, hws⟩
    rw [Int.zero_add]
    obtain ⟨⟨e0, e1⟩, ⟨e2, e3⟩⟩ := rk k (by omega)
    have hr8 := g8 _ _ hr6
    walk_at "rd"
    refine ⟨fun σ' H' => ∃ wt : Int, 0 ≤ wt ∧ wt ≤ 10 ^ 18 ∧ σ' = [some (.ref a), some (.int i), some (.int m), some (.int fl), some (.ref r), some (.int gr), some (.ref t), some (.int (k : Int)), some (.int (2 * (k : Int) + 3)), some (.int wt)] ∧ Same H2 H', ?_, ?_⟩
    · walk_at "rd"
      refine rd_ixL (SqL.of hr8) (atI_of (k := 2 * k + 3) (by omega) (by omega)) ?_
      walk_at "rd"
      refine ⟨small (by simp), fun p hp => ?_⟩
      have g9 := same_new hp (.lst [V.int 0, V.int 1, V.int 3, V.int 6])
      walk_at "rd"
      refine rd_ixL (SqL.of (g9 _ _ hr8)) (atI_of (k := 1) rfl (by omega)) ?_
      refine rd_ixL (xs := ([0, 1, 3, 6] : List Int).map V.int) (SqL.of upd_same) (atI_of (k := (os.getD 1 0).toNat) (by omega) (by simp only [List.length_cons, List.length_nil]; omega)) ?_
      walk_at "rd"
      refine ite2 (fun c => ?_) (fun c => ?_)
      · walk_at "rd"
        refine ⟨small (by simp), fun p' hp' => ?_⟩
        have g10 := same_new hp' (.lst [V.int fl, V.int fl, V.int (2 * fl), V.int (3 * fl), V.int gr])
        walk_at "rd"
        refine rd_ixL (SqL.of (g10 _ _ (g9 _ _ hr8))) (atI_of (k := 2 * k + 4) (by omega) (by omega)) ?_
        refine rd_ixL (xs := ([fl, fl, 2 * fl, 3 * fl, gr] : List Int).map V.int) (SqL.of upd_same) (atI_of (k := (os.getD (2 * k + 4) 0).toNat) (by omega) (by simp only [List.length_cons, List.length_nil]; omega)) ?_
        walk_at "rd"
        have hb := getD_all (P := fun w => 0 ≤ w ∧ w ≤ 10 ^ 18) (ws := [fl, fl, 2 * fl, 3 * fl, gr]) (i := (os.getD (2 * k + 4) 0).toNat) (by
          intro w hw
          simp only [List.mem_cons, List.not_mem_nil, or_false] at hw
          rcases hw with rfl | rfl | rfl | rfl | rfl <;> exact ⟨by omega, by omega⟩) (by simp only [List.length_cons, List.length_nil]; omega)
        exact ⟨_, hb.1, hb.2, rfl, g9.trans g10⟩
      · walk_at "rd"
        exact ⟨0, by decide, by decide, rfl, g9⟩
    · rintro σ' H' ⟨wt, w0, w1, rfl, g9⟩
      have ht9 := g9 _ _ ht8
      walk_at "rd"
      refine rd_app ht9 (by rw [List.length_map]; exact small1000 (by omega)) ?_
      refine ⟨ws ++ [wt], _, _, _, rfl, same_upd (g8.trans g9) ht _, by rw [upd_same, List.map_append]; rfl, by rw [List.length_append, hwl]; rfl, fun x hx => ?_⟩
      rcases List.mem_append.mp hx with hx | hx
      · exact hws x hx
      · rw [List.mem_singleton.mp hx]
        exact ⟨w0, w1⟩
  · rintro σ H2 ⟨ws, kv, av, wv, rfl, g8, ht8, hwl, hws⟩
    walk_at "rd"
    exact q t H2 ws (gA.trans g8) hHt ht8 (by omega) hws
theorem ok_law_table (F : Fun K "_law_table" "_law_table" s_law_table f fd) (T : Txt mg K cCutError cNoPlace cNoParting) (D_law_row : Def P w K mg base CX0 8 "_law_row" ["_law_script", "_law_place", "_law_sizes"] (spRow K)) : FnOk P w K mg base CX0 9 f fd ["_law_script", "_law_place", "_law_most"] (spTable K) := by
  refine F.okQ sc_law_table (fun vs H Q E h => ?_) (fun cdv A outer s H vs Q E hr h => ?_)
  · obtain ⟨a, ns, i, m, rfl, _⟩ := h
    rfl
  obtain ⟨a, ns, i, m, rfl, hScr, h0, h1, m0, m1, q⟩ := h
  have sc := sc_law_table
  have hu : _ + 64 < cLine := hr.units
  refine ⟨_, (qss_cons (qs_set (i := 3) sc.nd rfl (Or.inl rfl) (qe_lst (qa_cons qe_str (qa_cons qe_str (qa_cons qe_str (qa_cons qe_str (qa_cons qe_str (qa_cons qe_str (qa_cons qe_str (qa_cons qe_str (qa_cons qe_str (qa_cons qe_str qa_nil star_const) star_const) star_const) star_const) star_const) star_const) star_const) star_const) star_const) star_const)))
      (qss_cons (qs_set (i := 3) sc.nd rfl (Or.inl rfl) (qe_op op_addA (qv 3) (qe_lst (qa_cons qe_str (qa_cons qe_str (qa_cons qe_str (qa_cons qe_str (qa_cons qe_str (qa_cons qe_str qa_nil star_const) star_const) star_const) star_const) star_const) star_const))))
      (qss_cons (qs_set (i := 4) sc.nd rfl (Or.inl rfl) (qe_callD D_law_row (hr.mono (by decide)) rfl pass0 (qa_cons (qv 0) (qa_cons (qv 1) (qa_cons (qe_op op_addA (qe_lst (qa_cons (qe_op op_addA (qv 2) qe_int) (qa_cons qe_int (qa_cons qe_int (qa_cons qe_int (qa_cons qe_int (qa_cons qe_int qa_nil star_const) star_const) star_const) star_const) star_const) star_bin)) (qe_op op_mulA (qe_lst (qa_cons qe_int (qa_cons qe_int (qa_cons qe_int qa_nil star_const) star_const) star_const)) (qv 2))) qa_nil star_bin) star_name) star_name) (he := star_name)))
      (qss_cons (qs_set (i := 5) sc.nd rfl (Or.inl rfl) (qe_ix ix_seq (qe_lst (qa_cons qe_int (qa_cons qe_int (qa_cons qe_int (qa_cons (qe_op op_pow qe_int qe_int) qa_nil star_bin) star_const) star_const) star_const)) (qe_ix ix_seq (qv 4) qe_int plain_const) plain_sub))
      (qss_cons (qs_set (i := 6) sc.nd rfl (Or.inl rfl) (qe_ix ix_seq (qe_lst (qa_cons qe_int (qa_cons qe_int (qa_cons (qe_op op_pow qe_int qe_int) (qa_cons (qe_op op_mulA qe_int (qe_op op_pow qe_int qe_int)) qa_nil star_bin) star_bin) star_const) star_const)) (qe_ix ix_seq (qv 4) qe_int plain_const) plain_sub))
      (qss_cons (qs_set (i := 7) sc.nd rfl (Or.inl rfl) (qe_lst qa_nil))
      (qss_cons (qs_for PassesOwn.never rfl (qi_range1 rfl T.range (qa_cons (qe_ix ix_seq (qv 4) qe_int plain_const) qa_nil star_sub)) (qg_name (i := 8) sc.nd rfl (Or.inl rfl))
        (qss_cons (qs_set (i := 9) sc.nd rfl (Or.inl rfl) (qe_op op_addA (qe_op op_mulA qe_int (qv 8)) qe_int))
          (qss_cons (qs_set (i := 10) sc.nd rfl (Or.inl rfl) (qe_ix ix_seq (qe_lst (qa_cons qe_int (qa_cons qe_int (qa_cons qe_int (qa_cons qe_int (qa_cons qe_int (qa_cons qe_int (qa_cons qe_int (qa_cons qe_int (qa_cons qe_int (qa_cons qe_int (qa_cons (qe_ix ix_seq (qe_lst (qa_cons qe_int (qa_cons qe_int qa_nil star_const) star_const)) (qe_op op_mod (qv 8) qe_int) plain_bin) qa_nil star_sub) star_const) star_const) star_const) star_const) star_const) star_const) star_const) star_const) star_const) star_const)) (qe_ix ix_seq (qv 4) (qv 9) plain_name) plain_sub))
          (qss_cons (qs_set (i := 11) sc.nd rfl (Or.inl rfl) (qe_op op_addA qe_int (qe_ix ix_seq (qv 4) (qe_op op_addA (qv 9) qe_int) plain_bin)))
          (qss_cons (qs_cut (qs_if (qt_cmpR (op_eqA hu) (qe_ix ix_seq (qv 4) qe_int plain_const) qe_int (nomark _))
            (qss_one (qs_set (i := 11) sc.nd rfl (Or.inl rfl) (qe_op op_addA (qe_op op_mulA qe_int (qv 10)) (qe_op op_mod (qe_ix ix_seq (qv 4) (qe_op op_addA (qv 9) qe_int) plain_bin) qe_int))))
            qss_nil))
          (qss_cons (qs_cut (qs_if (qt_cmpR (op_eqA hu) (qe_ix ix_seq (qv 4) qe_int plain_const) qe_int (nomark _))
            (qss_one (qs_set (i := 11) sc.nd rfl (Or.inl rfl) (qe_op op_addA qe_int (qe_op op_mod (qe_ix ix_seq (qv 4) (qe_op op_addA (qv 9) qe_int) plain_bin) qe_int))))
            qss_nil))
          (qss_cons (qs_cut (qs_if (qt_cmpR (op_eqA hu) (qe_ix ix_seq (qv 4) qe_int plain_const) qe_int (nomark _))
            (qss_one (qs_set (i := 11) sc.nd rfl (Or.inl rfl) (qv 10)))
            qss_nil))
          (qss_cons (qs_set (i := 12) sc.nd rfl (Or.inl rfl) (qe_callB (call_min2 rfl) rfl T.min PyProof.Rows.boot_min (qa_cons (qe_op op_mulA (qe_ix ix_seq (qe_lst (qa_cons qe_int (qa_cons qe_int (qa_cons qe_int (qa_cons qe_int (qa_cons qe_int (qa_cons qe_int qa_nil star_const) star_const) star_const) star_const) star_const) star_const)) (qe_ix ix_seq (qv 4) (qe_op op_addA (qv 9) qe_int) plain_bin) plain_sub) (qv 5)) (qa_cons (qe_op op_sub (qe_op op_pow qe_int qe_int) qe_int) qa_nil star_bin) star_bin) (he := star_bin)))
          (qss_cons (qs_set (i := 13) sc.nd rfl (Or.inl rfl) (qe_ix ix_seq (qv 3) (qe_op op_mod (qe_op op_addA (qe_ix ix_seq (qv 4) qe_int plain_const) (qe_op op_mulA (qe_op op_addA (qe_op op_mulA qe_int (qe_ix ix_seq (qv 4) qe_int plain_const)) qe_int) (qv 8))) qe_int) plain_bin))
          (qss_one (qs_expr (qe_bm PySem.F.plainAttrs_list PySem.F.slot_list_append PySem.F.type_list_append mt_append (qv 7) (qa_cons (qe_tup (qa_cons (qv 13) (qa_cons (qv 10) (qa_cons (qe_callB (call_min2 rfl) rfl T.min PyProof.Rows.boot_min (qa_cons (qe_op op_mulA (qv 11) (qv 6)) (qa_cons (qe_op op_pow qe_int qe_int) qa_nil star_bin) star_bin) (he := star_bin)) (qa_cons (qv 12) qa_nil star_name) star_call) star_name) star_name)) qa_nil star_tup) (hs := star_tup)))))))))))))
      (qss_one (qs_ret (qv 7)))))))))), ?_⟩
  walk_at "rd"
  refine ⟨small (by simp), fun p1 hp1 => ?_⟩
  have g1 := same_new hp1 (.lst ((["a", "ab", "abc", "b", "ba", "z", "zzzzzzzz", "roll", "cut", "by"] : List Str).map V.str))
  walk_at "rd"
  refine ⟨small (by simp), fun p2 hp2 => ?_⟩
  have g2 := same_new hp2 (.lst ((["aab", "zz", "kind", "qsvw", "fghjmp", "x"] : List Str).map V.str))
  refine rd_cat (g2 _ _ upd_same) upd_same (small (by simp)) fun p3 hp3 => ?_
  have g3 := same_new hp3 (.lst (poolL.map V.str))
  walk_at "rd"
  refine ⟨small (by simp), fun p4 hp4 => ?_⟩
  have g4 := same_new hp4 (.lst [V.int (m + 1), V.int 4, V.int 4, V.int 4, V.int 16, V.int 4])
  walk_at "rd"
  refine ⟨small (by simp), fun p5 hp5 => ?_⟩
  have g5 := same_new hp5 (.lst [V.int 11, V.int 40, V.int 6])
  walk_at "rd"
  refine rd_rep upd_same (by omega) (by omega) (small (by simp only [List.length_cons, List.length_nil]; omega)) fun p6 hp6 => ?_
  have g6 := same_new hp6 (.lst (List.replicate m.toNat [V.int 11, V.int 40, V.int 6]).flatten)
  refine rd_cat (g6 _ _ (g5 _ _ upd_same)) upd_same (small (by rw [len_rep]; simp only [List.length_cons, List.length_nil]; omega)) fun p7 hp7 => ?_
  have g7 := same_new hp7 (.lst ([V.int (m + 1), V.int 4, V.int 4, V.int 4, V.int 16, V.int 4] ++ (List.replicate m.toNat [V.int 11, V.int 40, V.int 6]).flatten))
  have gp := g4.trans (g5.trans (g6.trans g7))
  have gB := g1.trans (g2.trans (g3.trans gp))
  have eM : [V.int (m + 1), V.int 4, V.int 4, V.int 4, V.int 16, V.int 4] ++ (List.replicate m.toNat [V.int 11, V.int 40, V.int 6]).flatten = ((m + 1) :: 4 :: 4 :: 4 :: 16 :: 4 :: (List.replicate m.toNat [(11 : Int), 40, 6]).flatten).map V.int := by
    have e := rep_map [11, 40, 6] m.toNat
    rw [List.map_cons, List.map_cons, List.map_cons, List.map_cons, List.map_cons, List.map_cons, ← e]
    rfl
  have hlen : ((m + 1) :: 4 :: 4 :: 4 :: 16 :: 4 :: (List.replicate m.toNat [(11 : Int), 40, 6]).flatten).length = 6 + m.toNat * 3 := by
    simp only [List.length_cons, rep_len, List.length_nil]
    omega
  walk_at "rd"
  refine ⟨a, ns, i, p7, _, rfl, hScr.same gB, h0, by omega, by rw [← eM]; exact SqL.of upd_same, by rw [hlen]; omega, ?_, fun r H8 os g8 hr1 hr8 R => ?_⟩
  · intro z hz
    simp only [List.mem_cons] at hz
    rcases hz with rfl | rfl | rfl | rfl | rfl | rfl | hz
    · exact ⟨by omega, by omega⟩
    · exact ⟨by decide, by decide⟩
    · exact ⟨by decide, by decide⟩
    · exact ⟨by decide, by decide⟩
    · exact ⟨by decide, by decide⟩
    · exact ⟨by decide, by decide⟩
    · obtain ⟨l, hl, hz⟩ := List.mem_flatten.mp hz
      rw [List.eq_of_mem_replicate hl] at hz
      simp only [List.mem_cons, List.not_mem_nil, or_false] at hz
      rcases hz with rfl | rfl | rfl <;> exact ⟨by decide, by decide⟩
  have hol := R.len
  rw [hlen] at hol
  obtain ⟨a0, b0⟩ := R.at_ 0 (by rw [hlen]; omega)
  obtain ⟨a1, b1⟩ := R.at_ 1 (by rw [hlen]; omega)
  obtain ⟨a2, b2⟩ := R.at_ 2 (by rw [hlen]; omega)
  obtain ⟨a4, b4⟩ := R.at_ 4 (by rw [hlen]; omega)
  obtain ⟨a5, b5⟩ := R.at_ 5 (by rw [hlen]; omega)
  replace b0 : os.getD 0 0 < m + 1 := b0
  replace b1 : os.getD 1 0 < 4 := b1
  replace b2 : os.getD 2 0 < 4 := b2
  replace b4 : os.getD 4 0 < 16 := b4
  replace b5 : os.getD 5 0 < 4 := b5
  have rk : ∀ k : Nat, k < m.toNat → (0 ≤ os.getD (3 * k + 6) 0 ∧ os.getD (3 * k + 6) 0 < 11) ∧ (0 ≤ os.getD (3 * k + 7) 0 ∧ os.getD (3 * k + 7) 0 < 40) ∧ (0 ≤ os.getD (3 * k + 8) 0 ∧ os.getD (3 * k + 8) 0 < 6) := fun k hk => by
    obtain ⟨e1, e2, e3⟩ := rep3_get 11 40 6 m.toNat k hk
    have a1 := R.at_ (3 * k + 6) (by rw [hlen]; omega)
    have a2 := R.at_ (3 * k + 7) (by rw [hlen]; omega)
    have a3 := R.at_ (3 * k + 8) (by rw [hlen]; omega)
    have b1 : ((m + 1) :: 4 :: 4 :: 4 :: 16 :: 4 :: (List.replicate m.toNat [(11 : Int), 40, 6]).flatten).getD (3 * k + 6) 0 = 11 := e1
    have b2 : ((m + 1) :: 4 :: 4 :: 4 :: 16 :: 4 :: (List.replicate m.toNat [(11 : Int), 40, 6]).flatten).getD (3 * k + 7) 0 = 40 := e2
    have b3 : ((m + 1) :: 4 :: 4 :: 4 :: 16 :: 4 :: (List.replicate m.toNat [(11 : Int), 40, 6]).flatten).getD (3 * k + 8) 0 = 6 := e3
    rw [b1] at a1
    rw [b2] at a2
    rw [b3] at a3
    exact ⟨a1, a2, a3⟩
  have hP8 : H8 p3 = some (.lst (poolL.map V.str)) := g8 _ _ (gp _ _ upd_same)
  walk_at "rd"
  rw [tp17]
  refine ⟨small (by simp), fun p9 hp9 => ?_⟩
  have g9 := same_new hp9 (.lst [V.int 1, V.int 1, V.int 7, V.int 100000000000000000])
  walk_at "rd"
  refine rd_ixL (SqL.of (g9 _ _ hr8)) (atI_of (k := 1) rfl (by omega)) ?_
  refine rd_ixL (xs := ([1, 1, 7, 100000000000000000] : List Int).map V.int) (SqL.of upd_same) (atI_of (k := (os.getD 1 0).toNat) (by omega) (by simp only [List.length_cons, List.length_nil]; omega)) ?_
  obtain ⟨f0, f1⟩ := getD_all (P := fun w => 1 ≤ w ∧ w ≤ 10 ^ 17) (ws := [1, 1, 7, 100000000000000000]) (i := (os.getD 1 0).toNat) (by
    intro w hw
    simp only [List.mem_cons, List.not_mem_nil, or_false] at hw
    rcases hw with rfl | rfl | rfl | rfl <;> decide) (by simp only [List.length_cons, List.length_nil]; omega)
  generalize ([1, 1, 7, 100000000000000000] : List Int).getD (os.getD 1 0).toNat 0 = fl at f0 f1 ⊢
  walk_at "rd"
  rw [tp6, tp15]
  refine ⟨small (by simp), fun p10 hp10 => ?_⟩
  have g10 := same_new hp10 (.lst [V.int 1, V.int 1, V.int 1000000, V.int (25 * 1000000000000000)])
  walk_at "rd"
  refine rd_ixL (SqL.of (g10 _ _ (g9 _ _ hr8))) (atI_of (k := 2) rfl (by omega)) ?_
  refine rd_ixL (xs := ([1, 1, 1000000, 25 * 1000000000000000] : List Int).map V.int) (SqL.of upd_same) (atI_of (k := (os.getD 2 0).toNat) (by omega) (by simp only [List.length_cons, List.length_nil]; omega)) ?_
  obtain ⟨n0, n1⟩ := getD_all (P := fun w => 1 ≤ w ∧ w ≤ 25 * 10 ^ 15) (ws := [1, 1, 1000000, 25 * 1000000000000000]) (i := (os.getD 2 0).toNat) (by
    intro w hw
    simp only [List.mem_cons, List.not_mem_nil, or_false] at hw
    rcases hw with rfl | rfl | rfl | rfl <;> decide) (by simp only [List.length_cons, List.length_nil]; omega)
  generalize ([1, 1, 1000000, 25 * 1000000000000000] : List Int).getD (os.getD 2 0).toNat 0 = gn at n0 n1 ⊢
  walk_at "rd"
  refine ⟨small (by simp), fun t ht => ?_⟩
  have g11 := g9.trans (g10.trans (same_new ht (.lst [])))
  have gC := gB.trans g8
  have hH8t : H8 t = none := (g9.trans g10).free ht
  walk_at "rd"
  refine rd_ixL (SqL.of (g11 _ _ hr8)) (atI_of (k := 0) rfl (by omega)) ?_
  walk_at "rd"
  refine rd_rng1 (n := (os.getD 0 0).toNat) (by omega) (by omega) ?_
  rw [Int.toNat_natCast]
  refine (for_range (fun k σ H2 => ∃ (vs : List V) (ks : List Kd) (v8 v9 v10 v11 v12 v13 : Option V),
      σ = [some (.ref a), some (.int i), some (.int m), some (.ref p3), some (.ref r), some (.int fl), some (.int gn), some (.ref t), v8, v9, v10, v11, v12, v13] ∧ Same H8 H2 ∧ H2 t = some (.lst vs) ∧ LstOf H2 kindV vs ks ∧ ks.length = k ∧ (∀ x ∈ ks, KindOk x) ∧
      ks.map (·.name) = (List.range k).map (nameAt (os.getD 4 0) (os.getD 5 0)))
    ⟨[], [], none, none, none, none, none, none, rfl, g11, upd_same, .nil, rfl, by simp, rfl⟩ ?_ ?_)
  · rintro k σ H2 hk ⟨vs, ks, v8, v9, v10, v11, v12, v13, rfl, g12, ht2, hL, hkl, hks, hnm⟩
    rw [Int.zero_add]
    obtain ⟨⟨c0, d0⟩, ⟨c1, d1⟩, ⟨c2, d2⟩⟩ := rk k (by omega)
    have hr2 := g12 _ _ hr8
    have hP2 := g12 _ _ hP8
    walk_at "rd"
    refine ⟨small (by simp), fun q1 hq1 => ?_⟩
    have e1 := same_new hq1 (.lst [V.int 150, V.int 200])
    walk_at "rd"
    refine rd_ixL (xs := ([150, 200] : List Int).map V.int) (SqL.of upd_same) (atI_of (k := ((k : Int) % 2).toNat) (by omega) (by simp only [List.length_cons, List.length_nil]; omega)) ?_
    obtain ⟨x0, x1⟩ := getD_all (P := fun w => 1 ≤ w ∧ w ≤ 200) (ws := [150, 200]) (i := ((k : Int) % 2).toNat) (by
      intro w hw
      simp only [List.mem_cons, List.not_mem_nil, or_false] at hw
      rcases hw with rfl | rfl <;> decide) (by simp only [List.length_cons, List.length_nil]; omega)
    generalize ([150, 200] : List Int).getD ((k : Int) % 2).toNat 0 = wd at x0 x1 ⊢
    walk_at "rd"
    refine ⟨small (by simp), fun q2 hq2 => ?_⟩
    have e2 := same_new hq2 (.lst [V.int 1, V.int 2, V.int 3, V.int 4, V.int 5, V.int 6, V.int 2, V.int 3, V.int 11, V.int 40, V.int wd])
    walk_at "rd"
    refine rd_ixL (SqL.of (e2 _ _ (e1 _ _ hr2))) (atI_of (k := 3 * k + 6) (by omega) (by omega)) ?_
    refine rd_ixL (xs := ([1, 2, 3, 4, 5, 6, 2, 3, 11, 40, wd] : List Int).map V.int) (SqL.of upd_same) (atI_of (k := (os.getD (3 * k + 6) 0).toNat) (by omega) (by simp only [List.length_cons, List.length_nil]; omega)) ?_
    obtain ⟨y0, y1⟩ := getD_all (P := fun w => 1 ≤ w ∧ w ≤ 200) (ws := [1, 2, 3, 4, 5, 6, 2, 3, 11, 40, wd]) (i := (os.getD (3 * k + 6) 0).toNat) (by
      intro w hw
      simp only [List.mem_cons, List.not_mem_nil, or_false] at hw
      rcases hw with rfl | rfl | rfl | rfl | rfl | rfl | rfl | rfl | rfl | rfl | rfl <;> first | (constructor <;> omega) | decide) (by simp only [List.length_cons, List.length_nil]; omega)
    generalize ([1, 2, 3, 4, 5, 6, 2, 3, 11, 40, wd] : List Int).getD (os.getD (3 * k + 6) 0).toNat 0 = wi at y0 y1 ⊢
    have e12 := e1.trans e2
    have hr3 := e12 _ _ hr2
    have hP3 := e12 _ _ hP2
    have ht3 := e12 _ _ ht2
    have hL3 := hL.same e12
    have gA3 := g12.trans e12
    generalize upd (upd H2 q1 (.lst [V.int 150, V.int 200])) q2 (.lst [V.int 1, V.int 2, V.int 3, V.int 4, V.int 5, V.int 6, V.int 2, V.int 3, V.int 11, V.int 40, V.int wd]) = H3 at hr3 hP3 ht3 hL3 gA3 ⊢
    walk_at "rd"
    refine rd_ixL (SqL.of hr3) (atI_of (k := 3 * k + 7) (by omega) (by omega)) ?_
    walk_at "rd"
    refine ⟨fun σ' H' => ∃ wo : Int, 1 ≤ wo ∧ wo ≤ 1000 ∧ σ' = [some (.ref a), some (.int i), some (.int m), some (.ref p3), some (.ref r), some (.int fl), some (.int gn), some (.ref t), some (.int (k : Int)), some (.int (3 * (k : Int) + 6)), some (.int wi), some (.int wo), v12, v13] ∧ H' = H3, ?_, ?_⟩
    · walk_at "rd"
      refine rd_ixL (SqL.of hr3) (atI_of (k := 3) rfl (by omega)) ?_
      walk_at "rd"
      refine ite2 (fun c => ?_) (fun c => ?_)
      · walk_at "rd"
        refine rd_ixL (SqL.of hr3) (atI_of (k := 3 * k + 7) (by omega) (by omega)) ?_
        walk_at "rd"
        exact ⟨_, by omega, by omega, rfl, rfl⟩
      · walk_at "rd"
        exact ⟨_, by omega, by omega, rfl, rfl⟩
    rintro σ' H' ⟨wo, o0, o1, rfl, hE⟩
    rw [hE]
    clear hE
    walk_at "rd"
    refine ⟨fun σ' H' => ∃ wo : Int, 1 ≤ wo ∧ wo ≤ 1000 ∧ σ' = [some (.ref a), some (.int i), some (.int m), some (.ref p3), some (.ref r), some (.int fl), some (.int gn), some (.ref t), some (.int (k : Int)), some (.int (3 * (k : Int) + 6)), some (.int wi), some (.int wo), v12, v13] ∧ H' = H3, ?_, ?_⟩
    · walk_at "rd"
      refine rd_ixL (SqL.of hr3) (atI_of (k := 3) rfl (by omega)) ?_
      walk_at "rd"
      refine ite2 (fun c => ?_) (fun c => ?_)
      · walk_at "rd"
        refine rd_ixL (SqL.of hr3) (atI_of (k := 3 * k + 7) (by omega) (by omega)) ?_
        walk_at "rd"
        exact ⟨_, by omega, by omega, rfl, rfl⟩
      · walk_at "rd"
        exact ⟨_, o0, o1, rfl, rfl⟩
    rintro σ' H' ⟨wo, o0, o1, rfl, hE⟩
    rw [hE]
    clear hE
    walk_at "rd"
    refine ⟨fun σ' H' => ∃ wo : Int, 1 ≤ wo ∧ wo ≤ 1000 ∧ σ' = [some (.ref a), some (.int i), some (.int m), some (.ref p3), some (.ref r), some (.int fl), some (.int gn), some (.ref t), some (.int (k : Int)), some (.int (3 * (k : Int) + 6)), some (.int wi), some (.int wo), v12, v13] ∧ H' = H3, ?_, ?_⟩
    · walk_at "rd"
      refine rd_ixL (SqL.of hr3) (atI_of (k := 3) rfl (by omega)) ?_
      walk_at "rd"
      refine ite2 (fun c => ?_) (fun c => ?_)
      · walk_at "rd"
        exact ⟨_, by omega, by omega, rfl, rfl⟩
      · walk_at "rd"
        exact ⟨_, o0, o1, rfl, rfl⟩
    rintro σ' H' ⟨wo, o0, o1, rfl, hE⟩
    rw [hE]
    clear hE
    walk_at "rd"
    refine ⟨small (by simp), fun q3 hq3 => ?_⟩
    have e3 := same_new hq3 (.lst [V.int 0, V.int 0, V.int 1, V.int 2, V.int 3, V.int 12])
    have ht4 := e3 _ _ ht3
    have hL4 := hL3.same e3
    have gA4 := gA3.trans e3
    walk_at "rd"
    refine rd_ixL (SqL.of (e3 _ _ hr3)) (atI_of (k := 3 * k + 8) (by omega) (by omega)) ?_
    refine rd_ixL (xs := ([0, 0, 1, 2, 3, 12] : List Int).map V.int) (SqL.of upd_same) (atI_of (k := (os.getD (3 * k + 8) 0).toNat) (by omega) (by simp only [List.length_cons, List.length_nil]; omega)) ?_
    obtain ⟨z0, z1⟩ := getD_all (P := fun w => 0 ≤ w ∧ w ≤ 12) (ws := [0, 0, 1, 2, 3, 12]) (i := (os.getD (3 * k + 8) 0).toNat) (by
      intro w hw
      simp only [List.mem_cons, List.not_mem_nil, or_false] at hw
      rcases hw with rfl | rfl | rfl | rfl | rfl | rfl <;> decide) (by simp only [List.length_cons, List.length_nil]; omega)
    generalize ([0, 0, 1, 2, 3, 12] : List Int).getD (os.getD (3 * k + 8) 0).toNat 0 = av at z0 z1 ⊢
    have av0 : 0 ≤ av * fl := Int.mul_nonneg z0 (by omega)
    walk_at "rd"
    generalize hal : (if (10 : Int) ^ (18 : Int).toNat - 1 < av * fl then (10 : Int) ^ (18 : Int).toNat - 1 else av * fl) = al
    have al0 : 0 ≤ al ∧ al < 10 ^ 18 := by
      have t18 : (10 : Int) ^ (18 : Int).toNat = 10 ^ 18 := rfl
      rw [t18] at hal
      rw [← hal]
      split
      · exact ⟨by omega, by omega⟩
      · exact ⟨by omega, by omega⟩
    refine rd_ixL (SqL.of (e3 _ _ hr3)) (atI_of (k := 4) rfl (by omega)) ?_
    walk_at "rd"
    refine rd_ixL (SqL.of (e3 _ _ hr3)) (atI_of (k := 5) rfl (by omega)) ?_
    walk_at "rd"
    refine rd_ixL (SqL.of (e3 _ _ hP3)) (atS_of (k := ((os.getD 4 0 + (2 * os.getD 5 0 + 1) * (k : Int)) % 16).toNat) (by omega) (by show _ < 16; omega)) ?_
    have en : poolL.getD ((os.getD 4 0 + (2 * os.getD 5 0 + 1) * (k : Int)) % 16).toNat "" = nameAt (os.getD 4 0) (os.getD 5 0) k := rfl
    have eo : PyData.strOk (nameAt (os.getD 4 0) (os.getD 5 0) k) = true := pool_ok _ (by omega)
    rw [en]
    walk_at "rd"
    generalize hwg : (if (10 : Int) ^ (18 : Int).toNat < wo * gn then (10 : Int) ^ (18 : Int).toNat else wo * gn) = wg
    have wg0 : 1 ≤ wg ∧ wg ≤ 10 ^ 18 := by
      have t18 : (10 : Int) ^ (18 : Int).toNat = 10 ^ 18 := rfl
      rw [t18] at hwg
      have p1 : 1 * 1 ≤ wo * gn := Int.mul_le_mul o0 n0 (by decide) (by omega)
      rw [← hwg]
      split
      · exact ⟨by omega, by omega⟩
      · exact ⟨by omega, by omega⟩
    refine ⟨small (by simp), fun p8 hp8 => ?_⟩
    have e4 := same_new hp8 (.tup (kindV ⟨nameAt (os.getD 4 0) (os.getD 5 0) k, wi, wg, al⟩))
    have hlv := hL.len
    walk_at "rd"
    refine rd_app (e4 _ _ ht4) (small1000 (by omega)) ?_
    have hsn := (hL4.same e4).snoc (x := Kd.mk (nameAt (os.getD 4 0) (os.getD 5 0) k) wi wg al) (e4 _ _ ht4) upd_same
    refine ⟨vs ++ [V.ref p8], ks ++ [Kd.mk (nameAt (os.getD 4 0) (os.getD 5 0) k) wi wg al], _, _, _, _, _, _, rfl, same_upd (gA4.trans e4) hH8t _, upd_same, hsn, by rw [List.length_append, hkl]; rfl, ?_, ?_⟩
    · intro x hx
      rcases List.mem_append.mp hx with hx | hx
      · exact hks x hx
      · rw [List.mem_singleton.mp hx]
        exact ⟨eo, y0, y1, wg0.1, wg0.2, al0.1, al0.2⟩
    · rw [List.map_append, hnm, List.range_succ, List.map_append]
      rfl
  · rintro σ H2 ⟨vs, ks, v8, v9, v10, v11, v12, v13, rfl, g12, ht2, hL, hkl, hks, hnm⟩
    walk_at "rd"
    exact q t H2 ks (gC.trans g12) (gC.free hH8t) ⟨⟨vs, ht2, hL⟩, hks, by rw [hnm]; exact names_nd a5 b5 (by omega)⟩ (by omega)

theorem ok_law_drawn (F : Fun K "_law_drawn" "_law_drawn" s_law_drawn f fd) (T : Txt mg K cCutError cNoPlace cNoParting) (D_law_flaw : Def P w K mg base CX0 9 "_law_flaw" ["_law_script", "_law_place", "_law_most"] (spFlaw K)) (D_law_roll : Def P w K mg base CX0 9 "_law_roll" ["_law_script", "_law_place", "_law_most", "_law_flaw_here"] (spRoll K)) (D_law_table : Def P w K mg base CX0 9 "_law_table" ["_law_script", "_law_place", "_law_most"] (spTable K)) : FnOk P w K mg base CX0 10 f fd ["_law_script", "_law_place", "_law_most", "_law_kinds"] (spDrawn K) := by
  refine F.okQ sc_law_drawn (fun vs H Q E h => ?_) (fun cdv A outer s H vs Q E hr h => ?_)
  · obtain ⟨a, ns, i, m, ki, rfl, _⟩ := h
    rfl
  obtain ⟨a, ns, i, m, ki, rfl, hScr, h0, h1, m0, m1, k0, k1, q⟩ := h
  have sc := sc_law_drawn
  refine ⟨_, (qss_cons (qs_set (i := 4) sc.nd rfl (Or.inl rfl) (qe_callD D_law_flaw (hr.mono (by decide)) rfl pass0 (qa_cons (qv 0) (qa_cons (qv 1) (qa_cons (qv 3) qa_nil star_name) star_name) star_name) (he := star_name)))
      (qss_one (qs_ret (qe_tup (qa_cons (qe_callD D_law_roll (hr.mono (by decide)) rfl pass0 (qa_cons (qv 0) (qa_cons (qe_op op_addA (qv 1) qe_int) (qa_cons (qv 2) (qa_cons (qv 4) qa_nil star_name) star_name) star_bin) star_name) (he := star_name)) (qa_cons (qe_callD D_law_table (hr.mono (by decide)) rfl pass0 (qa_cons (qv 0) (qa_cons (qv 1) (qa_cons (qv 3) qa_nil star_name) star_name) star_name) (he := star_name)) qa_nil star_call) star_call))))), ?_⟩
  walk_at "rd"
  refine ⟨a, ns, i, ki, rfl, hScr, h0, by omega, k0, by omega, fun fl H1 g1 f0 f1 => ?_⟩
  walk_at "rd"
  refine ⟨a, ns, i + 1, m, fl, rfl, hScr.same g1, by omega, by omega, m0, m1, f0, f1, fun r H2 ws g2 hr1 hr2 hwl hws => ?_⟩
  walk_at "rd"
  refine ⟨a, ns, i, ki, rfl, (hScr.same g1).same g2, h0, by omega, k0, k1, fun t H3 ks g3 ht2 hT hkl => ?_⟩
  walk_at "rd"
  refine ⟨small (by simp), fun p hp => ?_⟩
  have g4 := same_new hp (.tup [V.ref r, V.ref t])
  have rt : r ≠ t := ne_of_none hr2 ht2
  exact q p r t _ ws ks (g1.trans (g2.trans (g3.trans g4))) upd_same (g1.free hr1) ((g1.trans g2).free ht2) rt (g4 _ _ (g3 _ _ hr2)) (hT.same g4) hwl hws hkl

theorem ok_law_sums (F : Fun K "_law_sums" "_law_sums" s_law_sums f fd) (T : Txt mg K cCutError cNoPlace cNoParting) : FnOk P w K mg base CX0 7 f fd ["_law_roll_here"] (spSums K) := by
  refine F.okQ sc_law_sums (fun vs H Q E h => ?_) (fun cdv A outer s H vs Q E hr h => ?_)
  · obtain ⟨a, ns, rfl, _⟩ := h
    rfl
  obtain ⟨a, ns, rfl, hS, hnl, q⟩ := h
  have sc := sc_law_sums
  refine ⟨_, (qss_cons (qs_set (i := 1) sc.nd rfl (Or.inl rfl) (qe_lst (qa_cons qe_int qa_nil star_const)))
      (qss_cons (qs_for PassesOwn.never rfl (qi_list (qv 0)) (qg_name (i := 2) sc.nd rfl (Or.inl rfl))
        (qss_one (qs_expr (qe_bm PySem.F.plainAttrs_list PySem.F.slot_list_append PySem.F.type_list_append mt_append (qv 1) (qa_cons (qe_op op_addA (qe_ix ix_seq (qv 1) (qe_un un_neg qe_int) plain_un) (qv 2)) qa_nil star_bin) (hs := star_bin)))))
      (qss_one (qs_ret (qv 1))))), ?_⟩
  walk_at "rd"
  refine ⟨small (by simp), fun r hr1 => ?_⟩
  have g1 := same_new hr1 (.lst [V.int 0])
  walk_at "rd"
  refine rd_forL (g1.seq hS) ?_
  refine (for_list (K := K) (a := a) (xs := ns.map V.int) (fun i σ H2 => ∃ (v : Option V), σ = [some (.ref a), some (.ref r), v] ∧ Same H H2 ∧ H2 r = some (.lst (((List.range i).map (pre ns)).map V.int ++ [V.int (pre ns i)])))
    ⟨none, rfl, g1, upd_same⟩ (fun _ _ _ _ ⟨_, _, g, _⟩ => g.seq hS) ?_ ?_)
  · rintro i x σ H2 hx ⟨v, rfl, g2, hr2⟩
    rw [List.getElem?_map] at hx
    obtain ⟨y, hy, rfl⟩ := Option.map_eq_some_iff.mp hx
    have hi := (List.getElem?_eq_some_iff.mp hy).1
    walk_at "rd"
    refine rd_ixL (SqL.of hr2) (atI_last _ _) ?_
    walk_at "rd"
    refine rd_app hr2 (small1000 (by simp; omega)) ?_
    refine ⟨_, rfl, same_upd g2 hr1 _, ?_⟩
    rw [upd_same, pre_succ hy, List.range_succ, List.map_append, List.map_append]
    rfl
  · rintro σ H2 ⟨v, rfl, g2, hr2⟩
    walk_at "rd"
    refine q r H2 g2 hr1 ?_
    rw [hr2, List.length_map]
    unfold sumsOf
    rw [List.range_succ, List.map_append, List.map_append]
    rfl
theorem ok_law_good (F : Fun K "_law_good" "_law_good" s_law_good f fd) (T : Txt mg K cCutError cNoPlace cNoParting) : FnOk P w K mg base CX0 7 f fd ["_law_sums_here", "_law_kind", "_law_at"] (spGood K) := by
  refine F.okQ sc_law_good (fun vs H Q E h => ?_) (fun cdv A outer s H vs Q E hr h => ?_)
  · obtain ⟨a, c, ns, kd, p, rfl, _⟩ := h
    rfl
  obtain ⟨a, c, ns, kd, p, rfl, hS, hk, w1, q⟩ := h
  have sc := sc_law_good
  refine ⟨_, (qss_cons (qs_set (i := 3) sc.nd rfl (Or.inl rfl) (qe_op op_addA (qv 2) (qe_ix ix_seq (qv 1) qe_int plain_const)))
      (qss_cons (qs_if (qt_w (qw_or (qt_cmpR (op_lt) (qv 2) qe_int (nomark _)) (qw_or1 (qt_cmpR (op_ge) (qv 3) (qe_callB (call_lenA) rfl T.len PySem.boot_len (qa_cons (qv 0) qa_nil star_name) (he := star_name)) (nomark _)))))
        (qss_one (qs_ret qe_bl))
        qss_nil)
      (qss_one (qs_ret (qe_cmpR (op_le) (qe_op op_sub (qe_ix ix_seq (qv 0) (qv 3) plain_name) (qe_ix ix_seq (qv 0) (qv 2) plain_name)) (qe_ix ix_seq (qv 1) qe_int plain_const) (nomark _)))))), ?_⟩
  walk_at "rd"
  refine rd_ixT (SqT.of hk) rfl ?_
  walk_at "rd"
  refine ite2 (fun c1 => ?_) (fun c1 => ?_)
  · have c1' := of_decide_eq_true c1
    refine iteT ?_
    walk_at "rd"
    have e : good ns kd p = false := decide_eq_false (by omega)
    rw [← e]
    exact q
  · have c1' := of_decide_eq_false (Bool.eq_false_iff.mpr c1)
    walk_at "rd"
    refine ite2 (fun c2 => ?_) (fun c2 => ?_)
    · have c2' := of_decide_eq_true c2
      rw [List.length_map, sums_len] at c2'
      walk_at "rd"
      have e : good ns kd p = false := decide_eq_false (by omega)
      rw [← e]
      exact q
    · have c2' := of_decide_eq_false (Bool.eq_false_iff.mpr c2)
      rw [List.length_map, sums_len] at c2'
      walk_at "rd"
      refine rd_ixL hS (atI_of (k := (p + kd.w).toNat) (by omega) (by rw [sums_len]; omega)) ?_
      walk_at "rd"
      refine rd_ixL hS (atI_of (k := p.toNat) (by omega) (by rw [sums_len]; omega)) ?_
      walk_at "rd"
      refine rd_ixT (SqT.of hk) rfl ?_
      walk_at "rd"
      rw [sums_at _ _ (by omega), sums_at _ _ (by omega)]
      have e : good ns kd p = decide (pre ns (p + kd.w).toNat - pre ns p.toNat ≤ kd.al) := by
        unfold good
        by_cases z : pre ns (p + kd.w).toNat - pre ns p.toNat ≤ kd.al
        · rw [decide_eq_true z]
          exact decide_eq_true ⟨by omega, by omega, z⟩
        · rw [decide_eq_false z]
          exact decide_eq_false fun y => z y.2.2
      rw [← e]
      exact q
theorem ok_law_is_whole (F : Fun K "_law_is_whole" "_law_is_whole" s_law_is_whole f fd) (T : Txt mg K cCutError cNoPlace cNoParting) : FnOk P w K mg base CX0 7 f fd ["_law_one"] spWhole := by
  refine F.okQ sc_law_is_whole (fun vs H Q E h => ?_) (fun cdv A outer s H vs Q E hr h => ?_)
  · obtain ⟨i, rfl, _⟩ := h
    rfl
  obtain ⟨i, rfl, q⟩ := h
  have sc := sc_law_is_whole
  refine ⟨_, (qss_one (qs_ret (qe_and (qe_callB (call_isinst) rfl T.isinstance PyProof.Rows.boot_isinstance (qa_cons (qv 0) (qa_cons (qe_bltn (v := .ty "int") rfl T.int PyProof.Rows.boot_int rfl) qa_nil star_name) star_name) (he := star_name)) (qe_one (qe_not (qe_callB (call_isinst) rfl T.isinstance PyProof.Rows.boot_isinstance (qa_cons (qv 0) (qa_cons (qe_bltn (v := .ty "bool") rfl T.bool PyProof.Rows.boot_bool rfl) qa_nil star_name) star_name) (he := star_name))))))), ?_⟩
  walk_at "rd"
  refine rd_isI (.int i) (b := true) rfl ?_
  walk_at "rd"
  refine iteT ?_
  walk_at "rd"
  refine rd_isI (.int i) (b := false) rfl ?_
  walk_at "rd"
  exact q

theorem ok_law_heights (F : Fun K "_law_heights" "_law_heights" s_law_heights f fd) (T : Txt mg K cCutError cNoPlace cNoParting) (D_law_sums : Def P w K mg base CX0 7 "_law_sums" ["_law_roll_here"] (spSums K)) (D_law_good : Def P w K mg base CX0 7 "_law_good" ["_law_sums_here", "_law_kind", "_law_at"] (spGood K)) : FnOk P w K mg base CX0 8 f fd ["_law_roll_here", "_law_table_here"] (spHts K) := by
  refine F.okQ sc_law_heights (fun vs H Q E h => ?_) (fun cdv A outer s H vs Q E hr h => ?_)
  · obtain ⟨a, t, ns, ks, tv, rfl, _⟩ := h
    rfl
  obtain ⟨a, t, ns, ks, tv, rfl, hS, hT, hL, hw, hnl, hkl, q⟩ := h
  have sc := sc_law_heights
  refine ⟨_, (qss_cons (qs_set (i := 2) sc.nd rfl (Or.inl rfl) (qe_callD D_law_sums (hr.mono (by decide)) rfl pass0 (qa_cons (qv 0) qa_nil star_name) (he := star_name)))
      (qss_cons (qs_set (i := 3) sc.nd rfl (Or.inl rfl) (qe_lst (qa_cons qe_int qa_nil star_const)))
      (qss_cons (qs_for PassesOwn.never rfl (qi_range2 rfl T.range (qa_cons qe_int (qa_cons (qe_callB (call_lenA) rfl T.len PySem.boot_len (qa_cons (qv 2) qa_nil star_name) (he := star_name)) qa_nil star_call) star_const)) (qg_name (i := 4) sc.nd rfl (Or.inl rfl))
        (qss_cons (qs_set (i := 5) sc.nd rfl (Or.inl rfl) (qe_ix ix_seq (qv 3) (qe_un un_neg qe_int) plain_un))
          (qss_cons (qs_for PassesOwn.never rfl (qi_list (qv 1)) (qg_name (i := 6) sc.nd rfl (Or.inl rfl))
            (qss_cons (qs_set (i := 7) sc.nd rfl (Or.inl rfl) (qe_op op_sub (qv 4) (qe_ix ix_seq (qv 6) qe_int plain_const)))
              (qss_one (qs_if (qt_val (qe_callD D_law_good (hr.mono (by decide)) rfl pass0 (qa_cons (qv 2) (qa_cons (qv 6) (qa_cons (qv 7) qa_nil star_name) star_name) star_name) (he := star_name)))
                (qss_one (qs_set (i := 5) sc.nd rfl (Or.inl rfl) (qe_callB (call_maxA rfl) rfl T.max PyProof.Rows.boot_max (qa_cons (qv 5) (qa_cons (qe_op op_addA (qe_ix ix_seq (qv 3) (qv 7) plain_name) (qe_ix ix_seq (qv 6) qe_int plain_const)) qa_nil star_bin) star_name) (he := star_name))))
                qss_nil))))
          (qss_one (qs_expr (qe_bm PySem.F.plainAttrs_list PySem.F.slot_list_append PySem.F.type_list_append mt_append (qv 3) (qa_cons (qv 5) qa_nil star_name) (hs := star_name)))))))
      (qss_one (qs_ret (qv 3)))))), ?_⟩
  walk_at "rd"
  refine ⟨a, ns, rfl, hS, hnl, fun sm H0 g0 hs0 hsm => ?_⟩
  walk_at "rd"
  refine ⟨small (by simp), fun r hr1 => ?_⟩
  have gg := same_new hr1 (.lst [V.int 0])
  have hHr : H r = none := g0.free hr1
  have hsm1 := gg _ _ hsm
  walk_at "rd"
  refine ⟨⟨by omega, by omega, by omega, by rw [List.length_map, sums_len]; omega⟩, ?_⟩
  rw [List.length_map, sums_len, show (((ns.length + 1 : Nat) : Int) - 1).toNat = ns.length by omega]
  refine (for_range (fun j σ H2 => ∃ (v4 v5 v6 v7 : Option V), σ = [some (.ref a), some (.ref t), some (.ref sm), some (.ref r), v4, v5, v6, v7] ∧ Same H0 H2 ∧ H2 r = some (.lst ((hts ns ks j).map V.int)))
    ⟨none, none, none, none, rfl, gg, upd_same⟩ ?_ ?_)
  · rintro j σ H2 hj ⟨v4, v5, v6, v7, rfl, g2, hr2⟩
    have hT0 := g0.seq hT
    walk_at "rd"
    refine rd_ixL (SqL.of hr2) (atI_lastD (hts_ne _ _ _)) ?_
    walk_at "rd"
    refine rd_forL (g2.seq hT0) ?_
    refine (for_list (K := K) (a := t) (xs := tv) (fun i σ H3 => ∃ (v6 v7 : Option V), σ = [some (.ref a), some (.ref t), some (.ref sm), some (.ref r), some (.int (1 + (j : Int))), some (.int ((ks.take i).foldl (stepM ns (hts ns ks j)) (lastD (hts ns ks j)))), v6, v7] ∧ H3 = H2)
      ⟨v6, v7, rfl, rfl⟩ (fun _ _ _ _ ⟨_, _, _, e⟩ => by rw [e]; exact g2.seq hT0) ?_ ?_)
    · rintro i x σ H3 hx ⟨v6, v7, rfl, hE⟩
      rw [hE]
      clear hE
      obtain ⟨kd, hkd, p, rfl, hp0⟩ := hL.get hx
      have hp := g2 _ _ (g0 _ _ hp0)
      have hkm := List.mem_of_getElem? hkd
      have hw1 := hw kd hkm
      walk_at "rd"
      refine rd_ixT (SqT.of hp) rfl ?_
      walk_at "rd"
      refine ⟨sm, p, ns, kd, 1 + (j : Int) - kd.w, rfl, g2.seq (SqL.of hsm), hp, hw1, ?_⟩
      have eg : good ns kd (1 + (j : Int) - kd.w) = endsAt ns (hts ns ks j) kd := by
        unfold endsAt
        rw [hts_len]
        congr 1
        omega
      rw [eg]
      walk_at "rd"
      refine ite2 (fun c => ?_) (fun c => ?_)
      · have hgd := of_decide_eq_true (show good ns kd (((hts ns ks j).length : Int) - kd.w) = true from c)
        rw [hts_len] at hgd
        walk_at "rd"
        refine rd_ixL (SqL.of hr2) (atI_of (k := (((hts ns ks j).length : Int) - kd.w).toNat) (by rw [hts_len]; omega) (by rw [hts_len]; omega)) ?_
        walk_at "rd"
        refine rd_ixT (SqT.of hp) rfl ?_
        walk_at "rd"
        refine ⟨some (.ref p), some (.int (1 + (j : Int) - kd.w)), ?_, rfl⟩
        rw [foldl_take hkd]
        unfold stepM
        rw [if_pos c]
        rfl
      · walk_at "rd"
        refine ⟨some (.ref p), some (.int (1 + (j : Int) - kd.w)), ?_, rfl⟩
        rw [foldl_take hkd]
        unfold stepM
        rw [if_neg c]
        rfl
    · rintro σ H3 ⟨v6, v7, rfl, hE⟩
      rw [hE]
      clear hE
      walk_at "rd"
      refine rd_app hr2 (small1000 (by rw [List.length_map, hts_len]; omega)) ?_
      refine ⟨_, _, _, _, rfl, same_upd g2 hr1 _, ?_⟩
      rw [upd_same, hts, List.map_append, hL.len, List.take_length]
      rfl
  · rintro σ H2 ⟨v4, v5, v6, v7, rfl, g2, hr2⟩
    walk_at "rd"
    exact q r H2 (g0.trans g2) hHr hr2

theorem ok_law_lost (F : Fun K "_law_lost" "_law_lost" s_law_lost f fd) (T : Txt mg K cCutError cNoPlace cNoParting) (D_law_heights : Def P w K mg base CX0 8 "_law_heights" ["_law_roll_here", "_law_table_here"] (spHts K)) : FnOk P w K mg base CX0 9 f fd ["_law_roll_here", "_law_table_here", "_law_at", "_law_high"] (spLost K) := by
  refine F.okQ sc_law_lost (fun vs H Q E h => ?_) (fun cdv A outer s H vs Q E hr h => ?_)
  · obtain ⟨a, t, u, ns, ks, tv, i, rfl, _⟩ := h
    rfl
  obtain ⟨a, t, u, ns, ks, tv, i, rfl, hR, hi, hU, q⟩ := h
  have sc := sc_law_lost
  refine ⟨_, (qss_one (qs_ret (qe_op op_sub (qe_op op_sub (qe_ix ix_seq (qv 3) (qe_un un_neg qe_int) plain_un) (qe_ix ix_seq (qv 3) (qv 2) plain_name)) (qe_ix ix_seq (qe_callD D_law_heights (hr.mono (by decide)) rfl pass0 (qa_cons (qe_slice sl_list (qv 0) (qo_some (qv 2)) qo_none) (qa_cons (qv 1) qa_nil star_name) star_sub) (he := star_sub)) (qe_un un_neg qe_int) plain_un)))), ?_⟩
  walk_at "rd"
  refine rd_ixL hU (atI_lastD (hts_ne _ _ _)) ?_
  walk_at "rd"
  refine rd_ixL hU (atI_of (k := i) rfl (by rw [hts_len]; omega)) ?_
  walk_at "rd"
  refine rd_slL hR.ro fun p hp => ?_
  rw [cut_drop hi]
  have g1 := same_new hp (.lst ((ns.drop i).map V.int))
  have hR1 := hR.same g1
  walk_at "rd"
  refine ⟨p, t, ns.drop i, ks, tv, rfl, SqL.of upd_same, hR1.ta, hR1.ki, hR1.w1, by rw [List.length_drop]; have := hR.nl; omega, hR.kl, fun r H2 g2 hr1 hr2 => ?_⟩
  walk_at "rd"
  refine rd_ixL (SqL.of hr2) (atI_lastD (hts_ne _ _ _)) ?_
  walk_at "rd"
  have e1 : lastD (hts (ns.drop i) ks (ns.drop i).length) = restAt ns ks i := by
    rw [List.length_drop]
    exact hAt_tail hR.w1 hi
  rw [e1, hts_at _ _ _ _ hi]
  exact q _ (g1.trans g2)
theorem ok_law_refused (F : Fun K "_law_refused" "_law_refused" s_law_refused f fd) (T : Txt mg K cCutError cNoPlace cNoParting) (Dparting_loss : Def P w K mg base (CXE P w) 13 "parting_loss" ["roll", "table", "place"] (spPartLoss K cNoPlace)) : FnOk P w K mg base CX0 14 f fd ["_law_roll_here", "_law_table_here", "_law_place"] (spRefused K) := by
  refine F.okQ sc_law_refused (fun vs H Q E h => ?_) (fun cdv A outer s H vs Q E hr h => ?_)
  · obtain ⟨a, t, ns, ks, tv, p, rfl, _⟩ := h
    rfl
  obtain ⟨a, t, ns, ks, tv, p, rfl, hR, fp, hn, q⟩ := h
  have sc := sc_law_refused
  refine ⟨_, (qss_cons (qs_try (i := 3) T.mCutError sc.nd rfl rfl (fun E pn => (qss_one (qs_expr (qe_callD Dparting_loss (hr.mono (by decide)) rfl passE (qa_cons (qv 0) (qa_cons (qv 1) (qa_cons (qv 2) qa_nil star_name) star_name) star_name) (he := star_name)))))
        (fun e => (qss_one (qs_ret (qe_and (qe_callB (r := rIsX K) (call_isX) rfl T.isinstance PyProof.Rows.boot_isinstance (qa_cons (qv 3) (qa_cons (qe_glob (v := .ref cNoPlace) rfl T.mNoPlace rfl) qa_nil star_name) star_name) (he := star_name)) (qe_one (qe_not (qe_callB (r := rIsX K) (call_isX) rfl T.isinstance PyProof.Rows.boot_isinstance (qa_cons (qv 3) (qa_cons (qe_glob (v := .ref cNoParting) rfl T.mNoParting rfl) qa_nil star_name) star_name) (he := star_name)))))))))
      (qss_one (qs_ret qe_bl))), ?_⟩
  walk_at "rd"
  refine ⟨fun cls _ H' => cls = .ref cNoPlace ∧ Same H H', ?_, ?_⟩
  · walk_at "rd"
    exact ⟨a, t, ns, ks, tv, p, rfl, hR, fp, fun hin => absurd hin hn, fun _ H1 g1 => ⟨rfl, g1⟩⟩
  · rintro cls H1 ea ⟨rfl, g1⟩ he
    refine ⟨T.eCutError.exm T.sNoPlace_CutError, fun σ' hσ => ?_⟩
    obtain ⟨v0, v1, v2, v3, rfl⟩ := len4 (show σ'.length = 4 from hσ)
    have hx : upd H1 ea (exO ea (.ref cNoPlace)) ea = some (exO ea (.ref cNoPlace)) := upd_same
    have g2 := same_new he (exO ea (.ref cNoPlace))
    walk_at "rd"
    refine rd_isX hx T.eNoPlace T.eNoPlace T.eNoPlace.se ?_
    walk_at "rd"
    refine iteT ?_
    walk_at "rd"
    refine rd_isX hx T.eNoPlace T.eNoParting T.sNoPlace_NoParting ?_
    walk_at "rd"
    exact q _ (g1.trans g2)
theorem ok_law_free (F : Fun K "_law_free" "_law_free" s_law_free f fd) (T : Txt mg K cCutError cNoPlace cNoParting) (D_law_is_whole : Def P w K mg base CX0 7 "_law_is_whole" ["_law_one"] spWhole) : FnOk P w K mg base CX0 8 f fd ["_law_found", "_law_due"] (spRight K) := by
  refine F.okQ sc_law_free (fun vs H Q E h => ?_) (fun cdv A outer s H vs Q E hr h => ?_)
  · obtain ⟨a, b, xs, rfl, _⟩ := h
    rfl
  obtain ⟨a, b, xs, rfl, hA, hB, q⟩ := h
  have sc := sc_law_free
  have hu : _ + 64 < cLine := hr.units
  refine ⟨_, (qss_cons (qs_if (qt_w (qw_or (qt_not (qt_val (qe_callB (call_isinst) rfl T.isinstance PyProof.Rows.boot_isinstance (qa_cons (qv 0) (qa_cons (qe_bltn (v := .ty "list") rfl T.list PyProof.Rows.boot_list rfl) qa_nil star_name) star_name) (he := star_name)))) (qw_or1 (qt_cmpR (op_neA hu) (qv 0) (qv 1) (nomark _)))))
        (qss_one (qs_ret qe_bl))
        qss_nil)
      (qss_cons (qs_for PassesOwn.never rfl (qi_list (qv 0)) (qg_name (i := 2) sc.nd rfl (Or.inl rfl))
        (qss_one (qs_if (qt_not (qt_val (qe_callD D_law_is_whole (hr.mono (by decide)) rfl pass0 (qa_cons (qv 2) qa_nil star_name) (he := star_name))))
            (qss_one (qs_ret qe_bl))
            qss_nil)))
      (qss_one (qs_ret qe_bl)))), ?_⟩
  walk_at "rd"
  refine rd_isI (.lst hA) (b := true) rfl ?_
  walk_at "rd"
  refine iteF ?_
  walk_at "rd"
  refine rd_neD (d := .list (xs.map PyData.int)) (.lst (SqL.of hA) (ints_dn _)) (.lst hB (ints_dn _)) (shaped_ints _) ?_
  walk_at "rd"
  refine iteF ?_
  walk_at "rd"
  refine rd_forL (SqL.of hA) ?_
  refine (for_list (K := K) (a := a) (xs := xs.map V.int) (fun i σ H2 => ∃ (v : Option V), σ = [some (.ref a), some (.ref b), v] ∧ H2 = H)
    ⟨none, rfl, rfl⟩ (fun _ _ _ _ ⟨_, _, e⟩ => by rw [e]; exact SqL.of hA) ?_ ?_)
  · rintro i x σ H2 hx ⟨v, rfl, hE⟩
    rw [hE]
    clear hE
    rw [List.getElem?_map] at hx
    obtain ⟨y, hy, rfl⟩ := Option.map_eq_some_iff.mp hx
    walk_at "rd"
    refine ⟨y, rfl, ?_⟩
    walk_at "rd"
    refine iteF ?_
    walk_at "rd"
    exact ⟨_, rfl, rfl⟩
  · rintro σ H2 ⟨v, rfl, hE⟩
    rw [hE]
    clear hE
    walk_at "rd"
    exact q

theorem oklaw (F : Fun K "law" "law" slaw f fd) (T : Txt mg K cCutError cNoPlace cNoParting) (D_law_row : Def P w K mg base CX0 8 "_law_row" ["_law_script", "_law_place", "_law_sizes"] (spRow K)) (D_law_drawn : Def P w K mg base CX0 10 "_law_drawn" ["_law_script", "_law_place", "_law_most", "_law_kinds"] (spDrawn K)) (D_law_heights : Def P w K mg base CX0 8 "_law_heights" ["_law_roll_here", "_law_table_here"] (spHts K)) (Dfree_places : Def P w K mg base CX0 13 "free_places" ["roll", "table"] (spFree K)) (D_law_free : Def P w K mg base CX0 8 "_law_free" ["_law_found", "_law_due"] (spRight K)) (Dparting_loss : Def P w K mg base (CXE P w) 13 "parting_loss" ["roll", "table", "place"] (spPartLoss K cNoPlace)) (D_law_refused : Def P w K mg base CX0 14 "_law_refused" ["_law_roll_here", "_law_table_here", "_law_place"] (spRefused K)) (D_law_is_whole : Def P w K mg base CX0 7 "_law_is_whole" ["_law_one"] spWhole) (D_law_lost : Def P w K mg base CX0 9 "_law_lost" ["_law_roll_here", "_law_table_here", "_law_at", "_law_high"] (spLost K)) : FnOk P w K mg base CX0 15 f fd ["_law_script"] (spLaw K) := by
  refine F.okQ sclaw (fun vs H Q E h => ?_) (fun cdv A outer s H vs Q E hr h => ?_)
  · obtain ⟨a, ns, rfl, _⟩ := h
    rfl
  obtain ⟨a, ns, rfl, hScr, q⟩ := h
  have sc := sclaw
  have hu : _ + 64 < cLine := hr.units
  refine ⟨_, (qss_cons (qs_set (i := 1) sc.nd rfl (Or.inl rfl) (qe_callD D_law_row (hr.mono (by decide)) rfl pass0 (qa_cons (qv 0) (qa_cons qe_int (qa_cons (qe_op op_addA (qe_lst (qa_cons qe_int (qa_cons qe_int (qa_cons (qe_op op_pow qe_int qe_int) qa_nil star_bin) star_const) star_const)) (qe_op op_mulA (qe_lst (qa_cons qe_int qa_nil star_const)) qe_int)) qa_nil star_bin) star_const) star_name) (he := star_name)))
      (qss_cons (qs_set (i := 2) sc.nd rfl (Or.inl rfl) qe_int)
      (qss_cons (qs_cut (qs_if (qt_cmpR (op_eqA hu) (qe_ix ix_seq (qv 1) qe_int plain_const) qe_int (nomark _))
        (qss_one (qs_set (i := 2) sc.nd rfl (Or.inl rfl) qe_int))
        qss_nil))
      (qss_cons (qs_asg (qe_callD D_law_drawn (hr.mono (by decide)) rfl pass0 (qa_cons (qv 0) (qa_cons qe_int (qa_cons (qv 2) (qa_cons qe_int qa_nil star_const) star_name) star_const) star_name) (he := star_name)) (qg_tup rfl (qgs_cons (qg_name (i := 3) sc.nd rfl (Or.inr rfl)) (qgs_cons (qg_name (i := 4) sc.nd rfl (Or.inl rfl)) qgs_nil))))
      (qss_cons (qs_set (i := 5) sc.nd rfl (Or.inl rfl) (qe_lst (qa_cons (qe_callTy (call_listA rfl) rfl T.list PyProof.Rows.boot_list (qa_cons (qv 3) qa_nil star_name) (he := star_name)) (qa_cons (qe_callTy (call_listA rfl) rfl T.list PyProof.Rows.boot_list (qa_cons (qv 4) qa_nil star_name) (he := star_name)) qa_nil star_call) star_call)))
      (qss_cons (qs_set (i := 6) sc.nd rfl (Or.inr rfl) (qe_callD D_law_heights (hr.mono (by decide)) rfl pass0 (qa_cons (qv 3) (qa_cons (qv 4) qa_nil star_name) star_name) (he := star_name)))
      (qss_cons (qs_comp (i := 7) (defScope slaw) ["_law_script", "_law_some", "_law_most", "_law_roll_here", "_law_table_here", "_law_handed", "_law_high", "_law_places", "_law_at", "_law_found", "_law_back_high", "_law_due"] ["_law_script", "_law_some", "_law_most", "_law_roll_here", "_law_table_here", "_law_handed", "_law_high", "_law_places", "_law_at", "_law_found", "_law_back_high", "_law_due"] ⟨rfl, by decide +kernel, by decide +kernel, rfl, by decide +kernel, by decide +kernel, by decide +kernel, by decide +kernel, rfl, by decide +kernel⟩ rfl rfl (qi_list (qe_slice sl_list (qv 1) (qo_some qe_int) (qo_some (qe_op op_addA qe_int (qe_ix ix_seq (qv 1) qe_int plain_const))))) (fun _ _ _ _ _ => qif_nil) (fun _ _ _ _ _ => qe_op op_mod (qv 12 (hv := Or.inl rfl)) (qe_op op_addA (qe_callB (r := rLenA K) (call_lenA) rfl T.len PySem.boot_len (qa_cons (qv 3 (hv := Or.inr (Or.inl rfl))) qa_nil star_name) (he := star_name)) qe_int)))
      (qss_cons (qs_for PassesOwn.never rfl (qi_list (qe_op op_addA (qv 7) (qe_lst (qa_cons qe_int (qa_cons (qe_callB (call_lenA) rfl T.len PySem.boot_len (qa_cons (qv 3) qa_nil star_name) (he := star_name)) qa_nil star_call) star_const)))) (qg_name (i := 8) sc.nd rfl (Or.inl rfl))
        (qss_cons (qs_set (i := 9) sc.nd rfl (Or.inl rfl) (qe_callD Dparting_loss (hr.mono (by decide)) rfl pass1 (qa_cons (qe_ix ix_seq (qv 5) qe_int plain_const) (qa_cons (qe_ix ix_seq (qv 5) qe_int plain_const) (qa_cons (qv 8) qa_nil star_name) star_sub) star_sub) (he := star_sub)))
          (qss_one (qs_if (qt_w (qw_or (qt_not (qt_val (qe_callD D_law_is_whole (hr.mono (by decide)) rfl pass0 (qa_cons (qv 9) qa_nil star_name) (he := star_name)))) (qw_or1 (qt_cmpR (op_neA hu) (qv 9) (qe_callD D_law_lost (hr.mono (by decide)) rfl pass0 (qa_cons (qv 3) (qa_cons (qv 4) (qa_cons (qv 8) (qa_cons (qv 6) qa_nil star_name) star_name) star_name) star_name) (he := star_name)) (nomark _)))))
            (qss_one (qs_ret qe_bl))
            qss_nil))))
      (qss_cons (qs_if (qt_not (qt_val (qe_callD D_law_refused (hr.mono (by decide)) rfl pass0 (qa_cons (qe_ix ix_seq (qv 5) qe_int plain_const) (qa_cons (qe_ix ix_seq (qv 5) qe_int plain_const) (qa_cons (qe_op op_sub (qe_un un_neg qe_int) (qe_op op_mod (qe_ix ix_seq (qv 1) qe_int plain_const) qe_int)) qa_nil star_bin) star_sub) star_sub) (he := star_sub))))
        (qss_one (qs_ret qe_bl))
        qss_nil)
      (qss_cons (qs_if (qt_not (qt_val (qe_callD D_law_refused (hr.mono (by decide)) rfl pass0 (qa_cons (qe_ix ix_seq (qv 5) qe_int plain_const) (qa_cons (qe_ix ix_seq (qv 5) qe_int plain_const) (qa_cons (qe_op op_addA (qe_op op_addA (qe_callB (call_lenA) rfl T.len PySem.boot_len (qa_cons (qv 3) qa_nil star_name) (he := star_name)) qe_int) (qe_ix ix_seq (qv 1) qe_int plain_const)) qa_nil star_bin) star_sub) star_sub) (he := star_sub))))
        (qss_one (qs_ret qe_bl))
        qss_nil)
      (qss_cons (qs_set (i := 10) sc.nd rfl (Or.inr rfl) (qe_callD D_law_heights (hr.mono (by decide)) rfl pass0 (qa_cons (qe_rev (qv 3) (qe_un un_neg qe_int)) (qa_cons (qv 4) qa_nil star_name) star_sub) (he := star_sub)))
      (qss_cons (qs_comp (i := 11) (defScope slaw) ["_law_script", "_law_some", "_law_most", "_law_roll_here", "_law_table_here", "_law_handed", "_law_high", "_law_places", "_law_at", "_law_found", "_law_back_high", "_law_due"] ["_law_script", "_law_some", "_law_most", "_law_roll_here", "_law_table_here", "_law_handed", "_law_high", "_law_places", "", "_law_found", "_law_back_high", "_law_due"] ⟨rfl, by decide +kernel, by decide +kernel, rfl, by decide +kernel, by decide +kernel, by decide +kernel, by decide +kernel, rfl, by decide +kernel⟩ rfl rfl (qi_range1 rfl T.range (qa_cons (qe_op op_addA (qe_callB (call_lenA) rfl T.len PySem.boot_len (qa_cons (qv 3) qa_nil star_name) (he := star_name)) qe_int) qa_nil star_bin)) (fun _ _ _ _ _ => qif_one (qt_cmpR (r := rEqA K) (op_eqA hu) (qe_op op_addA (qe_ix (r := rIx K) ix_seq (qv 6 (hv := Or.inr (Or.inl rfl))) (qv 12 (hv := Or.inl rfl)) plain_name) (qe_ix (r := rIx K) ix_seq (qv 10 (hv := Or.inr (Or.inl rfl))) (qe_op op_sub (qe_callB (r := rLenA K) (call_lenA) rfl T.len PySem.boot_len (qa_cons (qv 3 (hv := Or.inr (Or.inl rfl))) qa_nil star_name) (he := star_name)) (qv 12 (hv := Or.inl rfl))) plain_bin)) (qe_ix (r := rIx K) ix_seq (qv 6 (hv := Or.inr (Or.inl rfl))) (qe_un un_neg qe_int) plain_un) (nomark _))) (fun _ _ _ _ _ => qv 12 (hv := Or.inl rfl)))
      (qss_cons (qs_set (i := 9) sc.nd rfl (Or.inl rfl) (qe_callD Dfree_places (hr.mono (by decide)) rfl pass0 (qa_cons (qe_ix ix_seq (qv 5) qe_int plain_const) (qa_cons (qe_ix ix_seq (qv 5) qe_int plain_const) qa_nil star_sub) star_sub) (he := star_sub)))
      (qss_cons (qs_if (qt_w (qw_or (qt_not (qt_val (qe_callD D_law_free (hr.mono (by decide)) rfl pass0 (qa_cons (qv 9) (qa_cons (qv 11) qa_nil star_name) star_name) (he := star_name)))) (qw_or1 (qt_cmpR (op_neA hu) (qv 5) (qe_lst (qa_cons (qv 3) (qa_cons (qv 4) qa_nil star_name) star_name)) (nomark _)))))
        (qss_one (qs_ret qe_bl))
        qss_nil)
      (qss_cons (qs_expr (qe_bm PySem.F.plainAttrs_list PySem.F.slot_list_append PySem.F.type_list_append mt_append (qv 9) (qa_cons qe_int qa_nil star_const) (hs := star_const)))
      (qss_one (qs_ret (qe_callD D_law_free (hr.mono (by decide)) rfl pass0 (qa_cons (qe_callD Dfree_places (hr.mono (by decide)) rfl pass0 (qa_cons (qe_ix ix_seq (qv 5) qe_int plain_const) (qa_cons (qe_ix ix_seq (qv 5) qe_int plain_const) qa_nil star_sub) star_sub) (he := star_sub)) (qa_cons (qv 11) qa_nil star_name) star_call) (he := star_call))))))))))))))))))), ?_⟩
  walk_at "rd"
  refine ⟨small (by simp), fun p0 hp0 => ?_⟩
  have g0 := same_new hp0 (.lst (([4, 13, 10 ^ (59 : Int).toNat] : List Int).map V.int))
  walk_at "rd"
  refine ⟨small (by simp), fun p1 hp1 => ?_⟩
  have g1 := same_new hp1 (.lst (([201] : List Int).map V.int))
  walk_at "rd"
  refine rd_rep (xs := ([201] : List Int).map V.int) upd_same (by decide) (by decide) (small (by simp)) fun p2 hp2 => ?_
  rw [rep_map]
  have g2 := same_new hp2 (.lst ((List.replicate (12 : Int).toNat [(201 : Int)]).flatten.map V.int))
  refine rd_cat (xs := ([4, 13, 10 ^ (59 : Int).toNat] : List Int).map V.int) (g2 _ _ (g1 _ _ upd_same)) upd_same (small (by rw [List.length_map, List.length_map, rep_len]; simp)) fun p3 hp3 => ?_
  rw [← List.map_append]
  have g3 := same_new hp3 (.lst ((([4, 13, 10 ^ (59 : Int).toNat] : List Int) ++ (List.replicate (12 : Int).toNat [(201 : Int)]).flatten).map V.int))
  have g03 := g0.trans (g1.trans (g2.trans g3))
  walk_at "rd"
  refine ⟨a, ns, 2, p3, ([4, 13, 10 ^ (59 : Int).toNat] : List Int) ++ (List.replicate (12 : Int).toNat [(201 : Int)]).flatten, rfl, hScr.same g03, by decide, by decide, SqL.of upd_same, by rw [List.length_append, rep_len]; simp, ?_, fun so H4 os g4 hs3 hso R => ?_⟩
  · intro z hz
    rcases List.mem_append.mp hz with hz | hz
    · simp only [List.mem_cons, List.not_mem_nil, or_false] at hz
      rcases hz with rfl | rfl | rfl <;> decide
    · obtain ⟨l, hl, hz⟩ := List.mem_flatten.mp hz
      rw [(List.mem_replicate.mp hl).2] at hz
      simp only [List.mem_cons, List.not_mem_nil, or_false] at hz
      subst hz
      decide
  have hol : os.length = 15 := by
    rw [R.len, List.length_append, rep_len]
    rfl
  have hl15 : (([4, 13, 10 ^ (59 : Int).toNat] : List Int) ++ (List.replicate (12 : Int).toNat [(201 : Int)]).flatten).length = 15 := by
    rw [List.length_append, rep_len]
    rfl
  have r1 : 0 ≤ os.getD 1 0 ∧ os.getD 1 0 < 13 := R.at_ 1 (by omega)
  have r2 : 0 ≤ os.getD 2 0 ∧ os.getD 2 0 < 10 ^ (59 : Int).toNat := R.at_ 2 (by omega)
  rw [tp59] at r2
  have g04 := g03.trans g4
  have hScr4 := hScr.same g04
  clear hp0 hp1 hp2 hp3 g0 g1 g2 g3 hs3 R hl15
  walk_at "rd"
  refine ⟨fun σ' H' => ∃ (m : Int), σ' = [some (.ref a), some (.ref so), some (.int m), none, none, none, none, none, none, none, none, none] ∧ H' = H4 ∧ 0 ≤ m ∧ m ≤ 200, ?_, ?_⟩
  · walk_at "rd"
    refine rd_ixL (SqL.of hso) (atI_of (k := 0) rfl (by omega)) ?_
    walk_at "rd"
    refine ite2 (fun c => ?_) (fun c => ?_)
    · walk_at "rd"
      exact ⟨200, rfl, rfl, by decide, by decide⟩
    · walk_at "rd"
      exact ⟨40, rfl, rfl, by decide, by decide⟩
  rintro σ' H5 ⟨m, rfl, hE, m0, m1⟩
  rw [hE]
  clear hE
  walk_at "rd"
  refine ⟨a, ns, 0, m, 8, rfl, hScr4, by decide, by decide, m0, m1, by decide, by decide, fun p r t H2 ws ks g2 hp hr1 ht1 rne hr3 hT hwl hws hkl => ?_⟩
  walk_at "rd"
  refine rd_gtup (SqT.of hp) rfl ?_
  obtain ⟨tv, htv3, hLk3⟩ := hT.ex
  have hw1 : ∀ k ∈ ks, 1 ≤ k.w := fun k hk => (hT.ok k hk).w1
  have hok : ∀ k ∈ ks, PyData.strOk k.name = true := fun k hk => (hT.ok k hk).nm
  have hwl' : ws.length ≤ 200 := by omega
  have hkl' : ks.length ≤ 8 := by omega
  have hR : RT K H2 r t ws ks tv := ⟨SqL.of hr3, SqL.of htv3, hLk3, hw1, by omega, by omega⟩
  have hso2 := g2 _ _ hso
  walk_at "rd"
  refine rd_listL (SqL.of hr3) fun p4 hp4 => ?_
  have g4' := same_new hp4 (.lst (ws.map V.int))
  walk_at "rd"
  refine rd_listL (SqL.of (g4' _ _ htv3)) fun p5 hp5 => ?_
  have g5 := same_new hp5 (.lst tv)
  walk_at "rd"
  refine ⟨small (by simp), fun p6 hp6 => ?_⟩
  have g6 := same_new hp6 (.lst [V.ref p4, V.ref p5])
  have g26 := g4'.trans (g5.trans g6)
  have h4 := (g5.trans g6) _ _ (upd_same (H := H2) (a := p4) (o := .lst (ws.map V.int)))
  have h5 := g6 _ _ (upd_same (H := upd H2 p4 (.lst (ws.map V.int))) (a := p5) (o := .lst tv))
  have h6 : upd (upd (upd H2 p4 (.lst (ws.map V.int))) p5 (.lst tv)) p6 (.lst [V.ref p4, V.ref p5]) p6 = some (.lst [V.ref p4, V.ref p5]) := upd_same
  generalize upd (upd (upd H2 p4 (.lst (ws.map V.int))) p5 (.lst tv)) p6 (.lst [V.ref p4, V.ref p5]) = H6 at g26 h4 h5 h6 ⊢
  have hR6 : RT K H6 p4 p5 ws ks tv := ⟨SqL.of h4, SqL.of h5, hLk3.same g26, hw1, by omega, by omega⟩
  have hRr := hR.same g26
  walk_at "rd"
  refine ⟨r, t, ws, ks, tv, rfl, hRr.ro, hRr.ta, hRr.ki, hw1, by omega, by omega, fun hi H7 g7 hi1 hi2 => ?_⟩
  have hso7 := (g26.trans g7) _ _ hso2
  have hro7 := (hRr.same g7).ro
  walk_at "rd"
  refine rd_ixL (SqL.of hso7) (atI_of (k := 1) rfl (by omega)) ?_
  walk_at "rd"
  refine rd_slL (SqL.of hso7) fun p8 hp8 => ?_
  rw [cut_map (by omega) (by omega) (by omega)]
  have g8 := same_new hp8 (.lst (((os.drop (3 : Int).toNat).take ((3 + os.getD 1 0).toNat - (3 : Int).toNat)).map V.int))
  have h8 : upd H7 p8 (.lst (((os.drop (3 : Int).toNat).take ((3 + os.getD 1 0).toNat - (3 : Int).toNat)).map V.int)) p8 = some (.lst (((os.drop (3 : Int).toNat).take ((3 + os.getD 1 0).toNat - (3 : Int).toNat)).map V.int)) := upd_same
  have hzl : ((os.drop (3 : Int).toNat).take ((3 + os.getD 1 0).toNat - (3 : Int).toNat)).length ≤ 15 := by rw [List.length_take, List.length_drop]; omega
  generalize (os.drop (3 : Int).toNat).take ((3 + os.getD 1 0).toNat - (3 : Int).toNat) = zs at g8 h8 hzl ⊢
  generalize upd H7 p8 (.lst (zs.map V.int)) = H8 at g8 h8 ⊢
  refine rd_forL (SqL.of h8) ?_
  intro D hD
  refine comp_list (K := K) (a := p8) (xs := zs.map V.int) (fun i H9 => ∃ (ys : List Int), ys.length = i ∧ Same H8 H9 ∧ H9 D = some (.lst (ys.map V.int)) ∧ ∀ y ∈ ys, 0 ≤ y ∧ y ≤ ws.length)
    ⟨[], rfl, same_new hD _, upd_same, by simp⟩ (fun _ _ ⟨_, _, g, _⟩ => g.seq (SqL.of h8)) ?_ ?_
  · rintro i x H9 hx ⟨ys, hy, g9, hD9, hyb⟩
    have hil := (List.getElem?_eq_some_iff.mp hx).1
    rw [List.length_map] at hil
    rw [List.getElem?_map] at hx
    obtain ⟨z, hz, rfl⟩ := Option.map_eq_some_iff.mp hx
    have hro9 := (g8.trans g9).seq hro7
    walk_at "rd"
    refine iteT ?_
    walk_at "rd"
    rw [List.length_map]
    refine ⟨_, hD9, by rw [List.length_map, sizeLine_eq]; omega, ys ++ [z % ((ws.length : Int) + 1)], by rw [List.length_append, hy]; rfl, same_upd g9 hD _, ?_, ?_⟩
    · rw [upd_same, List.map_append]
      rfl
    · intro y hy'
      rcases List.mem_append.mp hy' with h | h
      · exact hyb y h
      · have e : y = z % ((ws.length : Int) + 1) := by simpa using h
        have h1 := Int.emod_nonneg z (show (ws.length : Int) + 1 ≠ 0 by omega)
        have h2 := Int.emod_lt_of_pos z (show 0 < (ws.length : Int) + 1 by omega)
        omega
  · rintro H9 ⟨ys, hy, g9, hD9, hyb⟩
    rw [List.length_map] at hy
    have g69 := g7.trans (g8.trans g9)
    have hR9 := hR6.same g69
    have hRr9 := hRr.same g69
    have hro9 := hRr9.ro
    have hi9 := (g8.trans g9) _ _ hi2
    have h69 := g69 _ _ h6
    walk_at "rd"
    refine ⟨small (by simp), fun p10 hp10 => ?_⟩
    rw [List.length_map]
    have g10 := same_new hp10 (.lst [V.int 0, V.int (ws.length : Int)])
    walk_at "rd"
    refine rd_cat (zs := ([0, (ws.length : Int)] : List Int).map V.int) (g10 _ _ hD9) upd_same (small (by rw [List.length_map, List.length_map]; simp only [List.length_cons, List.length_nil]; omega)) fun p11 hp11 => ?_
    rw [← List.map_append]
    have g11 := same_new hp11 (.lst ((ys ++ [0, (ws.length : Int)]).map V.int))
    have h11 : upd (upd H9 p10 (.lst [V.int 0, V.int (ws.length : Int)])) p11 (.lst ((ys ++ [0, (ws.length : Int)]).map V.int)) p11 = some (.lst ((ys ++ [0, (ws.length : Int)]).map V.int)) := upd_same
    have g911 := g10.trans g11
    generalize upd (upd H9 p10 (.lst [V.int 0, V.int (ws.length : Int)])) p11 (.lst ((ys ++ [0, (ws.length : Int)]).map V.int)) = H11 at g911 h11 ⊢
    have hpb : ∀ y ∈ ys ++ [0, (ws.length : Int)], 0 ≤ y ∧ y ≤ ws.length := fun y hy' => by
      rcases List.mem_append.mp hy' with h | h
      · exact hyb y h
      · simp only [List.mem_cons, or_false, List.not_mem_nil] at h
        omega
    generalize ys ++ [0, (ws.length : Int)] = ps at h11 hpb ⊢
    have hR11 := hR9.same g911
    have hRr11 := hRr9.same g911
    have hi11 := g911 _ _ hi9
    have h611 := g911 _ _ h69
    refine rd_forL (SqL.of h11) ?_
    refine (for_list (K := K) (a := p11) (xs := ps.map V.int) (fun i σ H12 => ∃ (v8 v9 : Option V), σ = [some (.ref a), some (.ref so), some (.int m), some (.ref r), some (.ref t), some (.ref p6), some (.ref hi), some (.ref D), v8, v9, none, none] ∧ Same H11 H12)
      ⟨none, none, rfl, Same.refl _⟩ (fun _ _ _ _ ⟨_, _, _, g⟩ => g.seq (SqL.of h11)) ?_ ?_)
    · rintro i x σ H12 hx ⟨v8, v9, rfl, g12⟩
      rw [List.getElem?_map] at hx
      obtain ⟨y, hy, rfl⟩ := Option.map_eq_some_iff.mp hx
      have hyy := hpb y (List.mem_of_getElem? hy)
      obtain ⟨k, rfl⟩ : ∃ k : Nat, y = (k : Int) := ⟨y.toNat, by omega⟩
      walk_at "rd"
      refine rd_ixL (SqL.of (g12 _ _ h611)) rfl ?_
      walk_at "rd"
      refine rd_ixL (SqL.of (g12 _ _ h611)) rfl ?_
      walk_at "rd"
      refine ⟨p4, p5, ws, ks, tv, (k : Int), rfl, hR11.same g12, ⟨by omega, by omega⟩, fun hin H13 g13 => ?_, fun hn => absurd hyy hn⟩
      rw [Int.toNat_natCast]
      have g1113 := g12.trans g13
      walk_at "rd"
      refine ⟨lossAt ws ks k, rfl, ?_⟩
      walk_at "rd"
      refine iteF ?_
      walk_at "rd"
      refine ⟨r, t, hi, ws, ks, tv, k, rfl, hRr11.same g1113, by omega, SqL.of (g1113 _ _ hi11), fun H14 g14 => ?_⟩
      walk_at "rd"
      rw [decide_eq_true (rfl : lossAt ws ks k = lossAt ws ks k)]
      refine iteF ?_
      walk_at "rd"
      exact ⟨_, _, rfl, g1113.trans g14⟩
    · rintro σ H12 ⟨v8, v9, rfl, g12⟩
      have hso12 := (g7.trans (g8.trans (g9.trans (g911.trans g12)))) _ _ (g26 _ _ hso2)
      have h612 := g12 _ _ h611
      have hro12 := (hRr11.same g12).ro
      walk_at "rd"
      refine rd_ixL (SqL.of h612) rfl ?_
      walk_at "rd"
      refine rd_ixL (SqL.of h612) rfl ?_
      walk_at "rd"
      refine rd_ixL (SqL.of hso12) (atI_of (k := 2) rfl (by omega)) ?_
      walk_at "rd"
      refine ⟨p4, p5, ws, ks, tv, -1 - os.getD 2 0 % 3, rfl, hR11.same g12, ⟨by omega, by omega⟩, by omega, fun H13 g13 => ?_⟩
      have g1113 := g12.trans g13
      have h613 := g1113 _ _ h611
      have hro13 := g13.seq hro12
      walk_at "rd"
      refine iteF ?_
      walk_at "rd"
      refine rd_ixL (SqL.of h613) rfl ?_
      walk_at "rd"
      refine rd_ixL (SqL.of h613) rfl ?_
      walk_at "rd"
      refine rd_ixL (SqL.of (g13 _ _ hso12)) (atI_of (k := 2) rfl (by omega)) ?_
      walk_at "rd"
      rw [List.length_map]
      refine ⟨p4, p5, ws, ks, tv, (ws.length : Int) + 1 + os.getD 2 0, rfl, hR11.same g1113, ⟨by omega, by omega⟩, by omega, fun H14 g14 => ?_⟩
      have g1114 := g1113.trans g14
      have hRr14 := hRr11.same g1114
      walk_at "rd"
      refine iteF ?_
      walk_at "rd"
      refine rd_rev1 hRr14.ro fun p15 hp15 => ?_
      rw [← List.map_reverse]
      have g15 := same_new hp15 (.lst (ws.reverse.map V.int))
      have hRr15 := hRr14.same g15
      walk_at "rd"
      refine ⟨p15, t, ws.reverse, ks, tv, rfl, SqL.of upd_same, hRr15.ta, hRr15.ki, hw1, by rw [List.length_reverse]; omega, by omega, fun bk H16 g16 hb1 hb2 => ?_⟩
      rw [List.length_reverse] at hb2
      have g1416 := g15.trans g16
      have g1116 := g1114.trans g1416
      have hro16 := (hRr11.same g1116).ro
      have hi16 := SqL.of (K := K) (g1116 _ _ hi11)
      walk_at "rd"
      refine rd_rng1 (n := ws.length + 1) (by simp) (by omega) ?_
      rw [Int.toNat_natCast]
      intro D2 hD2
      refine comp_range (fun i H17 => Same H16 H17 ∧ H17 D2 = some (.lst ((freeL ws ks i).map V.int))) ⟨same_new hD2 _, upd_same⟩ ?_ ?_
      · rintro i H17 hi' ⟨g17, hD17⟩
        have hfl := freeL_len ws ks i
        have hro17 := g17.seq hro16
        have hi17 := g17.seq hi16
        have e0 : hAt ws.reverse ks (ws.length - i) = restAt ws ks i := rfl
        rw [Int.zero_add]
        walk_at "rd"
        refine rd_ixL hi17 (atI_of (k := i) rfl (by rw [hts_len]; omega)) ?_
        walk_at "rd"
        rw [List.length_map]
        refine rd_ixL (SqL.of (g17 _ _ hb2)) (atI_of (k := ws.length - i) (by omega) (by rw [hts_len]; omega)) ?_
        walk_at "rd"
        refine rd_ixL hi17 (atI_lastD (hts_ne _ _ _)) ?_
        walk_at "rd"
        rw [hts_at _ _ _ _ (by omega), hts_at _ _ _ _ (by omega), e0]
        refine ite2 (fun c => ?_) (fun c => ?_)
        · walk_at "rd"
          refine ⟨_, hD17, by rw [List.length_map, sizeLine_eq]; omega, same_upd g17 hD2 _, ?_⟩
          rw [upd_same, freeL_succ, if_pos (show decide (hAt ws ks i + restAt ws ks i = hAt ws ks ws.length) = true from c), List.map_append]
          rfl
        · refine ⟨g17, ?_⟩
          rw [freeL_succ, if_neg (show ¬ decide (hAt ws ks i + restAt ws ks i = hAt ws ks ws.length) = true from c), List.append_nil]
          exact hD17
      · rintro H17 ⟨g17, hD17⟩
        have g1117 := g1116.trans g17
        have h617 := g1117 _ _ h611
        walk_at "rd"
        refine rd_ixL (SqL.of h617) rfl ?_
        walk_at "rd"
        refine rd_ixL (SqL.of h617) rfl ?_
        walk_at "rd"
        refine ⟨p4, p5, ws, ks, tv, rfl, hR11.same g1117, fun fo H18 g18 hf1 hf2 => ?_⟩
        have g1118 := g1117.trans g18
        walk_at "rd"
        refine ⟨fo, D2, freeL ws ks (ws.length + 1), rfl, hf2, SqL.of (g18 _ _ hD17), ?_⟩
        walk_at "rd"
        refine iteF ?_
        walk_at "rd"
        refine ⟨small (by simp), fun p19 hp19 => ?_⟩
        have g19 := same_new hp19 (.lst [V.ref r, V.ref t])
        have g1719 := g18.trans g19
        have g1119 := g1117.trans g1719
        have hR19 := hR11.same g1119
        have hRr19 := hRr11.same g1119
        walk_at "rd"
        refine rd_neD (d := .list [.list (ws.map PyData.int), .list (ks.map kindD)]) (.lst (SqL.of (g1119 _ _ h611)) (.cons (.lst hR19.ro (ints_dn _)) (.cons (.lst hR19.ta (kinds_dn hR19.ki)) .nil)))
          (.lst (SqL.of upd_same) (.cons (.lst hRr19.ro (ints_dn _)) (.cons (.lst hRr19.ta (kinds_dn hRr19.ki)) .nil))) (shaped_two hok) ?_
        walk_at "rd"
        refine iteF ?_
        have hf19 := g19 _ _ hf2
        walk_at "rd"
        refine rd_app hf19 (small1000 (by rw [List.length_map]; have := freeL_len ws ks (ws.length + 1); omega)) ?_
        have gX := same_upd g1719 hf1 (.lst ((freeL ws ks (ws.length + 1)).map V.int ++ [V.int 7]))
        generalize upd (upd H18 p19 (.lst [V.ref r, V.ref t])) fo (.lst ((freeL ws ks (ws.length + 1)).map V.int ++ [V.int 7])) = HX at gX ⊢
        have g11X := g1117.trans gX
        walk_at "rd"
        refine rd_ixL (SqL.of (g11X _ _ h611)) rfl ?_
        walk_at "rd"
        refine rd_ixL (SqL.of (g11X _ _ h611)) rfl ?_
        walk_at "rd"
        refine ⟨p4, p5, ws, ks, tv, rfl, hR11.same g11X, fun f2 H20 g20 hf3 hf4 => ?_⟩
        walk_at "rd"
        refine ⟨f2, D2, freeL ws ks (ws.length + 1), rfl, hf4, SqL.of ((gX.trans g20) _ _ hD17), ?_⟩
        exact q _

end
theorem all_mk {l : PySem.W.OpenLaw} {w : World} {K : PySem.W.Frag} {h : Heap} {mg : Str → Option Value} {fa f1 f2 f3 f4 f5 f6 f7 f8 f9 f10 f11 f12 f13 f14 f15 f16 f17 f18 f19 f20 f21 f22 f23 f24 : Addr} (X : K.In h) (G : h.Ns mainGlobals mg) (hfa : mg "law" = some (.ref fa))
    {od1 an1 od2 an2 od3 an3 od4 an4 od5 an5 od6 an6 od7 an7 od8 an8 od9 an9 od10 an10 od11 an11 od12 an12 od13 an13 od14 an14 od15 an15 od16 an16 od17 an17 od18 an18 od19 an19 od20 an20 od21 an21 od22 an22 od23 an23 od24 an24 : Option Addr} {sl1 sl2 sl3 sl4 sl5 sl6 sl7 sl8 sl9 sl10 sl11 sl12 sl13 sl14 sl15 sl16 sl17 sl18 sl19 sl20 sl21 sl22 sl23 sl24 : Array (Option Value)} {oc1 kV1 dc1 pm1 cd1 ct1 oc2 kV2 dc2 pm2 cd2 ct2 oc3 kV3 dc3 pm3 cd3 ct3 oc4 kV4 dc4 pm4 cd4 ct4 oc5 kV5 dc5 pm5 cd5 ct5 oc6 kV6 dc6 pm6 cd6 ct6 oc7 kV7 dc7 pm7 cd7 ct7 oc8 kV8 dc8 pm8 cd8 ct8 oc9 kV9 dc9 pm9 cd9 ct9 oc10 kV10 dc10 pm10 cd10 ct10 oc11 kV11 dc11 pm11 cd11 ct11 oc12 kV12 dc12 pm12 cd12 ct12 oc13 kV13 dc13 pm13 cd13 ct13 oc14 kV14 dc14 pm14 cd14 ct14 oc15 kV15 dc15 pm15 cd15 ct15 oc16 kV16 dc16 pm16 cd16 ct16 oc17 kV17 dc17 pm17 cd17 ct17 oc18 kV18 dc18 pm18 cd18 ct18 oc19 kV19 dc19 pm19 cd19 ct19 oc20 kV20 dc20 pm20 cd20 ct20 oc21 kV21 dc21 pm21 cd21 ct21 oc22 kV22 dc22 pm22 cd22 ct22 oc23 kV23 dc23 pm23 cd23 ct23 oc24 kV24 dc24 pm24 cd24 ct24 : Value}
    (a1 : PySem.W.nsIn K mainGlobals "spoilt" = some (some (.ref f1))) (l1 : K.lookup f1 = some ⟨oc1, od1, .func (PySem.W.fnOf "spoilt" "spoilt" (defArgs sspoilt) (defBody sspoilt) (defScope sspoilt) .none kV1 dc1 pm1 an1 cd1 ct1), sl1⟩) (c1 : PySem.W.codeIn K cd1 "spoilt" = true) (k1 : PySem.W.keepIn K (.ref f1) = true)
    (a2 : PySem.W.nsIn K mainGlobals "turned" = some (some (.ref f2))) (l2 : K.lookup f2 = some ⟨oc2, od2, .func (PySem.W.fnOf "turned" "turned" (defArgs sturned) (defBody sturned) (defScope sturned) .none kV2 dc2 pm2 an2 cd2 ct2), sl2⟩) (c2 : PySem.W.codeIn K cd2 "turned" = true) (k2 : PySem.W.keepIn K (.ref f2) = true)
    (a3 : PySem.W.nsIn K mainGlobals "fits" = some (some (.ref f3))) (l3 : K.lookup f3 = some ⟨oc3, od3, .func (PySem.W.fnOf "fits" "fits" (defArgs sfits) (defBody sfits) (defScope sfits) .none kV3 dc3 pm3 an3 cd3 ct3), sl3⟩) (c3 : PySem.W.codeIn K cd3 "fits" = true) (k3 : PySem.W.keepIn K (.ref f3) = true)
    (a4 : PySem.W.nsIn K mainGlobals "ending" = some (some (.ref f4))) (l4 : K.lookup f4 = some ⟨oc4, od4, .func (PySem.W.fnOf "ending" "ending" (defArgs sending) (defBody sending) (defScope sending) .none kV4 dc4 pm4 an4 cd4 ct4), sl4⟩) (c4 : PySem.W.codeIn K cd4 "ending" = true) (k4 : PySem.W.keepIn K (.ref f4) = true)
    (a5 : PySem.W.nsIn K mainGlobals "next_top" = some (some (.ref f5))) (l5 : K.lookup f5 = some ⟨oc5, od5, .func (PySem.W.fnOf "next_top" "next_top" (defArgs snext_top) (defBody snext_top) (defScope snext_top) .none kV5 dc5 pm5 an5 cd5 ct5), sl5⟩) (c5 : PySem.W.codeIn K cd5 "next_top" = true) (k5 : PySem.W.keepIn K (.ref f5) = true)
    (a6 : PySem.W.nsIn K mainGlobals "heights" = some (some (.ref f6))) (l6 : K.lookup f6 = some ⟨oc6, od6, .func (PySem.W.fnOf "heights" "heights" (defArgs sheights) (defBody sheights) (defScope sheights) .none kV6 dc6 pm6 an6 cd6 ct6), sl6⟩) (c6 : PySem.W.codeIn K cd6 "heights" = true) (k6 : PySem.W.keepIn K (.ref f6) = true)
    (a7 : PySem.W.nsIn K mainGlobals "tails" = some (some (.ref f7))) (l7 : K.lookup f7 = some ⟨oc7, od7, .func (PySem.W.fnOf "tails" "tails" (defArgs stails) (defBody stails) (defScope stails) .none kV7 dc7 pm7 an7 cd7 ct7), sl7⟩) (c7 : PySem.W.codeIn K cd7 "tails" = true) (k7 : PySem.W.keepIn K (.ref f7) = true)
    (a8 : PySem.W.nsIn K mainGlobals "parting_loss" = some (some (.ref f8))) (l8 : K.lookup f8 = some ⟨oc8, od8, .func (PySem.W.fnOf "parting_loss" "parting_loss" (defArgs sparting_loss) (defBody sparting_loss) (defScope sparting_loss) .none kV8 dc8 pm8 an8 cd8 ct8), sl8⟩) (c8 : PySem.W.codeIn K cd8 "parting_loss" = true) (k8 : PySem.W.keepIn K (.ref f8) = true)
    (a9 : PySem.W.nsIn K mainGlobals "free_places" = some (some (.ref f9))) (l9 : K.lookup f9 = some ⟨oc9, od9, .func (PySem.W.fnOf "free_places" "free_places" (defArgs sfree_places) (defBody sfree_places) (defScope sfree_places) .none kV9 dc9 pm9 an9 cd9 ct9), sl9⟩) (c9 : PySem.W.codeIn K cd9 "free_places" = true) (k9 : PySem.W.keepIn K (.ref f9) = true)
    (a10 : PySem.W.nsIn K mainGlobals "_law_cell" = some (some (.ref f10))) (l10 : K.lookup f10 = some ⟨oc10, od10, .func (PySem.W.fnOf "_law_cell" "_law_cell" (defArgs s_law_cell) (defBody s_law_cell) (defScope s_law_cell) .none kV10 dc10 pm10 an10 cd10 ct10), sl10⟩) (c10 : PySem.W.codeIn K cd10 "_law_cell" = true) (k10 : PySem.W.keepIn K (.ref f10) = true)
    (a11 : PySem.W.nsIn K mainGlobals "_law_mix" = some (some (.ref f11))) (l11 : K.lookup f11 = some ⟨oc11, od11, .func (PySem.W.fnOf "_law_mix" "_law_mix" (defArgs s_law_mix) (defBody s_law_mix) (defScope s_law_mix) .none kV11 dc11 pm11 an11 cd11 ct11), sl11⟩) (c11 : PySem.W.codeIn K cd11 "_law_mix" = true) (k11 : PySem.W.keepIn K (.ref f11) = true)
    (a12 : PySem.W.nsIn K mainGlobals "_law_row" = some (some (.ref f12))) (l12 : K.lookup f12 = some ⟨oc12, od12, .func (PySem.W.fnOf "_law_row" "_law_row" (defArgs s_law_row) (defBody s_law_row) (defScope s_law_row) .none kV12 dc12 pm12 an12 cd12 ct12), sl12⟩) (c12 : PySem.W.codeIn K cd12 "_law_row" = true) (k12 : PySem.W.keepIn K (.ref f12) = true)
    (a13 : PySem.W.nsIn K mainGlobals "_law_table" = some (some (.ref f13))) (l13 : K.lookup f13 = some ⟨oc13, od13, .func (PySem.W.fnOf "_law_table" "_law_table" (defArgs s_law_table) (defBody s_law_table) (defScope s_law_table) .none kV13 dc13 pm13 an13 cd13 ct13), sl13⟩) (c13 : PySem.W.codeIn K cd13 "_law_table" = true) (k13 : PySem.W.keepIn K (.ref f13) = true)
    (a14 : PySem.W.nsIn K mainGlobals "_law_flaw" = some (some (.ref f14))) (l14 : K.lookup f14 = some ⟨oc14, od14, .func (PySem.W.fnOf "_law_flaw" "_law_flaw" (defArgs s_law_flaw) (defBody s_law_flaw) (defScope s_law_flaw) .none kV14 dc14 pm14 an14 cd14 ct14), sl14⟩) (c14 : PySem.W.codeIn K cd14 "_law_flaw" = true) (k14 : PySem.W.keepIn K (.ref f14) = true)
    (a15 : PySem.W.nsIn K mainGlobals "_law_roll" = some (some (.ref f15))) (l15 : K.lookup f15 = some ⟨oc15, od15, .func (PySem.W.fnOf "_law_roll" "_law_roll" (defArgs s_law_roll) (defBody s_law_roll) (defScope s_law_roll) .none kV15 dc15 pm15 an15 cd15 ct15), sl15⟩) (c15 : PySem.W.codeIn K cd15 "_law_roll" = true) (k15 : PySem.W.keepIn K (.ref f15) = true)
    (a16 : PySem.W.nsIn K mainGlobals "_law_drawn" = some (some (.ref f16))) (l16 : K.lookup f16 = some ⟨oc16, od16, .func (PySem.W.fnOf "_law_drawn" "_law_drawn" (defArgs s_law_drawn) (defBody s_law_drawn) (defScope s_law_drawn) .none kV16 dc16 pm16 an16 cd16 ct16), sl16⟩) (c16 : PySem.W.codeIn K cd16 "_law_drawn" = true) (k16 : PySem.W.keepIn K (.ref f16) = true)
    (a17 : PySem.W.nsIn K mainGlobals "_law_sums" = some (some (.ref f17))) (l17 : K.lookup f17 = some ⟨oc17, od17, .func (PySem.W.fnOf "_law_sums" "_law_sums" (defArgs s_law_sums) (defBody s_law_sums) (defScope s_law_sums) .none kV17 dc17 pm17 an17 cd17 ct17), sl17⟩) (c17 : PySem.W.codeIn K cd17 "_law_sums" = true) (k17 : PySem.W.keepIn K (.ref f17) = true)
    (a18 : PySem.W.nsIn K mainGlobals "_law_good" = some (some (.ref f18))) (l18 : K.lookup f18 = some ⟨oc18, od18, .func (PySem.W.fnOf "_law_good" "_law_good" (defArgs s_law_good) (defBody s_law_good) (defScope s_law_good) .none kV18 dc18 pm18 an18 cd18 ct18), sl18⟩) (c18 : PySem.W.codeIn K cd18 "_law_good" = true) (k18 : PySem.W.keepIn K (.ref f18) = true)
    (a19 : PySem.W.nsIn K mainGlobals "_law_heights" = some (some (.ref f19))) (l19 : K.lookup f19 = some ⟨oc19, od19, .func (PySem.W.fnOf "_law_heights" "_law_heights" (defArgs s_law_heights) (defBody s_law_heights) (defScope s_law_heights) .none kV19 dc19 pm19 an19 cd19 ct19), sl19⟩) (c19 : PySem.W.codeIn K cd19 "_law_heights" = true) (k19 : PySem.W.keepIn K (.ref f19) = true)
    (a20 : PySem.W.nsIn K mainGlobals "_law_is_whole" = some (some (.ref f20))) (l20 : K.lookup f20 = some ⟨oc20, od20, .func (PySem.W.fnOf "_law_is_whole" "_law_is_whole" (defArgs s_law_is_whole) (defBody s_law_is_whole) (defScope s_law_is_whole) .none kV20 dc20 pm20 an20 cd20 ct20), sl20⟩) (c20 : PySem.W.codeIn K cd20 "_law_is_whole" = true) (k20 : PySem.W.keepIn K (.ref f20) = true)
    (a21 : PySem.W.nsIn K mainGlobals "_law_lost" = some (some (.ref f21))) (l21 : K.lookup f21 = some ⟨oc21, od21, .func (PySem.W.fnOf "_law_lost" "_law_lost" (defArgs s_law_lost) (defBody s_law_lost) (defScope s_law_lost) .none kV21 dc21 pm21 an21 cd21 ct21), sl21⟩) (c21 : PySem.W.codeIn K cd21 "_law_lost" = true) (k21 : PySem.W.keepIn K (.ref f21) = true)
    (a22 : PySem.W.nsIn K mainGlobals "_law_refused" = some (some (.ref f22))) (l22 : K.lookup f22 = some ⟨oc22, od22, .func (PySem.W.fnOf "_law_refused" "_law_refused" (defArgs s_law_refused) (defBody s_law_refused) (defScope s_law_refused) .none kV22 dc22 pm22 an22 cd22 ct22), sl22⟩) (c22 : PySem.W.codeIn K cd22 "_law_refused" = true) (k22 : PySem.W.keepIn K (.ref f22) = true)
    (a23 : PySem.W.nsIn K mainGlobals "_law_free" = some (some (.ref f23))) (l23 : K.lookup f23 = some ⟨oc23, od23, .func (PySem.W.fnOf "_law_free" "_law_free" (defArgs s_law_free) (defBody s_law_free) (defScope s_law_free) .none kV23 dc23 pm23 an23 cd23 ct23), sl23⟩) (c23 : PySem.W.codeIn K cd23 "_law_free" = true) (k23 : PySem.W.keepIn K (.ref f23) = true)
    (a24 : PySem.W.nsIn K mainGlobals "law" = some (some (.ref f24))) (l24 : K.lookup f24 = some ⟨oc24, od24, .func (PySem.W.fnOf "law" "law" (defArgs slaw) (defBody slaw) (defScope slaw) .none kV24 dc24 pm24 an24 cd24 ct24), sl24⟩) (c24 : PySem.W.codeIn K cd24 "law" = true) (k24 : PySem.W.keepIn K (.ref f24) = true)
    (z1 : PySem.W.nsIn K mainGlobals "sum" = some none)
    (z2 : PySem.W.nsIn K mainGlobals "len" = some none)
    (z3 : PySem.W.nsIn K mainGlobals "list" = some none)
    (z4 : PySem.W.nsIn K mainGlobals "reversed" = some none)
    (z5 : PySem.W.nsIn K mainGlobals "max" = some none)
    (z6 : PySem.W.nsIn K mainGlobals "range" = some none)
    (z7 : PySem.W.nsIn K mainGlobals "min" = some none)
    (z8 : PySem.W.nsIn K mainGlobals "isinstance" = some none)
    (z9 : PySem.W.nsIn K mainGlobals "int" = some none)
    (z10 : PySem.W.nsIn K mainGlobals "bool" = some none)
    {cCutError cNoPlace cNoParting : Addr} {kCutError kNoPlace kNoParting : _}
    (gCutError : PySem.W.nsIn K mainGlobals "CutError" = some (some (.ref cCutError)))
    (xCutError : PySem.W.excIn K cCutError bmV "ValueError.__new__" = true)
    (tCutError : PySem.W.typeIn K (.ref cCutError) = some (.type "type"))
    (kCutError : PySem.W.clsIn K cCutError = some kCutError)
    (gaCutError : PySem.W.findIn K (.ref cCutError) "__getattribute__" = some (some (.builtin "BaseException.__getattribute__")))
    (geCutError : PySem.W.findIn K (.ref cCutError) "__getattr__" = some none)
    (lkCutError : PySem.W.findIn K (.ref cCutError) "__class__" = some (some (.builtin "object.__class__")))
    (soCutError : PySem.W.subIn K (.ref cCutError) (.type "object") = some true)
    (sbCutError : PySem.W.subIn K (.ref cCutError) (.type "BaseException") = some true)
    (seCutError : PySem.W.subIn K (.ref cCutError) (.ref cCutError) = some true)
    (gNoPlace : PySem.W.nsIn K mainGlobals "NoPlace" = some (some (.ref cNoPlace)))
    (xNoPlace : PySem.W.excIn K cNoPlace bmV "ValueError.__new__" = true)
    (tNoPlace : PySem.W.typeIn K (.ref cNoPlace) = some (.type "type"))
    (kNoPlace : PySem.W.clsIn K cNoPlace = some kNoPlace)
    (gaNoPlace : PySem.W.findIn K (.ref cNoPlace) "__getattribute__" = some (some (.builtin "BaseException.__getattribute__")))
    (geNoPlace : PySem.W.findIn K (.ref cNoPlace) "__getattr__" = some none)
    (lkNoPlace : PySem.W.findIn K (.ref cNoPlace) "__class__" = some (some (.builtin "object.__class__")))
    (soNoPlace : PySem.W.subIn K (.ref cNoPlace) (.type "object") = some true)
    (sbNoPlace : PySem.W.subIn K (.ref cNoPlace) (.type "BaseException") = some true)
    (seNoPlace : PySem.W.subIn K (.ref cNoPlace) (.ref cNoPlace) = some true)
    (gNoParting : PySem.W.nsIn K mainGlobals "NoParting" = some (some (.ref cNoParting)))
    (xNoParting : PySem.W.excIn K cNoParting bmV "ValueError.__new__" = true)
    (tNoParting : PySem.W.typeIn K (.ref cNoParting) = some (.type "type"))
    (kNoParting : PySem.W.clsIn K cNoParting = some kNoParting)
    (gaNoParting : PySem.W.findIn K (.ref cNoParting) "__getattribute__" = some (some (.builtin "BaseException.__getattribute__")))
    (geNoParting : PySem.W.findIn K (.ref cNoParting) "__getattr__" = some none)
    (lkNoParting : PySem.W.findIn K (.ref cNoParting) "__class__" = some (some (.builtin "object.__class__")))
    (soNoParting : PySem.W.subIn K (.ref cNoParting) (.type "object") = some true)
    (sbNoParting : PySem.W.subIn K (.ref cNoParting) (.type "BaseException") = some true)
    (seNoParting : PySem.W.subIn K (.ref cNoParting) (.ref cNoParting) = some true)
    (sCutError_NoPlace : PySem.W.subIn K (.ref cCutError) (.ref cNoPlace) = some false)
    (sCutError_NoParting : PySem.W.subIn K (.ref cCutError) (.ref cNoParting) = some false)
    (sNoPlace_CutError : PySem.W.subIn K (.ref cNoPlace) (.ref cCutError) = some true)
    (sNoPlace_NoParting : PySem.W.subIn K (.ref cNoPlace) (.ref cNoParting) = some false)
    (sNoParting_CutError : PySem.W.subIn K (.ref cNoParting) (.ref cCutError) = some true)
    (sNoParting_NoPlace : PySem.W.subIn K (.ref cNoParting) (.ref cNoPlace) = some false)
    : ∃ fd : FuncData, (∀ (s : Shared) (v : Value), BindsTo s fd ⟨[v], []⟩ [("_law_script", v)]) ∧ ∀ base : Heap, K.In base → base.Ns mainGlobals mg → FnOk l.prog w K mg base CX0 15 fa fd ["_law_script"] (spLaw K) := by
  have e := hfa.symm.trans (PySem.W.mg_of X G a24)
  cases e
  have T : Txt mg K cCutError cNoPlace cNoParting := ⟨PySem.W.mg_none_of X G z1, PySem.W.mg_none_of X G z2, PySem.W.mg_none_of X G z3, PySem.W.mg_none_of X G z4, PySem.W.mg_none_of X G z5, PySem.W.mg_none_of X G z6, PySem.W.mg_none_of X G z7, PySem.W.mg_none_of X G z8, PySem.W.mg_none_of X G z9, PySem.W.mg_none_of X G z10, PySem.W.mg_of X G gCutError, ⟨xCutError, tCutError, ⟨_, kCutError⟩, gaCutError, geCutError, lkCutError, soCutError, sbCutError, seCutError⟩, PySem.W.mg_of X G gNoPlace, ⟨xNoPlace, tNoPlace, ⟨_, kNoPlace⟩, gaNoPlace, geNoPlace, lkNoPlace, soNoPlace, sbNoPlace, seNoPlace⟩, PySem.W.mg_of X G gNoParting, ⟨xNoParting, tNoParting, ⟨_, kNoParting⟩, gaNoParting, geNoParting, lkNoParting, soNoParting, sbNoParting, seNoParting⟩, sCutError_NoPlace, sCutError_NoParting, sNoPlace_CutError, sNoPlace_NoParting, sNoParting_CutError, sNoParting_NoPlace⟩
  have F1 := fun_mk (st := sspoilt) l1 c1 k1
  have F2 := fun_mk (st := sturned) l2 c2 k2
  have F3 := fun_mk (st := sfits) l3 c3 k3
  have F4 := fun_mk (st := sending) l4 c4 k4
  have F5 := fun_mk (st := snext_top) l5 c5 k5
  have F6 := fun_mk (st := sheights) l6 c6 k6
  have F7 := fun_mk (st := stails) l7 c7 k7
  have F8 := fun_mk (st := sparting_loss) l8 c8 k8
  have F9 := fun_mk (st := sfree_places) l9 c9 k9
  have F10 := fun_mk (st := s_law_cell) l10 c10 k10
  have F11 := fun_mk (st := s_law_mix) l11 c11 k11
  have F12 := fun_mk (st := s_law_row) l12 c12 k12
  have F13 := fun_mk (st := s_law_table) l13 c13 k13
  have F14 := fun_mk (st := s_law_flaw) l14 c14 k14
  have F15 := fun_mk (st := s_law_roll) l15 c15 k15
  have F16 := fun_mk (st := s_law_drawn) l16 c16 k16
  have F17 := fun_mk (st := s_law_sums) l17 c17 k17
  have F18 := fun_mk (st := s_law_good) l18 c18 k18
  have F19 := fun_mk (st := s_law_heights) l19 c19 k19
  have F20 := fun_mk (st := s_law_is_whole) l20 c20 k20
  have F21 := fun_mk (st := s_law_lost) l21 c21 k21
  have F22 := fun_mk (st := s_law_refused) l22 c22 k22
  have F23 := fun_mk (st := s_law_free) l23 c23 k23
  have F24 := fun_mk (st := slaw) l24 c24 k24
  refine ⟨PySem.W.fnOf "law" "law" (defArgs slaw) (defBody slaw) (defScope slaw) .none kV24 dc24 pm24 an24 cd24 ct24, fun s v => .of_eq rfl, fun base _ _ => ?_⟩
  have b1 := F1.binds (ps := ["roll", "begin", "end"]) fun _ _ _ _ _ _ us hl => match us, hl with | [_, _, _], _ => rfl
  have Dspoilt : Def l.prog w K mg base CX0 7 "spoilt" ["roll", "begin", "end"] _ := ⟨f1, _, PySem.W.mg_of X G a1, k1, b1, okspoilt F1 T⟩
  have b2 := F2.binds (ps := ["roll"]) fun _ _ _ _ _ _ us hl => match us, hl with | [_], _ => rfl
  have Dturned : Def l.prog w K mg base CX0 7 "turned" ["roll"] _ := ⟨f2, _, PySem.W.mg_of X G a2, k2, b2, okturned F2 T⟩
  have b10 := F10.binds (ps := ["_law_script", "_law_place"]) fun _ _ _ _ _ _ us hl => match us, hl with | [_, _], _ => rfl
  have D_law_cell : Def l.prog w K mg base CX0 7 "_law_cell" ["_law_script", "_law_place"] _ := ⟨f10, _, PySem.W.mg_of X G a10, k10, b10, ok_law_cell F10 T⟩
  have b11 := F11.binds (ps := ["_law_cell_here", "_law_k"]) fun _ _ _ _ _ _ us hl => match us, hl with | [_, _], _ => rfl
  have D_law_mix : Def l.prog w K mg base CX0 7 "_law_mix" ["_law_cell_here", "_law_k"] _ := ⟨f11, _, PySem.W.mg_of X G a11, k11, b11, ok_law_mix F11 T⟩
  have b17 := F17.binds (ps := ["_law_roll_here"]) fun _ _ _ _ _ _ us hl => match us, hl with | [_], _ => rfl
  have D_law_sums : Def l.prog w K mg base CX0 7 "_law_sums" ["_law_roll_here"] _ := ⟨f17, _, PySem.W.mg_of X G a17, k17, b17, ok_law_sums F17 T⟩
  have b18 := F18.binds (ps := ["_law_sums_here", "_law_kind", "_law_at"]) fun _ _ _ _ _ _ us hl => match us, hl with | [_, _, _], _ => rfl
  have D_law_good : Def l.prog w K mg base CX0 7 "_law_good" ["_law_sums_here", "_law_kind", "_law_at"] _ := ⟨f18, _, PySem.W.mg_of X G a18, k18, b18, ok_law_good F18 T⟩
  have b20 := F20.binds (ps := ["_law_one"]) fun _ _ _ _ _ _ us hl => match us, hl with | [_], _ => rfl
  have D_law_is_whole : Def l.prog w K mg base CX0 7 "_law_is_whole" ["_law_one"] _ := ⟨f20, _, PySem.W.mg_of X G a20, k20, b20, ok_law_is_whole F20 T⟩
  have b3 := F3.binds (ps := ["roll", "kind", "place"]) fun _ _ _ _ _ _ us hl => match us, hl with | [_, _, _], _ => rfl
  have Dfits : Def l.prog w K mg base CX0 8 "fits" ["roll", "kind", "place"] _ := ⟨f3, _, PySem.W.mg_of X G a3, k3, b3, okfits F3 T Dspoilt⟩
  have b12 := F12.binds (ps := ["_law_script", "_law_place", "_law_sizes"]) fun _ _ _ _ _ _ us hl => match us, hl with | [_, _, _], _ => rfl
  have D_law_row : Def l.prog w K mg base CX0 8 "_law_row" ["_law_script", "_law_place", "_law_sizes"] _ := ⟨f12, _, PySem.W.mg_of X G a12, k12, b12, ok_law_row F12 T D_law_cell D_law_mix⟩
  have b19 := F19.binds (ps := ["_law_roll_here", "_law_table_here"]) fun _ _ _ _ _ _ us hl => match us, hl with | [_, _], _ => rfl
  have D_law_heights : Def l.prog w K mg base CX0 8 "_law_heights" ["_law_roll_here", "_law_table_here"] _ := ⟨f19, _, PySem.W.mg_of X G a19, k19, b19, ok_law_heights F19 T D_law_sums D_law_good⟩
  have b23 := F23.binds (ps := ["_law_found", "_law_due"]) fun _ _ _ _ _ _ us hl => match us, hl with | [_, _], _ => rfl
  have D_law_free : Def l.prog w K mg base CX0 8 "_law_free" ["_law_found", "_law_due"] _ := ⟨f23, _, PySem.W.mg_of X G a23, k23, b23, ok_law_free F23 T D_law_is_whole⟩
  have b4 := F4.binds (ps := ["roll", "table", "end"]) fun _ _ _ _ _ _ us hl => match us, hl with | [_, _, _], _ => rfl
  have Dending : Def l.prog w K mg base CX0 9 "ending" ["roll", "table", "end"] _ := ⟨f4, _, PySem.W.mg_of X G a4, k4, b4, okending F4 T Dfits⟩
  have b13 := F13.binds (ps := ["_law_script", "_law_place", "_law_most"]) fun _ _ _ _ _ _ us hl => match us, hl with | [_, _, _], _ => rfl
  have D_law_table : Def l.prog w K mg base CX0 9 "_law_table" ["_law_script", "_law_place", "_law_most"] _ := ⟨f13, _, PySem.W.mg_of X G a13, k13, b13, ok_law_table F13 T D_law_row⟩
  have b14 := F14.binds (ps := ["_law_script", "_law_place", "_law_most"]) fun _ _ _ _ _ _ us hl => match us, hl with | [_, _, _], _ => rfl
  have D_law_flaw : Def l.prog w K mg base CX0 9 "_law_flaw" ["_law_script", "_law_place", "_law_most"] _ := ⟨f14, _, PySem.W.mg_of X G a14, k14, b14, ok_law_flaw F14 T D_law_row⟩
  have b15 := F15.binds (ps := ["_law_script", "_law_place", "_law_most", "_law_flaw_here"]) fun _ _ _ _ _ _ us hl => match us, hl with | [_, _, _, _], _ => rfl
  have D_law_roll : Def l.prog w K mg base CX0 9 "_law_roll" ["_law_script", "_law_place", "_law_most", "_law_flaw_here"] _ := ⟨f15, _, PySem.W.mg_of X G a15, k15, b15, ok_law_roll F15 T D_law_row⟩
  have b21 := F21.binds (ps := ["_law_roll_here", "_law_table_here", "_law_at", "_law_high"]) fun _ _ _ _ _ _ us hl => match us, hl with | [_, _, _, _], _ => rfl
  have D_law_lost : Def l.prog w K mg base CX0 9 "_law_lost" ["_law_roll_here", "_law_table_here", "_law_at", "_law_high"] _ := ⟨f21, _, PySem.W.mg_of X G a21, k21, b21, ok_law_lost F21 T D_law_heights⟩
  have b5 := F5.binds (ps := ["roll", "table", "tops"]) fun _ _ _ _ _ _ us hl => match us, hl with | [_, _, _], _ => rfl
  have Dnext_top : Def l.prog w K mg base CX0 10 "next_top" ["roll", "table", "tops"] _ := ⟨f5, _, PySem.W.mg_of X G a5, k5, b5, oknext_top F5 T Dending⟩
  have b16 := F16.binds (ps := ["_law_script", "_law_place", "_law_most", "_law_kinds"]) fun _ _ _ _ _ _ us hl => match us, hl with | [_, _, _, _], _ => rfl
  have D_law_drawn : Def l.prog w K mg base CX0 10 "_law_drawn" ["_law_script", "_law_place", "_law_most", "_law_kinds"] _ := ⟨f16, _, PySem.W.mg_of X G a16, k16, b16, ok_law_drawn F16 T D_law_flaw D_law_roll D_law_table⟩
  have b6 := F6.binds (ps := ["roll", "table"]) fun _ _ _ _ _ _ us hl => match us, hl with | [_, _], _ => rfl
  have Dheights : Def l.prog w K mg base CX0 11 "heights" ["roll", "table"] _ := ⟨f6, _, PySem.W.mg_of X G a6, k6, b6, okheights F6 T Dnext_top⟩
  have b7 := F7.binds (ps := ["roll", "table"]) fun _ _ _ _ _ _ us hl => match us, hl with | [_, _], _ => rfl
  have Dtails : Def l.prog w K mg base CX0 12 "tails" ["roll", "table"] _ := ⟨f7, _, PySem.W.mg_of X G a7, k7, b7, oktails F7 T Dheights Dturned⟩
  have b8 := F8.binds (ps := ["roll", "table", "place"]) fun _ _ _ _ _ _ us hl => match us, hl with | [_, _, _], _ => rfl
  have Dparting_loss : Def l.prog w K mg base (CXE l.prog w) 13 "parting_loss" ["roll", "table", "place"] _ := ⟨f8, _, PySem.W.mg_of X G a8, k8, b8, okparting_loss F8 T Dheights Dtails⟩
  have b9 := F9.binds (ps := ["roll", "table"]) fun _ _ _ _ _ _ us hl => match us, hl with | [_, _], _ => rfl
  have Dfree_places : Def l.prog w K mg base CX0 13 "free_places" ["roll", "table"] _ := ⟨f9, _, PySem.W.mg_of X G a9, k9, b9, okfree_places F9 T Dheights Dtails⟩
  have b22 := F22.binds (ps := ["_law_roll_here", "_law_table_here", "_law_place"]) fun _ _ _ _ _ _ us hl => match us, hl with | [_, _, _], _ => rfl
  have D_law_refused : Def l.prog w K mg base CX0 14 "_law_refused" ["_law_roll_here", "_law_table_here", "_law_place"] _ := ⟨f22, _, PySem.W.mg_of X G a22, k22, b22, ok_law_refused F22 T Dparting_loss⟩
  exact oklaw F24 T D_law_row D_law_drawn D_law_heights Dfree_places D_law_free Dparting_loss D_law_refused D_law_is_whole D_law_lost
theorem walk {l : PySem.W.OpenLaw} {q : Program} {loose : List Str} {XP : (Str → Option Value) → Heap → Prop} {YP : World → Heap → Prop} {d : DefRec} {K : Params → PySem.W.Frag} (hn : l.most = some 63) (hdf : d.params.defaults = [])
    (hY : ∀ (w : World) (h : Heap), YP w h → (K w.params).In h)
    (F : ∀ (w : World) (mg : Str → Option Value) (fa : Addr) (h : Heap), (K w.params).In h → h.Ns mainGlobals mg → mg d.name = some (.ref fa) →
      ∃ fd : FuncData, (∀ (s : Shared) (u : Value), BindsTo s fd ⟨[u], []⟩ [("_law_script", u)]) ∧ ∀ base : Heap, (K w.params).In base → base.Ns mainGlobals mg → FnOk l.prog w (K w.params) mg base CX0 15 fa fd ["_law_script"] (spLaw (K w.params))) :
    PySem.W.WalkO q loose XP YP l.row.toRowW d [] (fun f vs => PySem.call f vs) :=
  L2.walk_of (n := 63) (k := 15) (x := "_law_script") (CX := fun _ => CX0) (sp := fun w => spLaw (K w.params)) hn (by decide) hdf ⟨rfl, by decide, by decide⟩ hY F (fun _ _ a ns hl _ hS => ⟨a, ns, rfl, ⟨hS, hl⟩, fun _ => rfl⟩) fun _ _ _ _ _ z => z
end K41
open PySem PySem.W PyProof.Rows
set_option maxRecDepth 100000 in
set_option maxHeartbeats 0 in
theorem PySem.Challenge.cw_selvage_k41_parting_loss_holds : PySem.Challenge.rw_selvage_k41_parting_loss.Holds := by
  w_on; o_law; k_head; (case hw => w_witness2)
  k_fill
  refine K41.walk (l := PySem.Challenge.rw_selvage_k41_parting_loss) rfl rfl (fun w h Y => PySem.W.kIn_of Y) ?F
  case F =>
    intro w mg fa h KX G hmg
    refine' K41.all_mk KX G hmg ?a1 ?l1 ?c1 ?k1 ?a2 ?l2 ?c2 ?k2 ?a3 ?l3 ?c3 ?k3 ?a4 ?l4 ?c4 ?k4 ?a5 ?l5 ?c5 ?k5 ?a6 ?l6 ?c6 ?k6 ?a7 ?l7 ?c7 ?k7 ?a8 ?l8 ?c8 ?k8 ?a9 ?l9 ?c9 ?k9 ?a10 ?l10 ?c10 ?k10 ?a11 ?l11 ?c11 ?k11 ?a12 ?l12 ?c12 ?k12 ?a13 ?l13 ?c13 ?k13 ?a14 ?l14 ?c14 ?k14 ?a15 ?l15 ?c15 ?k15 ?a16 ?l16 ?c16 ?k16 ?a17 ?l17 ?c17 ?k17 ?a18 ?l18 ?c18 ?k18 ?a19 ?l19 ?c19 ?k19 ?a20 ?l20 ?c20 ?k20 ?a21 ?l21 ?c21 ?k21 ?a22 ?l22 ?c22 ?k22 ?a23 ?l23 ?c23 ?k23 ?a24 ?l24 ?c24 ?k24 ?z1 ?z2 ?z3 ?z4 ?z5 ?z6 ?z7 ?z8 ?z9 ?z10 ?gCutError ?xCutError ?tCutError ?kCutError ?gaCutError ?geCutError ?lkCutError ?soCutError ?sbCutError ?seCutError ?gNoPlace ?xNoPlace ?tNoPlace ?kNoPlace ?gaNoPlace ?geNoPlace ?lkNoPlace ?soNoPlace ?sbNoPlace ?seNoPlace ?gNoParting ?xNoParting ?tNoParting ?kNoParting ?gaNoParting ?geNoParting ?lkNoParting ?soNoParting ?sbNoParting ?seNoParting ?sCutError_NoPlace ?sCutError_NoParting ?sNoPlace_CutError ?sNoPlace_NoParting ?sNoParting_CutError ?sNoParting_NoPlace
    (case a1 => k_is)
    (case l1 => k_is)
    (case c1 => k_is)
    (case k1 => k_is)
    (case a2 => k_is)
    (case l2 => k_is)
    (case c2 => k_is)
    (case k2 => k_is)
    (case a3 => k_is)
    (case l3 => k_is)
    (case c3 => k_is)
    (case k3 => k_is)
    (case a4 => k_is)
    (case l4 => k_is)
    (case c4 => k_is)
    (case k4 => k_is)
    (case a5 => k_is)
    (case l5 => k_is)
    (case c5 => k_is)
    (case k5 => k_is)
    (case a6 => k_is)
    (case l6 => k_is)
    (case c6 => k_is)
    (case k6 => k_is)
    (case a7 => k_is)
    (case l7 => k_is)
    (case c7 => k_is)
    (case k7 => k_is)
    (case a8 => k_is)
    (case l8 => k_is)
    (case c8 => k_is)
    (case k8 => k_is)
    (case a9 => k_is)
    (case l9 => k_is)
    (case c9 => k_is)
    (case k9 => k_is)
    (case a10 => k_is)
    (case l10 => k_is)
    (case c10 => k_is)
    (case k10 => k_is)
    (case a11 => k_is)
    (case l11 => k_is)
    (case c11 => k_is)
    (case k11 => k_is)
    (case a12 => k_is)
    (case l12 => k_is)
    (case c12 => k_is)
    (case k12 => k_is)
    (case a13 => k_is)
    (case l13 => k_is)
    (case c13 => k_is)
    (case k13 => k_is)
    (case a14 => k_is)
    (case l14 => k_is)
    (case c14 => k_is)
    (case k14 => k_is)
    (case a15 => k_is)
    (case l15 => k_is)
    (case c15 => k_is)
    (case k15 => k_is)
    (case a16 => k_is)
    (case l16 => k_is)
    (case c16 => k_is)
    (case k16 => k_is)
    (case a17 => k_is)
    (case l17 => k_is)
    (case c17 => k_is)
    (case k17 => k_is)
    (case a18 => k_is)
    (case l18 => k_is)
    (case c18 => k_is)
    (case k18 => k_is)
    (case a19 => k_is)
    (case l19 => k_is)
    (case c19 => k_is)
    (case k19 => k_is)
    (case a20 => k_is)
    (case l20 => k_is)
    (case c20 => k_is)
    (case k20 => k_is)
    (case a21 => k_is)
    (case l21 => k_is)
    (case c21 => k_is)
    (case k21 => k_is)
    (case a22 => k_is)
    (case l22 => k_is)
    (case c22 => k_is)
    (case k22 => k_is)
    (case a23 => k_is)
    (case l23 => k_is)
    (case c23 => k_is)
    (case k23 => k_is)
    (case a24 => k_is)
    (case l24 => k_is)
    (case c24 => k_is)
    (case k24 => k_is)
    (case z1 => k_is)
    (case z2 => k_is)
    (case z3 => k_is)
    (case z4 => k_is)
    (case z5 => k_is)
    (case z6 => k_is)
    (case z7 => k_is)
    (case z8 => k_is)
    (case z9 => k_is)
    (case z10 => k_is)
    (case gCutError => k_is)
    (case xCutError => k_exc)
    (case tCutError => k_is)
    (case kCutError => k_is)
    (case gaCutError => k_is)
    (case geCutError => k_is)
    (case lkCutError => k_is)
    (case soCutError => k_is)
    (case sbCutError => k_is)
    (case seCutError => k_is)
    (case gNoPlace => k_is)
    (case xNoPlace => k_exc)
    (case tNoPlace => k_is)
    (case kNoPlace => k_is)
    (case gaNoPlace => k_is)
    (case geNoPlace => k_is)
    (case lkNoPlace => k_is)
    (case soNoPlace => k_is)
    (case sbNoPlace => k_is)
    (case seNoPlace => k_is)
    (case gNoParting => k_is)
    (case xNoParting => k_exc)
    (case tNoParting => k_is)
    (case kNoParting => k_is)
    (case gaNoParting => k_is)
    (case geNoParting => k_is)
    (case lkNoParting => k_is)
    (case soNoParting => k_is)
    (case sbNoParting => k_is)
    (case seNoParting => k_is)
    (case sCutError_NoPlace => k_is)
    (case sCutError_NoParting => k_is)
    (case sNoPlace_CutError => k_is)
    (case sNoPlace_NoParting => k_is)
    (case sNoParting_CutError => k_is)
    (case sNoParting_NoPlace => k_is)
