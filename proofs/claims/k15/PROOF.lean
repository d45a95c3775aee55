import PyProof.Rows.All
import Wide.All
import OpenK.AllK
import Wide.FinOn
import Lean
import PyProof.EqAt
import PyProof.EqKinds
import PyProof.TupleCall
import PyProof.P3Statements
import KE.BitLaws
import PySem.Challenge.RW_oddjoins_k15_whole_turned
set_option Elab.async false
set_option linter.all false
set_option maxRecDepth 100000
/-! THE HAND LAYER, for ints, bools, texts, own classes, LISTS and tuples (index, slices, in, append, pop ..), calls, loops. Paste it whole ahead of your own text; what your proof does not reach may be deleted. -/
namespace L2
open PySem PySem.Spec PyProof.Rows

/-- a key: an int or a str -/
abbrev Key := Sum Int Str
def keyIs : Key → Value → Bool
  | .inl k, v => Value.isInt k v
  | .inr x, v => Value.isStrOf x v
def keyH (w : World) : Key → Int
  | .inl k => hashInt k
  | .inr x => hashStr w x
theorem keyIs_shape : ∀ {k : Key} {v : Value}, keyIs k v = true → (∃ i t, k = Sum.inl i ∧ v = Value.int i t) ∨ (∃ x t, k = Sum.inr x ∧ v = Value.str x t)
  | .inl i, v, h => by
    obtain ⟨t, e⟩ := Value.isInt_shape (k := i) (v := v) h
    exact .inl ⟨i, t, rfl, e⟩
  | .inr x, v, h => by
    obtain ⟨t, e⟩ := Value.isStrOf_shape (x := x) (v := v) h
    exact .inr ⟨x, t, rfl, e⟩
theorem keyIs_int (i : Int) (t : Tok) : keyIs (.inl i) (.int i t) = true := by simp [keyIs, Value.isInt]
theorem keyIs_str (x : Str) (t : Tok) : keyIs (.inr x) (.str x t) = true := by simp [keyIs, Value.isStrOf]
theorem key_ll (a b : Int) : decide ((Sum.inl a : Key) = Sum.inl b) = (a == b) := by
  by_cases e : a = b
  · subst e; simp
  · have h : ¬ (Sum.inl a : Key) = Sum.inl b := fun q => e (Sum.inl.inj q)
    rw [decide_eq_false h]
    exact (beq_eq_false_iff_ne.mpr e).symm
theorem key_rr (a b : Str) : decide ((Sum.inr a : Key) = Sum.inr b) = decide (a = b) := by
  by_cases e : a = b
  · subst e; simp
  · have h : ¬ (Sum.inr a : Key) = Sum.inr b := fun q => e (Sum.inr.inj q)
    rw [decide_eq_false h, decide_eq_false e]
theorem key_lr (a : Int) (b : Str) : decide ((Sum.inl a : Key) = Sum.inr b) = false := decide_eq_false (fun q => nomatch q)
theorem key_rl (a : Str) (b : Int) : decide ((Sum.inr a : Key) = Sum.inl b) = false := decide_eq_false (fun q => nomatch q)

def mixKind (prog : Program) (w : World) : PySem.KeyKind prog w Key where
  is := keyIs
  hash := keyH w
  inj := fun v a b ha hb => by
    rcases keyIs_shape ha with ⟨i, t, rfl, rfl⟩ | ⟨x, t, rfl, rfl⟩
    · rcases keyIs_shape hb with ⟨j, u, rfl, e⟩ | ⟨y, u, rfl, e⟩
      · injection e with e1 _; rw [e1]
      · exact nomatch e
    · rcases keyIs_shape hb with ⟨j, u, rfl, e⟩ | ⟨y, u, rfl, e⟩
      · exact nomatch e
      · injection e with e1 _; rw [e1]
  byValue := fun k v h => by
    rcases keyIs_shape h with ⟨i, t, rfl, rfl⟩ | ⟨x, t, rfl, rfl⟩ <;> rfl
  pyHash := fun hv h => by
    rcases keyIs_shape hv with ⟨i, t, rfl, rfl⟩ | ⟨x, t, rfl, rfl⟩
    · exact wpAny_pyHash_int h
    · exact wpAny_pyHash_str h
  eqBool := fun hu hv h => by
    rcases keyIs_shape hu with ⟨i, t, rfl, rfl⟩ | ⟨x, t, rfl, rfl⟩
    · rcases keyIs_shape hv with ⟨j, u, rfl, rfl⟩ | ⟨y, u, rfl, rfl⟩
      · rw [key_ll] at h; exact wpAny_eqBool_int h
      · rw [key_lr] at h; exact SeqAt.EqAt.int_str i t y u _ _ _ _ h
    · rcases keyIs_shape hv with ⟨j, u, rfl, rfl⟩ | ⟨y, u, rfl, rfl⟩
      · rw [key_rl] at h; exact SeqAt.EqAt.str_int x t j u _ _ _ _ h
      · rw [key_rr] at h; exact wpAny_eqBool_str h
  «strs» := fun k x t v h => by
    rcases keyIs_shape h with ⟨i, u, rfl, e⟩ | ⟨y, u, rfl, e⟩
    · exact nomatch e
    · injection e with e1 _
      subst e1
      cases v <;> rfl

theorem mixKind_is (prog : Program) (w : World) (k : Key) (v : Value) : (mixKind prog w).is k v = keyIs k v := rfl
theorem mixKind_int (prog : Program) (w : World) (i : Int) (t : Tok) : (mixKind prog w).is (.inl i) (.int i t) = true := keyIs_int i t
theorem mixKind_str (prog : Program) (w : World) (x : Str) (t : Tok) : (mixKind prog w).is (.inr x) (.str x t) = true := keyIs_str x t
end L2

namespace L2
open PySem PySem.Spec PyProof.Rows

/-- a value, without the heap -/
inductive V where
  | non | bl (b : Bool) | int (i : Int) | str (x : Str) | byt (b : Array UInt8) | flt (b : UInt64) | ref (a : Addr) | ty (n : String)
  deriving DecidableEq

def RelV : V → Value → Prop
  | .non, u => u = Value.none
  | .bl b, u => u = Value.bool b
  | .int i, u => ∃ t, u = Value.int i t
  | .str x, u => ∃ t, u = Value.str x t
  | .byt b, u => ∃ t, u = Value.bytes b t
  | .flt b, u => ∃ t, u = Value.float b t
  | .ref a, u => u = Value.ref a
  | .ty n, u => u = Value.type n

abbrev Vals : List V → List Value → Prop := Paired RelV
theorem Vals.length {xs : List V} {us : List Value} (r : Vals xs us) : xs.length = us.length := Paired.length r
theorem Vals.get : ∀ {xs : List V} {us : List Value} {i : Nat} {x : V}, Vals xs us → xs[i]? = some x → ∃ u, us[i]? = some u ∧ RelV x u
  | _, _, _, _, .nil, e => by simp at e
  | _, _, 0, _, .cons r _, e => by simp at e; subst e; exact ⟨_, rfl, r⟩
  | _, _, i + 1, x, .cons _ t, e => by
    obtain ⟨u, h1, h2⟩ := Vals.get (i := i) (x := x) t (by simpa using e)
    exact ⟨u, by simpa using h1, h2⟩
theorem Vals.set {x : V} {u : Value} (r : RelV x u) : ∀ {xs : List V} {us : List Value} (i : Nat), Vals xs us → Vals (xs.set i x) (us.set i u)
  | _, _, _, .nil => .nil
  | _, _, 0, .cons _ t => .cons r t
  | _, _, i + 1, .cons q t => .cons q (Vals.set r i t)
theorem Vals.append : ∀ {xs ys : List V} {us ws : List Value}, Vals xs us → Vals ys ws → Vals (xs ++ ys) (us ++ ws)
  | _, _, _, _, .nil, s => s
  | _, _, _, _, .cons r t, s => .cons r (Vals.append t s)
theorem Vals.take : ∀ {xs : List V} {us : List Value} (n : Nat), Vals xs us → Vals (xs.take n) (us.take n)
  | _, _, 0, _ => .nil
  | _, _, _ + 1, .nil => .nil
  | _, _, n + 1, .cons r t => .cons r (Vals.take n t)
theorem Vals.drop : ∀ {xs : List V} {us : List Value} (n : Nat), Vals xs us → Vals (xs.drop n) (us.drop n)
  | _, _, 0, r => r
  | _, _, _ + 1, .nil => .nil
  | _, _, n + 1, .cons _ t => Vals.drop n t
theorem Vals.none_of : ∀ {xs : List V} {us : List Value} {i : Nat}, Vals xs us → xs[i]? = none → us[i]? = none := fun {xs us i} r e => by
  have h1 := r.length
  have h2 : xs.length ≤ i := List.getElem?_eq_none_iff.mp e
  exact List.getElem?_eq_none_iff.mpr (by omega)

def RelO : Option V → Option Value → Prop
  | some v, some u => RelV v u
  | none, none => True
  | _, _ => False
def KV {κ : Type} : List (κ × V) → List (κ × Value) → Prop := Paired fun (p : κ × V) (q : κ × Value) => p.1 = q.1 ∧ RelV p.2 q.2

/-- a key of a dict (00_mix): an int or a text -/
def kV : Key → V
  | .inl i => .int i
  | .inr x => .str x

/-- what stands at a tracked address -/
inductive HO where
  /-- a list -/
  | lst (xs : List V)
  /-- a tuple (never changes) -/
  | tup (xs : List V)
  /-- a dict whose keys are ints and texts; one whose keys are tuples of ints and texts (the empty one is both) -/
  | dK (kvs : List (Key × V)) | dT (kvs : List (List Key × V))
  /-- a set of ints: its members, its size -/
  | set (S : Int → Bool) (n : Nat)
  /-- an instance of the class at C, its dict at dx, its attributes -/
  | ins (C dx : Addr) (fs : List (Str × V))
  /-- the dict of the instance at x -/
  | own (x : Addr)
  /-- the dict of an exception -/
  | xd (fs : List (Str × V))
  /-- a bound method, f of x -/
  | met (f x : Addr)
  /-- a range object lo, lo + 1, .. below hi -/
  | rng (lo hi : Int)
  /-- a thing that is known to the object (the script; a dict while a loop walks it): read, never written while it is so -/
  | frz (o : Obj) (u : HO)
  /-- a code object's table -/
  | tbl (ps : Array Value)
  /-- any other thing, by what is true of its one object (a def of one's own: SetO a S n := HO.ext fun h => ..) -/
  | ext (φ : Heap → Prop)

abbrev Hp := Addr → Option HO
def upd (H : Hp) (a : Addr) (o : HO) : Hp := fun b => if b = a then some o else H b
theorem upd_same {H : Hp} {a : Addr} {o : HO} : upd H a o a = some o := by unfold upd; rw [if_pos rfl]
theorem upd_ne {H : Hp} {a b : Addr} {o : HO} (h : b ≠ a) : upd H a o b = H b := by unfold upd; rw [if_neg h]
theorem upd_upd {H : Hp} {a : Addr} {o u : HO} : upd (upd H a o) a u = upd H a u := by
  funext b; unfold upd; split <;> rfl
/-- two objects of different content stand apart -/
theorem ne_of {H : Hp} {a b : Addr} {o u : HO} (h : H a = some o) (h' : H b = some u) (d : o ≠ u) : a ≠ b := by
  intro e; subst e; rw [h] at h'; exact d (Option.some.inj h')
theorem ne_of_none {H : Hp} {a b : Addr} {o : HO} (h : H a = some o) (h' : H b = none) : a ≠ b := by
  intro e; subst e; rw [h] at h'; cases h'

section
variable (P : Program) (w : World)
def ObjOk (H : Hp) (h : Heap) (a : Addr) : HO → Prop
  | .lst xs => xs.length ≤ sizeLine ∧ ∃ (its : List Value) (n : Nat), Vals xs its ∧ h.get? a = some { cls := .type "list", data := .seq its.toArray n }
  | .tup xs => xs.length ≤ sizeLine ∧ ∃ its : List Value, Vals xs its ∧ IsTup h a its.toArray
  | .dK kvs => kvs.length ≤ sizeLine ∧ (a == sysModules) = false ∧ ∃ vs, KV kvs vs ∧ h.DictOf (mixKind P w) a vs
  | .dT kvs => kvs.length ≤ sizeLine ∧ (a == sysModules) = false ∧ ∃ xs : List (List Key × Addr × Value),
      Paired (fun (p : List Key × V) (q : List Key × Addr × Value) => p.1 = q.1 ∧ H q.2.1 = some (.tup (p.1.map kV)) ∧ RelV p.2 q.2.2) kvs xs ∧
      ∃ o es ep, h.get? a = some o ∧ o.ExactDict ∧ o.data = .dict es ep ∧ es.toList = xs.map (entryOfKey (tupleKind (mixKind P w))) ∧ (xs.map (·.1)).Nodup
  | .set S n => h.SetOf (intKind P w) a S n
  | .ins C dx fs => H dx = some (.own a) ∧ fs.length ≤ 1000 ∧ dx ≠ a ∧ h.get? a = some (PySem.W.instObj C dx) ∧
      ∃ mA, h.Ns1 dx mA ∧ (∀ f, RelO (fs.lookup f) (mA f)) ∧ PySem.Within mA (fs.map (·.1))
  | .own _ => ∃ o, h.get? a = some o
  | .xd fs => ∃ mA, h.Ns1 a mA ∧ ∀ f, RelO (fs.lookup f) (mA f)
  | .rng lo hi => ∃ t u v, h.get? a = some { cls := .type "range", data := .fields #[.int lo t, .int hi u, .int 1 v] }
  | .frz o u => h.get? a = some o ∧ ObjOk H h a u
  | .tbl ps => h.get? a = some { cls := .none, data := .fields ps }
  | .met f x => h.get? a = some (PySem.W.methodObj (.ref f) (.ref x))
  | .ext φ => φ h ∧ (∃ o, h.get? a = some o) ∧ ∀ h1 h2 : Heap, φ h1 → (∀ o, h1.get? a = some o → h2.get? a = some o) → φ h2
/-- the abstract heap is held -/
def HOk (H : Hp) (h : Heap) : Prop := ∀ a o, H a = some o → ObjOk P w H h a o
end

section
variable {P : Program} {w : World} {H H' : Hp} {h h' : Heap} {a : Addr} {o : HO}
theorem ObjOk.lt (x : ObjOk P w H h a o) : a < h.objs.size := by
  cases o with
  | lst xs => obtain ⟨_, _, _, _, e⟩ := x; exact Heap.lt_size e
  | tup xs => obtain ⟨_, _, _, p⟩ := x; exact p.lt
  | dK kvs => obtain ⟨_, _, _, _, o, _, _, e, _⟩ := x; exact Heap.lt_size e
  | dT kvs => obtain ⟨_, _, _, _, o, _, _, e, _⟩ := x; exact Heap.lt_size e
  | set S n => obtain ⟨o, _, _, _, e, _⟩ := x; exact Heap.lt_size e
  | ins C dx fs => obtain ⟨_, _, _, e, _⟩ := x; exact Heap.lt_size e
  | own y => obtain ⟨_, e⟩ := x; exact Heap.lt_size e
  | xd fs => obtain ⟨_, ⟨_, _, _, e, _⟩, _⟩ := x; exact Heap.lt_size e
  | rng lo hi => obtain ⟨_, _, _, e⟩ := x; exact Heap.lt_size e
  | frz ob u => obtain ⟨e, _⟩ := x; exact Heap.lt_size e
  | tbl ps => exact Heap.lt_size (show h.get? a = some _ from x)
  | met f y => exact Heap.lt_size (show h.get? a = some _ from x)
  | ext φ => obtain ⟨_, ⟨_, e⟩, _⟩ := x; exact Heap.lt_size e
theorem Paired.mapP {α β : Type} {F G : α → β → Prop} : ∀ {l₁ : List α} {l₂ : List β}, Paired F l₁ l₂ → (∀ a b, F a b → G a b) → Paired G l₁ l₂
  | _, _, .nil, _ => .nil
  | _, _, .cons r t, f => .cons (f _ _ r) (Paired.mapP t f)
theorem Paired.imp' {α β : Type} {F G : α → β → Prop} (f : ∀ a b, F a b → G a b) {l₁ : List α} {l₂ : List β} (r : Paired F l₁ l₂) : Paired G l₁ l₂ := Paired.mapP r f
/-- what an object's description leans on: its own object, its own dict, the tuples -/
theorem ObjOk.stay (x : ObjOk P w H h a o) (k : ∀ b u, (b = a ∨ H b = some (.own a)) → h.get? b = some u → h'.get? b = some u)
    (ho : ∀ b, H b = some (.own a) → H' b = some (.own a)) (ht : ∀ b xs, H b = some (.tup xs) → H' b = some (.tup xs)) : ObjOk P w H' h' a o := by
  induction o with
  | lst xs => obtain ⟨z, its, n, r, e⟩ := x; exact ⟨z, its, n, r, k _ _ (.inl rfl) e⟩
  | tup xs => obtain ⟨z, its, r, ob, e, c⟩ := x; exact ⟨z, its, r, ob, k _ _ (.inl rfl) e, c⟩
  | dK kvs => obtain ⟨z, y, vs, r, ob, es, ep, e, c⟩ := x; exact ⟨z, y, vs, r, ob, es, ep, k _ _ (.inl rfl) e, c⟩
  | dT kvs =>
    obtain ⟨z, y, xs, r, ob, es, ep, e, c⟩ := x
    exact ⟨z, y, xs, Paired.mapP r fun p q z => ⟨z.1, ht _ _ z.2.1, z.2.2⟩, ob, es, ep, k _ _ (.inl rfl) e, c⟩
  | set S n => obtain ⟨ob, es, ep, t, e, c⟩ := x; exact ⟨ob, es, ep, t, k _ _ (.inl rfl) e, c⟩
  | ins C dx fs =>
    obtain ⟨d, z, ne, e, mA, ⟨od, es, ep, e2, c⟩, r⟩ := x
    exact ⟨ho _ d, z, ne, k _ _ (.inl rfl) e, mA, ⟨od, es, ep, k _ _ (.inr d) e2, c⟩, r⟩
  | own y => obtain ⟨ob, e⟩ := x; exact ⟨ob, k _ _ (.inl rfl) e⟩
  | xd fs => obtain ⟨mA, ⟨od, es, ep, e, c⟩, r⟩ := x; exact ⟨mA, ⟨od, es, ep, k _ _ (.inl rfl) e, c⟩, r⟩
  | rng lo hi => obtain ⟨t, u, v, e⟩ := x; exact ⟨t, u, v, k _ _ (.inl rfl) e⟩
  | frz ob u ih => obtain ⟨e, q⟩ := x; exact ⟨k _ _ (.inl rfl) e, ih q⟩
  | tbl ps =>
    have e : h.get? a = some { cls := .none, data := .fields ps } := x
    show h'.get? a = some { cls := .none, data := .fields ps }
    exact k a _ (.inl rfl) e
  | met f y =>
    have e : h.get? a = some (PySem.W.methodObj (.ref f) (.ref y)) := x
    show h'.get? a = some (PySem.W.methodObj (.ref f) (.ref y))
    exact k a _ (.inl rfl) e
  | ext φ => obtain ⟨p, ⟨o, e⟩, st⟩ := x; exact ⟨st _ _ p fun o q => k _ _ (.inl rfl) q, ⟨o, k _ _ (.inl rfl) e⟩, st⟩
theorem HOk.lt (x : HOk P w H h) (e : H a = some o) : a < h.objs.size := (x a o e).lt
theorem HOk.fresh (x : HOk P w H h) (e : h.objs.size ≤ a) : H a = none := by
  cases q : H a with
  | none => rfl
  | some u => exact absurd (Nat.lt_of_lt_of_le (x.lt q) e) (Nat.lt_irrefl _)
/-- every object of the heap is kept -/
theorem HOk.kept (x : HOk P w H h) (k : ∀ b u, h.get? b = some u → h'.get? b = some u) : HOk P w H h' := fun a o e =>
  (x a o e).stay (fun b u _ q => k b u q) (fun _ q => q) fun _ _ q => q
/-- a new object is laid and tracked -/
theorem HOk.laid (x : HOk P w H h) (k : ∀ b u, h.get? b = some u → h'.get? b = some u) (hp : h.objs.size ≤ a) (new : ObjOk P w (upd H a o) h' a o) : HOk P w (upd H a o) h' := fun b u e => by
  have hn := x.fresh hp
  by_cases hb : b = a
  · subst hb; rw [upd_same] at e; cases e; exact new
  · rw [upd_ne hb] at e
    exact (x b u e).stay (fun c v _ q => k c v q) (fun c q => by rw [upd_ne (ne_of_none q hn)]; exact q) fun c xs q => by rw [upd_ne (ne_of_none q hn)]; exact q
end

/-- what may be read as u: it is u, or a known u -/
def Rd (H : Hp) (a : Addr) (u : HO) : Prop := H a = some u ∨ ∃ o, H a = some (.frz o u)
theorem Rd.of {H : Hp} {a : Addr} {u : HO} (h : H a = some u) : Rd H a u := .inl h
theorem Rd.ok {P : Program} {w : World} {H : Hp} {h : Heap} {a : Addr} {u : HO} (r : Rd H a u) (x : HOk P w H h) : ObjOk P w H h a u := by
  rcases r with r | ⟨o, r⟩
  · exact x a u r
  · obtain ⟨_, q⟩ := x a _ r
    exact q
/-- what may be written -/
def Mut : Option HO → Prop
  | some (.lst _) => True
  | some (.dK _) => True
  | some (.dT _) => True
  | some (.set _ _) => True
  | some (.ins _ _ _) => True
  | some (.ext _) => True
  | _ => False
section
variable {P : Program} {w : World} {H : Hp} {h h' : Heap} {x e : Addr} {o' : HO}
/-- the object at e is changed: x itself, or the dict of the instance x -/
theorem HOk.write (ok : HOk P w H h) (mu : Mut (H x)) (he : e = x ∨ H e = some (.own x)) (k : ∀ b u, b ≠ e → h.get? b = some u → h'.get? b = some u) (heo : ∃ u, h'.get? e = some u)
    (new : ObjOk P w (upd H x o') h' x o') : HOk P w (upd H x o') h' := fun b u q => by
  have nown : ∀ c y, H c = some (.own y) → c ≠ x := fun c y r z => by subst z; rw [r] at mu; exact mu
  have ntup : ∀ c xs, H c = some (.tup xs) → c ≠ x := fun c xs r z => by subst z; rw [r] at mu; exact mu
  by_cases hb : b = x
  · subst hb; rw [upd_same] at q; cases q; exact new
  · rw [upd_ne hb] at q
    by_cases hbe : b = e
    · have q' : H b = some (.own x) := by
        rcases he with z | z
        · exact absurd (hbe.trans z) hb
        · rw [hbe]; exact z
      rw [q] at q'; cases q'
      obtain ⟨v, hv⟩ := heo
      exact ⟨v, by rw [hbe]; exact hv⟩
    · refine (ok b u q).stay (fun c v hc r => k c v ?_ r) (fun c r => by rw [upd_ne (nown c b r)]; exact r) fun c xs r => by rw [upd_ne (ntup c xs r)]; exact r
      rcases hc with rfl | hc
      · exact hbe
      · rintro rfl
        rcases he with z | z
        · exact nown c b hc z
        · rw [hc] at z; cases z; exact hb rfl
end

/-! ### kept unless tracked; of the frames at fs (the callers') the slots may change (an exception that passes writes there); of the records at ex (iterators) nothing is said -/
structure Un (fs ex : List Addr) (H H' : Hp) (h h' : Heap) : Prop where
  keep : ∀ b o, h.get? b = some o → H b = none → b ∉ fs → b ∉ ex → h'.get? b = some o
  slot : ∀ b o, h.get? b = some o → H b = none → b ∈ fs → b ∉ ex → ∃ sl, h'.get? b = some { o with slots := sl }
  free : ∀ b o, h.get? b = some o → H b = none → b ∉ ex → H' b = none
  there : ∀ b o, h.get? b = some o → b ∉ ex → ∃ o', h'.get? b = some o'
  tups : ∀ b xs, H b = some (.tup xs) → H' b = some (.tup xs)
  frzs : ∀ b o u, H b = some (.frz o u) → H' b = some (.frz o u)
  tbls : ∀ b ps, H b = some (.tbl ps) → ∃ more, H' b = some (.tbl (ps ++ more))
section
variable {fs fs' ex ex' : List Addr} {H H1 H2 : Hp} {h h1 h2 h' : Heap} {a x e : Addr} {o : HO}
theorem Un.any (u : Un fs ex H H1 h h1) {b : Addr} {ob : Obj} (q : h.get? b = some ob) (n : H b = none) (hx : b ∉ ex) : ∃ sl, h1.get? b = some { ob with slots := sl } := by
  by_cases hb : b ∈ fs
  · exact u.slot b ob q n hb hx
  · exact ⟨ob.slots, u.keep b ob q n hb hx⟩
theorem Un.trans (a : Un fs ex H H1 h h1) (b : Un fs ex H1 H2 h1 h2) : Un fs ex H H2 h h2 where
  keep := fun c ob q n hc hx => b.keep c ob (a.keep c ob q n hc hx) (a.free c ob q n hx) hc hx
  slot := fun c ob q n hc hx => by
    obtain ⟨sl, e1⟩ := a.slot c ob q n hc hx
    obtain ⟨sl', e2⟩ := b.slot c _ e1 (a.free c ob q n hx) hc hx
    exact ⟨sl', e2⟩
  free := fun c ob q n hx => by
    obtain ⟨o', e1⟩ := a.there c ob q hx
    exact b.free c o' e1 (a.free c ob q n hx) hx
  there := fun c ob q hx => by
    obtain ⟨o', e1⟩ := a.there c ob q hx
    exact b.there c o' e1 hx
  tups := fun c xs q => b.tups c xs (a.tups c xs q)
  frzs := fun c ob xs q => b.frzs c ob xs (a.frzs c ob xs q)
  tbls := fun c ps q => by
    obtain ⟨m1, e1⟩ := a.tbls c ps q
    obtain ⟨m2, e2⟩ := b.tbls c _ e1
    exact ⟨m1 ++ m2, by rw [e2, Array.append_assoc]⟩
theorem Un.kept (k : ∀ b u, h.get? b = some u → h'.get? b = some u) : Un fs ex H H h h' :=
  ⟨fun b ob q _ _ _ => k b ob q, fun b ob q _ _ _ => ⟨ob.slots, k b ob q⟩, fun _ _ _ n _ => n, fun b ob q _ => ⟨ob, k b ob q⟩, fun _ _ q => q, fun _ _ _ q => q, fun _ ps q => ⟨#[], by rw [q]; simp⟩⟩
theorem Un.refl : Un fs ex H H h h := Un.kept fun _ _ q => q
theorem Un.laid (k : ∀ b u, h.get? b = some u → h'.get? b = some u) (hp : h.objs.size ≤ a) (hn : H a = none) : Un fs ex H (upd H a o) h h' where
  keep := fun b u q _ _ _ => k b u q
  slot := fun b u q _ _ _ => ⟨u.slots, k b u q⟩
  free := fun b u q n _ => by rw [upd_ne (Nat.ne_of_lt (Nat.lt_of_lt_of_le (Heap.lt_size q) hp))]; exact n
  there := fun b u q _ => ⟨u, k b u q⟩
  tups := fun b xs q => by rw [upd_ne (ne_of_none q hn)]; exact q
  frzs := fun b u xs q => by rw [upd_ne (ne_of_none q hn)]; exact q
  tbls := fun b ps q => ⟨#[], by rw [upd_ne (ne_of_none q hn), q]; simp⟩
theorem Un.write (mu : Mut (H x)) (he : e = x ∨ H e = some (.own x)) (k : ∀ b u, b ≠ e → h.get? b = some u → h'.get? b = some u) (heo : ∃ u, h'.get? e = some u) : Un fs ex H (upd H x o) h h' := by
  have hx : ∀ b, H b = none → b ≠ x := fun b n z => by subst z; rw [n] at mu; exact mu
  have hb : ∀ b, H b = none → b ≠ e := fun b n z => by
    subst z
    rcases he with r | r
    · exact hx b n r
    · rw [n] at r; cases r
  have hm : ∀ b u, H b = some u → ¬ Mut (some u) → b ≠ x := fun b u q nm z => by subst z; rw [q] at mu; exact nm mu
  refine ⟨fun b u q n _ _ => k b u (hb b n) q, fun b u q n _ _ => ⟨u.slots, k b u (hb b n) q⟩, fun b u q n _ => by rw [upd_ne (hx b n)]; exact n, fun b u q _ => ?_,
    fun b xs q => by rw [upd_ne (hm b _ q fun z => z)]; exact q, fun b u xs q => by rw [upd_ne (hm b _ q fun z => z)]; exact q, fun b ps q => ⟨#[], by rw [upd_ne (hm b _ q fun z => z), q]; simp⟩⟩
  by_cases hbe : b = e
  · subst hbe; exact heo
  · exact ⟨u, k b u hbe q⟩
theorem Un.mono (u : Un fs ex H H1 h h1) (hs : ∀ b ∈ fs, b ∈ fs') (hx : ∀ b ∈ ex, b ∈ ex') : Un fs' ex' H H1 h h1 :=
  ⟨fun b ob q n hb he => u.keep b ob q n (fun z => hb (hs b z)) fun z => he (hx b z), fun _ _ q n _ he => u.any q n fun z => he (hx _ z), fun b ob q n he => u.free b ob q n fun z => he (hx b z), fun b ob q he => u.there b ob q fun z => he (hx b z), u.tups, u.frzs, u.tbls⟩
end

/-! ### the heap without what is tracked -/
def trk (h : Heap) (H : Hp) : List Addr := (List.range h.objs.size).filter fun a => (H a).isSome
def hidT (h : Heap) (H : Hp) : Heap := PySem.W.hideAll h (trk h H)
theorem hidT_size (h : Heap) (H : Hp) : (hidT h H).objs.size = h.objs.size := PySem.W.hideAll_size _ _
theorem hidT_get {h : Heap} {H : Hp} {b : Addr} {o : Obj} (e : h.get? b = some o) (n : H b = none) : (hidT h H).get? b = some o :=
  PySem.W.hideAll_get _ e fun hm => by
    have q : (H b).isSome = true := (List.mem_filter.mp hm).2
    rw [n] at q; simp at q
theorem of_hidT {h : Heap} {H : Hp} {b : Addr} {o : Obj} (e : (hidT h H).get? b = some o) : h.get? b = some o ∧ H b = none := by
  have e' : h.get? b = some o := PySem.W.of_hideAll (trk h H) e
  refine ⟨e', ?_⟩
  cases q : H b with
  | none => rfl
  | some x =>
    have hm : b ∈ trk h H := List.mem_filter.mpr ⟨List.mem_range.mpr (Heap.lt_size e'), by simp [q]⟩
    have z : (hidT h H).get? b = none := PySem.W.hideAll_none (trk h H) hm
    rw [z] at e; cases e

/-! ### OpenK's ledger, filled with every new object but one -/
def allNews (g h : Heap) (L : Addr) : List (Addr × Obj) := (List.range h.objs.size).filterMap fun a => if a = L ∨ (g.get? a).isSome = true then none else (h.get? a).map fun o => (a, o)
theorem mem_allNews {g h : Heap} {L a : Addr} {o : Obj} (h1 : a ≠ L) (h2 : g.get? a = none) (h3 : h.get? a = some o) : (a, o) ∈ allNews g h L :=
  List.mem_filterMap.mpr ⟨a, List.mem_range.mpr (Heap.lt_size h3), by simp [h1, h2, h3]⟩
theorem of_mem_allNews {g h : Heap} {L : Addr} {p : Addr × Obj} (hp : p ∈ allNews g h L) : p.1 ≠ L ∧ g.get? p.1 = none ∧ h.get? p.1 = some p.2 := by
  obtain ⟨b, _, e⟩ := List.mem_filterMap.mp hp
  split at e
  · cases e
  · rename_i hn
    cases q : h.get? b with
    | none => rw [q] at e; simp at e
    | some u =>
      rw [q] at e
      simp only [Option.map_some, Option.some.injEq] at e
      subst e
      refine ⟨fun z => hn (.inl z), ?_, q⟩
      show g.get? b = none
      cases r : g.get? b with
      | none => rfl
      | some v => exact (hn (.inr (by simp [r]))).elim
def rest (g h : Heap) (L d : Addr) : List (Addr × Obj) := (allNews g h L).filter fun p => decide (p.1 ≠ d)
theorem rest_ne {g h : Heap} {L d : Addr} : ∀ p ∈ rest g h L d, p.1 ≠ d := fun p hp => of_decide_eq_true (List.mem_filter.mp hp).2
theorem mem_rest {g h : Heap} {L d a : Addr} {o : Obj} (h1 : a ≠ L) (h2 : g.get? a = none) (h3 : h.get? a = some o) (h4 : a ≠ d) : (a, o) ∈ rest g h L d :=
  List.mem_filter.mpr ⟨mem_allNews h1 h2 h3, decide_eq_true h4⟩
theorem news_all {g h : Heap} {L : Addr} : News g L h (allNews g h L) := fun p hp => let ⟨a, b, c⟩ := of_mem_allNews hp; ⟨c, a, b⟩
theorem news_at {g h : Heap} {L d : Addr} {o : Obj} (h1 : d ≠ L) (h2 : g.get? d = none) (h3 : h.get? d = some o) : News g L h ((d, o) :: rest g h L d) := fun p hp => by
  rcases List.mem_cons.mp hp with rfl | hp
  · exact ⟨h3, h1, h2⟩
  · exact news_all p (List.mem_filter.mp hp).1
/-- behind a rule that changed d alone: all else but the frame is kept -/
theorem kept_of_news {g h h' : Heap} {L d : Addr} {m : Str → Option Value} (k : ∀ b o, g.get? b = some o → h.get? b = some o) (F : Fr g L h' m) (N : News g L h' (rest g h L d)) :
    ∀ b o, b ≠ L → b ≠ d → h.get? b = some o → h'.get? b = some o := fun b o h1 h2 e => by
  cases q : g.get? b with
  | some u =>
    have := k b u q
    rw [e] at this; cases this
    exact F.keep b _ q
  | none => exact (N (b, o) (mem_rest h1 q e h2)).1
end L2

namespace L2
open PySem PySem.Spec PyProof.Rows

/-- the module's facts, over the base: the heap at the law's entry without what is tracked there -/
structure Mod (K : PySem.W.Frag) (mg : Str → Option Value) (base : Heap) : Prop where
  kin : K.In base
  glob : base.Ns mainGlobals mg
  blt : ∃ mb, base.Ns builtinsNs mb ∧ ∀ x : Str, x ≠ "__name__" → mb x = bootBuiltins x
  nolimit : base.NoLimit

/-- the context: a def's body (or a comprehension's block) running. base: fixed through the whole law; s₀, H₀: the entry; outer: the frames whose slots others may change (a def's callers); stack: all frames that run;
   ex: iterators that were made ahead of the entry and are walked here (a comprehension's); fn: the names whose cells were made at the entry (a def: all; a comprehension's block: its own); calm: not within an except suite; pn: pins that every state bears; xe: what is wanted of an exception that leaves the code -/
structure Cx where
  prog : Program
  w : World
  K : PySem.W.Frag
  mg : Str → Option Value
  base : Heap
  A : Around
  N : List Str
  s₀ : Shared
  H₀ : Hp
  env : Env
  outer : List Env
  stack : List Env
  ex : List Addr
  fn : Str → Bool
  calm : Bool
  pn : List (Addr × Obj)
  xe : Value → Shared → Prop
/-- the callers' frames -/
def frs (l : List Env) : List Addr := l.filterMap (·.frame)
abbrev Cx.fs (X : Cx) : List Addr := frs X.outer

def Vis (sc : Scope) (x : Str) : Prop := sc.names.lookup x = some .local ∨ sc.names.lookup x = some .cell ∨ sc.names.lookup x = some .free
def Loc (sc : Scope) (x : Str) : Prop := sc.names.lookup x = some .local ∨ sc.names.lookup x = some .cell
def Look (env : Env) (h : Heap) (m : Str → Option Value) (x : Str) (u : Value) : Prop :=
  (env.kindOf x = some .local ∧ m x = some u) ∨ ((env.kindOf x = some .cell ∨ env.kindOf x = some .free) ∧ ∃ c, env.cells.lookup x = some c ∧ h.IsCell c (some u))

structure Cx.Ok (X : Cx) : Prop where
  mod : Mod X.K X.mg X.base
  kind : X.env.scope.kind = .function
  glob : X.env.globals = mainGlobals
  blt : X.env.builtins = builtinsNs
  above : X.s₀.heap.objs.size ≤ X.env.locals
  inj : ∀ x y c, X.env.cells.lookup x = some c → X.env.cells.lookup y = some c → x = y
  has : ∀ x, (X.env.kindOf x = some .cell ∨ X.env.kindOf x = some .free) → ∃ c, X.env.cells.lookup x = some c
  cab : ∀ x c, X.fn x = true → X.env.cells.lookup x = some c → X.s₀.heap.objs.size ≤ c
  hd : X.calm = true → X.A.handled = none
  frames : X.A.frames = some X.stack
  stk : X.stack = X.outer ∨ (X.stack = X.env :: X.outer ∧ X.env.frame = some X.env.locals)
  exf : ∀ b ∈ X.ex, b ≠ X.env.locals ∧ ∀ x c, X.env.cells.lookup x = some c → c ≠ b
  bs : ∀ b o, X.base.get? b = some o → X.s₀.heap.get? b = some o ∧ X.H₀ b = none
  bsz : X.base.objs.size ≤ X.s₀.heap.objs.size
  noex : ∀ b o, X.base.get? b = some o → b ∉ X.ex
  exfs : ∀ b ∈ X.ex, b ∉ X.fs
  funs : X.s₀.heap.FunFrames X.base X.outer
  frf : ∀ b ∈ X.fs, X.H₀ b = none

structure Inv (X : Cx) (pins : List (Addr × Obj)) (σ : List (Option V)) (H : Hp) (s : Shared) : Prop where
  ok : X.Ok
  os : s.os = X.s₀.os
  bare : AllBare s.gens
  base : Un X.fs X.ex X.H₀ H X.s₀.heap s.heap
  loc : ∃ m, s.heap.Ns X.env.locals m ∧ ∀ (i : Nat) (x : Str) (v : V), X.N[i]? = some x → σ[i]? = some (some v) → Vis X.env.scope x → ∃ u, RelV v u ∧ Look X.env s.heap m x u
  cell : ∀ x c, X.env.cells.lookup x = some c → ∃ v, s.heap.IsCell c v
  free : H X.env.locals = none
  freeC : ∀ x c, X.env.cells.lookup x = some c → H c = none
  pin : ∀ p ∈ X.pn ++ pins, s.heap.get? p.1 = some p.2 ∧ H p.1 = none ∧ p.1 ≠ X.env.locals ∧ p.1 ∉ X.fs ∧ ∀ v, p.2.data ≠ .cell v
  hok : HOk X.prog X.w H s.heap
  len : σ.length = X.N.length

section
variable {X : Cx} {pins : List (Addr × Obj)} {σ : List (Option V)} {H H' : Hp} {s : Shared} {h' : Heap}

theorem Cx.Ok.nofr (ok : X.Ok) {b : Addr} {o : Obj} (e : X.base.get? b = some o) : b ∉ X.fs := fun hb => by
  have := (ok.funs.mem hb).1
  rw [e] at this; cases this
theorem Inv.bs (I : Inv X pins σ H s) : ∀ b o, X.base.get? b = some o → s.heap.get? b = some o ∧ H b = none := fun b o e =>
  ⟨I.base.keep b o (I.ok.bs b o e).1 (I.ok.bs b o e).2 (I.ok.nofr e) (I.ok.noex b o e), I.base.free b o (I.ok.bs b o e).1 (I.ok.bs b o e).2 (I.ok.noex b o e)⟩
theorem Inv.bk (I : Inv X pins σ H s) : ∀ b o, X.base.get? b = some o → s.heap.get? b = some o := fun b o e => (I.bs b o e).1
theorem Inv.mod (I : Inv X pins σ H s) : Mod X.K X.mg X.base := I.ok.mod
theorem Inv.kIn (I : Inv X pins σ H s) : X.K.In s.heap := I.ok.mod.kin.keeps I.bk
theorem Inv.nolimit (I : Inv X pins σ H s) : s.heap.NoLimit := I.ok.mod.nolimit.keeps I.bk
/-- the frame over the base: for OpenK's rules (K.In X.base is I.mod.kin) -/
theorem Inv.fr (I : Inv X pins σ H s) : ∃ m, Fr X.base X.env.locals s.heap m :=
  let ⟨m, hn, _⟩ := I.loc
  ⟨m, hn, I.bk, Nat.le_trans I.ok.bsz I.ok.above⟩
theorem Inv.lt (I : Inv X pins σ H s) : X.env.locals < s.heap.objs.size := let ⟨_, hn, _⟩ := I.loc; hn.lt
theorem Inv.sz (I : Inv X pins σ H s) : X.s₀.heap.objs.size ≤ s.heap.objs.size := Nat.le_trans I.ok.above (Nat.le_of_lt I.lt)
theorem Inv.nofs (I : Inv X pins σ H s) {a : Addr} (h : s.heap.objs.size ≤ a) : a ∉ X.fs := fun hb => by
  obtain ⟨_, o, ho, _⟩ := I.ok.funs.mem hb
  exact absurd (Nat.lt_of_lt_of_le (Heap.lt_size ho) (Nat.le_trans I.sz h)) (Nat.lt_irrefl _)
theorem Inv.cne (I : Inv X pins σ H s) : ∀ x c, X.env.cells.lookup x = some c → c ≠ X.env.locals := fun x c e z => by
  obtain ⟨v, o, ho, hd⟩ := I.cell x c e
  obtain ⟨m, ⟨o', es, ep, ho', hd', _⟩, _⟩ := I.loc
  rw [z, ho'] at ho; cases ho; rw [hd'] at hd; cases hd
theorem Inv.funs (I : Inv X pins σ H s) : s.heap.FunFrames X.base X.outer := by
  have all : ∀ (l : List Env), (∀ b ∈ frs l, b ∈ X.fs) → X.s₀.heap.FunFrames X.base l → s.heap.FunFrames X.base l := by
    intro l
    induction l with
    | nil => intro _ _; trivial
    | cons env r ih =>
      intro hs hl
      obtain ⟨hk, ⟨L, o, hf, hn, ho, hd⟩, hr⟩ := hl
      have hL : L ∈ X.fs := hs L (by unfold frs; rw [List.filterMap_cons, hf]; exact List.mem_cons_self)
      obtain ⟨sl, e⟩ := I.base.slot L o ho (I.ok.frf L hL) hL fun z => I.ok.exfs L z hL
      exact ⟨hk, ⟨L, _, hf, hn, e, hd⟩, ih (fun b hb => hs b (by unfold frs; rw [List.filterMap_cons, hf]; exact List.mem_cons_of_mem _ hb)) hr⟩
  exact all X.outer (fun _ hb => hb) I.ok.funs

/-- the frames that run, for a call -/
theorem Inv.stack (I : Inv X pins σ H s) : s.heap.FunFrames X.base X.stack := by
  rcases I.ok.stk with e | ⟨e, hf⟩
  · rw [e]; exact I.funs
  · rw [e]
    obtain ⟨m, hn, _⟩ := I.loc
    refine .cons (by rw [I.ok.kind]; decide) hf hn ?_ I.funs
    exact Heap.get?_none_of_le (Nat.le_trans I.ok.bsz I.ok.above)
theorem Inv.stkSub (I : Inv X pins σ H s) : ∀ b ∈ frs X.stack, b ∈ X.env.locals :: X.fs := fun b hb => by
  rcases I.ok.stk with e | ⟨e, hf⟩
  · rw [e] at hb; exact List.mem_cons_of_mem _ hb
  · rw [e] at hb
    unfold frs at hb
    rw [List.filterMap_cons, hf] at hb
    exact hb
theorem Inv.stkFree (I : Inv X pins σ H s) : ∀ b ∈ frs X.stack, H b = none := fun b hb => by
  rcases List.mem_cons.mp (I.stkSub b hb) with e | hb
  · rw [e]; exact I.free
  · obtain ⟨_, o, ho, _⟩ := I.ok.funs.mem hb
    exact I.base.free b o ho (I.ok.frf b hb) fun z => I.ok.exfs b z hb

/-- THE STEP: the untracked objects but the frame and the records at ch are kept (the callers' frames up to slots), the frame's map is kept, the new abstract heap is held -/
theorem Inv.step {g' : Array GenState} {t' : Nat} {d' : Drawn} {ch : List Addr} (I : Inv X pins σ H s)
    (hch : ∀ b ∈ ch, (b ∈ X.ex ∨ X.s₀.heap.objs.size ≤ b) ∧ b ≠ X.env.locals ∧ (∀ x c, X.env.cells.lookup x = some c → c ≠ b) ∧ ∀ p ∈ X.pn ++ pins, p.1 ≠ b)
    (keep : ∀ b o, b ≠ X.env.locals → b ∉ X.fs → b ∉ ch → s.heap.get? b = some o → H b = none → h'.get? b = some o)
    (slot : ∀ b o, b ≠ X.env.locals → b ∈ X.fs → b ∉ ch → s.heap.get? b = some o → H b = none → ∃ sl, h'.get? b = some { o with slots := sl }) (free : ∀ b o, b ∉ ch → s.heap.get? b = some o → H b = none → H' b = none)
    (there : ∀ b o, b ∉ ch → s.heap.get? b = some o → ∃ o', h'.get? b = some o')
    (tups : ∀ b xs, H b = some (.tup xs) → H' b = some (.tup xs)) (frzs : ∀ b o u, H b = some (.frz o u) → H' b = some (.frz o u)) (tbls : ∀ b ps, H b = some (.tbl ps) → ∃ more, H' b = some (.tbl (ps ++ more)))
    (ns : ∀ m, s.heap.Ns X.env.locals m → h'.Ns X.env.locals m) (hok : HOk X.prog X.w H' h') (hg : AllBare g') :
    Inv X pins σ H' { s with heap := h', gens := g', drawn := d', toks := t' } := by
  have neL : ∀ b o, X.s₀.heap.get? b = some o → b ≠ X.env.locals := fun b o e => Nat.ne_of_lt (Nat.lt_of_lt_of_le (Heap.lt_size e) I.ok.above)
  have neC : ∀ b o, X.s₀.heap.get? b = some o → b ∉ X.ex → b ∉ ch := fun b o e hx hb => by
    rcases (hch b hb).1 with z | z
    · exact hx z
    · exact absurd (Nat.lt_of_lt_of_le (Heap.lt_size e) z) (Nat.lt_irrefl _)
  have cellK : ∀ x c, X.env.cells.lookup x = some c → ∀ v, s.heap.IsCell c v → h'.IsCell c v := fun x c e v ⟨o, ho, hd⟩ => by
    have nch : c ∉ ch := fun z => (hch c z).2.2.1 x c e rfl
    by_cases hc : c ∈ X.fs
    · obtain ⟨sl, q⟩ := slot c o (I.cne x c e) hc nch ho (I.freeC x c e)
      exact ⟨_, q, hd⟩
    · exact ⟨o, keep c o (I.cne x c e) hc nch ho (I.freeC x c e), hd⟩
  refine ⟨I.ok, I.os, hg, ⟨fun b o e n hb hx => ?_, fun b o e n hb hx => ?_, fun b o e n hx => ?_, fun b o e hx => ?_, fun b xs e => tups b xs (I.base.tups b xs e), fun b o xs e => frzs b o xs (I.base.frzs b o xs e), fun b ps e => ?_⟩, ?_, fun x c e => ?_, ?_, fun x c e => ?_, fun p hp => ?_, hok, I.len⟩
  · exact keep b o (neL b o e) hb (neC b o e hx) (I.base.keep b o e n hb hx) (I.base.free b o e n hx)
  · obtain ⟨sl, e1⟩ := I.base.slot b o e n hb hx
    obtain ⟨sl', e2⟩ := slot b _ (neL b o e) hb (neC b o e hx) e1 (I.base.free b o e n hx)
    exact ⟨sl', e2⟩
  · obtain ⟨o', e1⟩ := I.base.there b o e hx
    exact free b o' (neC b o e hx) e1 (I.base.free b o e n hx)
  · obtain ⟨o', e1⟩ := I.base.there b o e hx
    exact there b o' (neC b o e hx) e1
  · obtain ⟨m1, e1⟩ := I.base.tbls b ps e
    obtain ⟨m2, e2⟩ := tbls b _ e1
    exact ⟨m1 ++ m2, by rw [e2, Array.append_assoc]⟩
  · obtain ⟨m, hn, hl⟩ := I.loc
    refine ⟨m, ns m hn, fun i x v e1 e2 e3 => ?_⟩
    obtain ⟨u, r, l⟩ := hl i x v e1 e2 e3
    refine ⟨u, r, ?_⟩
    rcases l with l | ⟨k, c, e, z⟩
    · exact .inl l
    · exact .inr ⟨k, c, e, cellK x c e _ z⟩
  · obtain ⟨v, z⟩ := I.cell x c e
    exact ⟨v, cellK x c e v z⟩
  · obtain ⟨m, ⟨o, _, _, ho, _⟩, _⟩ := I.loc
    exact free _ o (fun z => (hch _ z).2.1 rfl) ho I.free
  · obtain ⟨v, o, ho, hd⟩ := I.cell x c e
    exact free c o (fun z => (hch c z).2.2.1 x c e rfl) ho (I.freeC x c e)
  · obtain ⟨e, n, ne, nf, d⟩ := I.pin p hp
    have nch : p.1 ∉ ch := fun z => (hch p.1 z).2.2.2 p hp rfl
    exact ⟨keep p.1 p.2 ne nf nch e n, free p.1 p.2 nch e n, ne, nf, d⟩
/-- .. where the frame's own object is kept too -/
theorem Inv.un {t' : Nat} (I : Inv X pins σ H s) (u : Un X.fs [] H H' s.heap h') (hok : HOk X.prog X.w H' h') : Inv X pins σ H' { s with heap := h', toks := t' } := by
  obtain ⟨m, ⟨o, es, ep, ho, r⟩, _⟩ := id I.loc
  obtain ⟨sl, hL⟩ := u.any ho I.free (by simp)
  exact I.step (g' := s.gens) (d' := s.drawn) (ch := []) (fun _ z => nomatch z) (fun b o _ hb _ e n => u.keep b o e n hb (by simp)) (fun b o _ hb _ e n => u.slot b o e n hb (by simp)) (fun b o _ e n => u.free b o e n (by simp)) (fun b o _ e => u.there b o e (by simp)) u.tups u.frzs u.tbls (fun m' hm => by
    obtain ⟨o', es', ep', ho', r'⟩ := hm
    rw [ho] at ho'; cases ho'
    exact ⟨_, es', ep', hL, r'⟩) hok I.bare
/-- behind a call (or a comprehension's block): the slots of this frame may have changed too, the records at ch may have turned -/
theorem Inv.call {g' : Array GenState} {t' : Nat} {d' : Drawn} {ch : List Addr} (I : Inv X pins σ H s) (u : Un (frs X.stack) ch H H' s.heap h') (hok : HOk X.prog X.w H' h') (hg : AllBare g')
    (hch : ∀ b ∈ ch, (b ∈ X.ex ∨ X.s₀.heap.objs.size ≤ b) ∧ b ≠ X.env.locals ∧ (∀ x c, X.env.cells.lookup x = some c → c ≠ b) ∧ ∀ p ∈ X.pn ++ pins, p.1 ≠ b) :
    Inv X pins σ H' { s with heap := h', gens := g', drawn := d', toks := t' } := by
  obtain ⟨m, ⟨o, es, ep, ho, r⟩, _⟩ := id I.loc
  obtain ⟨sl, hL⟩ := u.any ho I.free fun z => (hch _ z).2.1 rfl
  exact I.step (ch := ch) hch (fun b o hL hb hc e n => u.keep b o e n (fun z => (List.mem_cons.mp (I.stkSub b z)).elim hL hb) hc) (fun b o _ _ hc e n => u.any e n hc) (fun b o hc e n => u.free b o e n hc) (fun b o hc e => u.there b o e hc) u.tups u.frzs u.tbls (fun m' hm => by
    obtain ⟨o', es', ep', ho', r'⟩ := hm
    rw [ho] at ho'; cases ho'
    exact ⟨_, es', ep', hL, r'⟩) hok hg
/-- an untracked record of ours (an iterator) has turned -/
theorem Inv.turned {t' : Nat} {it : Addr} (I : Inv X pins σ H s) (k : ∀ b o, b ≠ it → s.heap.get? b = some o → h'.get? b = some o) (hn : H it = none) (hL : it ≠ X.env.locals)
    (h1 : it ∈ X.ex ∨ X.s₀.heap.objs.size ≤ it) (h2 : ∀ x c, X.env.cells.lookup x = some c → c ≠ it) (h3 : ∀ p ∈ X.pn ++ pins, p.1 ≠ it) : Inv X pins σ H { s with heap := h', toks := t' } := by
  have nit : ∀ b u, H b = some u → b ≠ it := fun b u e z => by rw [z, hn] at e; cases e
  refine I.step (g' := s.gens) (d' := s.drawn) (ch := [it]) (fun b hb => ?_) (fun b o _ _ hc e _ => k b o (fun z => hc (by simp [z])) e) (fun b o _ _ hc e _ => ⟨o.slots, k b o (fun z => hc (by simp [z])) e⟩) (fun _ _ _ _ n => n)
    (fun b o hc e => ⟨o, k b o (fun z => hc (by simp [z])) e⟩) (fun _ _ e => e) (fun _ _ _ e => e) (fun b ps e => ⟨#[], by rw [e]; simp⟩) (fun m hm => ?_) (fun b u e => ?_) I.bare
  · have e : b = it := by simpa using hb
    subst e
    exact ⟨h1, hL, h2, h3⟩
  · obtain ⟨o, es, ep, ho, r⟩ := hm
    exact ⟨o, es, ep, k _ o (Ne.symm hL) ho, r⟩
  · refine (I.hok b u e).stay (fun c v hc q => k c v ?_ q) (fun _ q => q) fun _ _ q => q
    rcases hc with z | z
    · rw [z]; exact nit b u e
    · exact nit c _ z
theorem Inv.tok (I : Inv X pins σ H s) (t : Nat) : Inv X pins σ H { s with toks := t } := I.un (h' := s.heap) (t' := t) Un.refl I.hok
/-- all objects kept -/
theorem Inv.kept {t' : Nat} (I : Inv X pins σ H s) (k : ∀ b u, s.heap.get? b = some u → h'.get? b = some u) : Inv X pins σ H { s with heap := h', toks := t' } := I.un (Un.kept k) (I.hok.kept k)
/-- a new object laid and tracked -/
theorem Inv.laid {a : Addr} {o : HO} {t' : Nat} (I : Inv X pins σ H s) (k : ∀ b u, s.heap.get? b = some u → h'.get? b = some u) (hp : s.heap.objs.size ≤ a) (new : ObjOk X.prog X.w (upd H a o) h' a o) :
    Inv X pins σ (upd H a o) { s with heap := h', toks := t' } := I.un (Un.laid k hp (I.hok.fresh hp)) (I.hok.laid k hp new)
/-- an object written -/
theorem Inv.write {x e : Addr} {o : HO} {t' : Nat} (I : Inv X pins σ H s) (mu : Mut (H x)) (he : e = x ∨ H e = some (.own x)) (k : ∀ b u, b ≠ e → s.heap.get? b = some u → h'.get? b = some u) (heo : ∃ u, h'.get? e = some u)
    (new : ObjOk X.prog X.w (upd H x o) h' x o) : Inv X pins σ (upd H x o) { s with heap := h', toks := t' } := I.un (Un.write mu he k heo) (I.hok.write mu he k heo new)
/-- forgetting slots, pins -/
theorem Inv.weak {σ' : List (Option V)} (I : Inv X pins σ H s) (hl : σ'.length = σ.length) (w : ∀ (i : Nat) v, σ'[i]? = some (some v) → σ[i]? = some (some v)) : Inv X pins σ' H s :=
  ⟨I.ok, I.os, I.bare, I.base, let ⟨m, hn, hl'⟩ := I.loc; ⟨m, hn, fun i x v e1 e2 e3 => hl' i x v e1 (w i v e2) e3⟩, I.cell, I.free, I.freeC, I.pin, I.hok, hl.trans I.len⟩
theorem Inv.pins_of {pins' : List (Addr × Obj)} (I : Inv X pins σ H s) (h : ∀ p ∈ pins', s.heap.get? p.1 = some p.2 ∧ H p.1 = none ∧ p.1 ≠ X.env.locals ∧ p.1 ∉ X.fs ∧ ∀ v, p.2.data ≠ .cell v) : Inv X pins' σ H s :=
  ⟨I.ok, I.os, I.bare, I.base, I.loc, I.cell, I.free, I.freeC, fun p hp => (List.mem_append.mp hp).elim (fun z => I.pin p (List.mem_append_left _ z)) (h p), I.hok, I.len⟩

theorem nodup_ix {N : List Str} (hN : N.Nodup) {i j : Nat} {x : Str} (a : N[i]? = some x) (b : N[j]? = some x) : i = j := by
  obtain ⟨h1, e1⟩ := List.getElem?_eq_some_iff.mp a
  obtain ⟨h2, e2⟩ := List.getElem?_eq_some_iff.mp b
  exact (List.getElem_inj hN).mp (e1.trans e2.symm)

/-- a name is stored; what changed -/
theorem store_ok2 {M : Model} {A : Around} {E : Value → Shared → Prop} {i : Nat} {x : Str} {v : V} {u : Value} {Q : Unit → Shared → Prop} (I : Inv X pins σ H s) (hN : X.N.Nodup) (hi : X.N[i]? = some x) (hx : Loc X.env.scope x) (r : RelV v u)
    (h : ∀ s', Inv X pins (σ.set i (some v)) H s' → (∃ a, Heap.SameBut a s.heap s'.heap ∧ (a = X.env.locals ∨ X.env.cells.lookup x = some a)) → Q () s') (hf : X.fn x = true ∨ X.env.scope.names.lookup x = some .local := by first | exact .inl rfl | exact .inr rfl | assumption) : wpAny M A (storeName X.env x u) Q E s := by
  obtain ⟨m, hn, hl⟩ := id I.loc
  have hcls : (X.env.scope.kind == .class || (X.env.scope.kind == .module && X.env.locals != X.env.globals)) = false := by rw [I.ok.kind]; rfl
  have hiσ : i < σ.length := by rw [I.len]; exact (List.getElem?_eq_some_iff.mp hi).1
  have cne := I.cne
  have tracked : ∀ {a : Addr} {h' : Heap}, (∃ o, s.heap.get? a = some o ∧ H a = none) → Heap.SameBut a s.heap h' → HOk X.prog X.w H h' := fun {a h'} ha hs b ob e => by
    obtain ⟨_, _, hfree⟩ := ha
    refine (I.hok b ob e).stay (fun c w' hc q => (hs.2 c ?_).trans q) (fun _ q => q) fun _ _ q => q
    rintro rfl
    rcases hc with rfl | hc
    · rw [hfree] at e; cases e
    · rw [hfree] at hc; cases hc
  rcases hx with hk | hk
  · refine wpAny_storeName_local hk hn (fun h' hn' hs => ?_) hcls
    obtain ⟨oL, _, _, hoL, _⟩ := id hn
    refine h _ ⟨I.ok, I.os, I.bare, ⟨fun b o e n hb hx => ?_, fun b o e n hb hx => ?_, I.base.free, fun b o e hx => ?_, I.base.tups, I.base.frzs, I.base.tbls⟩, ⟨_, hn', fun j y v' e1 e2 e3 => ?_⟩, fun y c e => ?_, I.free, I.freeC, fun p hp => ?_, tracked ⟨oL, hoL, I.free⟩ hs, by simpa using I.len⟩ ⟨_, hs, .inl rfl⟩
    · exact (hs.2 b (Nat.ne_of_lt (Nat.lt_of_lt_of_le (Heap.lt_size e) I.ok.above))).trans (I.base.keep b o e n hb hx)
    · obtain ⟨sl, e1⟩ := I.base.slot b o e n hb hx
      exact ⟨sl, (hs.2 b (Nat.ne_of_lt (Nat.lt_of_lt_of_le (Heap.lt_size e) I.ok.above))).trans e1⟩
    · obtain ⟨o', e1⟩ := I.base.there b o e hx
      exact ⟨o', (hs.2 b (Nat.ne_of_lt (Nat.lt_of_lt_of_le (Heap.lt_size e) I.ok.above))).trans e1⟩
    · by_cases hj : j = i
      · subst hj
        rw [hi] at e1; cases e1
        rw [List.getElem?_set_self hiσ] at e2
        cases e2
        exact ⟨u, r, .inl ⟨hk, by simp⟩⟩
      · rw [List.getElem?_set_ne (Ne.symm hj)] at e2
        obtain ⟨u', r', q⟩ := hl j y v' e1 e2 e3
        refine ⟨u', r', ?_⟩
        rcases q with ⟨k, e⟩ | ⟨k, c, e, z⟩
        · refine .inl ⟨k, ?_⟩
          have : y ≠ x := fun e => hj (nodup_ix hN e1 (e ▸ hi))
          simp [this, e]
        · exact .inr ⟨k, c, e, z.sameBut hs (cne y c e)⟩
    · obtain ⟨w', z⟩ := I.cell y c e
      exact ⟨w', z.sameBut hs (cne y c e)⟩
    · obtain ⟨e, n, ne, nf, d⟩ := I.pin p hp
      exact ⟨(hs.2 p.1 ne).trans e, n, ne, nf, d⟩
  · have hfn : X.fn x = true := by
      rcases hf with z | z
      · exact z
      · rw [z] at hk; cases hk
    obtain ⟨c, hc⟩ := I.ok.has x (.inl hk)
    obtain ⟨w', z⟩ := I.cell x c hc
    refine wpAny_storeName_cell I.ok.kind hk hc z (fun h' hc' hs => ?_)
    obtain ⟨oc, hoc, hocd⟩ := id z
    refine h { s with heap := h' } ⟨I.ok, I.os, I.bare, ⟨fun b o e n hb hx => ?_, fun b o e n hb hx => ?_, I.base.free, fun b o e hx => ?_, I.base.tups, I.base.frzs, I.base.tbls⟩, ⟨m, hn.sameBut hs (Ne.symm (cne x c hc)), fun j y v' e1 e2 e3 => ?_⟩, fun y c' e => ?_, I.free, I.freeC, fun p hp => ?_, tracked ⟨oc, hoc, I.freeC x c hc⟩ hs, by simpa using I.len⟩ ⟨c, hs, .inr hc⟩
    · exact (hs.2 b (Nat.ne_of_lt (Nat.lt_of_lt_of_le (Heap.lt_size e) (I.ok.cab x c hfn hc)))).trans (I.base.keep b o e n hb hx)
    · obtain ⟨sl, e1⟩ := I.base.slot b o e n hb hx
      exact ⟨sl, (hs.2 b (Nat.ne_of_lt (Nat.lt_of_lt_of_le (Heap.lt_size e) (I.ok.cab x c hfn hc)))).trans e1⟩
    · obtain ⟨o', e1⟩ := I.base.there b o e hx
      exact ⟨o', (hs.2 b (Nat.ne_of_lt (Nat.lt_of_lt_of_le (Heap.lt_size e) (I.ok.cab x c hfn hc)))).trans e1⟩
    · by_cases hj : j = i
      · subst hj
        rw [hi] at e1; cases e1
        rw [List.getElem?_set_self hiσ] at e2
        cases e2
        exact ⟨u, r, .inr ⟨.inl hk, c, hc, hc'⟩⟩
      · rw [List.getElem?_set_ne (Ne.symm hj)] at e2
        obtain ⟨u', r', q⟩ := hl j y v' e1 e2 e3
        refine ⟨u', r', ?_⟩
        rcases q with q | ⟨k, c', e, z'⟩
        · exact .inl q
        · refine .inr ⟨k, c', e, z'.sameBut hs ?_⟩
          rintro rfl
          exact hj (nodup_ix hN e1 (I.ok.inj _ _ _ e hc ▸ hi))
    · by_cases hcc : c' = c
      · subst hcc; exact ⟨_, hc'⟩
      · obtain ⟨w2, z2⟩ := I.cell y c' e
        exact ⟨w2, z2.sameBut hs hcc⟩
    · obtain ⟨e, n, ne, nf, d⟩ := I.pin p hp
      refine ⟨(hs.2 p.1 ?_).trans e, n, ne, nf, d⟩
      intro q
      rw [q, hoc] at e
      have q' : oc = p.2 := Option.some.inj e
      exact d w' (by rw [← q']; exact hocd)
theorem store_ok {M : Model} {A : Around} {E : Value → Shared → Prop} {i : Nat} {x : Str} {v : V} {u : Value} {Q : Unit → Shared → Prop} (I : Inv X pins σ H s) (hN : X.N.Nodup) (hi : X.N[i]? = some x) (hx : Loc X.env.scope x) (r : RelV v u)
    (h : ∀ s', Inv X pins (σ.set i (some v)) H s' → Q () s') (hf : X.fn x = true ∨ X.env.scope.names.lookup x = some .local := by first | exact .inl rfl | exact .inr rfl | assumption) : wpAny M A (storeName X.env x u) Q E s :=
  store_ok2 I hN hi hx r (fun s' I' _ => h s' I') hf
/-- behind a call or a block, the state as it is -/
theorem Inv.call' {s' : Shared} {ch : List Addr} (I : Inv X pins σ H s) (ho : s'.os = s.os) (u : Un (frs X.stack) ch H H' s.heap s'.heap) (hok : HOk X.prog X.w H' s'.heap) (hg : AllBare s'.gens)
    (hch : ∀ b ∈ ch, (b ∈ X.ex ∨ X.s₀.heap.objs.size ≤ b) ∧ b ≠ X.env.locals ∧ (∀ x c, X.env.cells.lookup x = some c → c ≠ b) ∧ ∀ p ∈ X.pn ++ pins, p.1 ≠ b) : Inv X pins σ H' s' := by
  obtain ⟨h', g', d', t', o'⟩ := s'
  have e : o' = s.os := ho
  subst e
  exact I.call (g' := g') (t' := t') (d' := d') u hok hg hch
end

/-! ### the judgements -/
/-- an exception: its class, its own dict's address (where it has one), the abstract heap behind it -/
abbrev XK := Value → Option Addr → Hp → Prop
abbrev St := List (Option V)
abbrev VK := V → Hp → Prop
/-- an expression's reading; a test's; an argument list's -/
abbrev TE := St → Hp → VK → Prop
abbrev TT := St → Hp → (Bool → Hp → Prop) → Prop
abbrev TA := St → Hp → (List V → Hp → Prop) → Prop
/-- what is wanted behind a statement -/
structure Ends where
  nx : St → Hp → Prop
  rt : VK
  bk : St → Hp → Prop := fun _ _ => False
  ct : St → Hp → Prop := fun _ _ => False
abbrev TS := Ends → St → Hp → Prop

def EP (X : Cx) (pins : List (Addr × Obj)) (σ : St) (Q : VK) (u : Value) (s' : Shared) : Prop := ∃ v H', Inv X pins σ H' s' ∧ RelV v u ∧ Q v H'
def TP (X : Cx) (pins : List (Addr × Obj)) (σ : St) (Q : Bool → Hp → Prop) (b : Bool) (s' : Shared) : Prop := ∃ H', Inv X pins σ H' s' ∧ Q b H'
def AP (X : Cx) (pins : List (Addr × Obj)) (σ : St) (Q : List V → Hp → Prop) (us : List Value) (s' : Shared) : Prop := ∃ vs H', Inv X pins σ H' s' ∧ Vals vs us ∧ Q vs H'
def SP (X : Cx) (pins : List (Addr × Obj)) (D : Ends) (f : Flow) (s' : Shared) : Prop :=
  match f with
  | .next => ∃ σ' H', Inv X pins σ' H' s' ∧ D.nx σ' H'
  | .brk => ∃ σ' H', Inv X pins σ' H' s' ∧ D.bk σ' H'
  | .cont => ∃ σ' H', Inv X pins σ' H' s' ∧ D.ct σ' H'
  | .ret u => ∃ v σ' H', Inv X pins σ' H' s' ∧ RelV v u ∧ D.rt v H'

def PE (X : Cx) (e : Expr) (t : TE) : Prop :=
  ∀ (pins : List (Addr × Obj)) (s : Shared) (σ : St) (H : Hp) (Q : VK), Inv X pins σ H s → t σ H Q → wpAny (model X.prog X.w) X.A (eval e X.env) (EP X pins σ Q) X.xe s
def PT (X : Cx) (e : Expr) (t : TT) : Prop :=
  ∀ (pins : List (Addr × Obj)) (s : Shared) (σ : St) (H : Hp) (Q : Bool → Hp → Prop), Inv X pins σ H s → t σ H Q → wpAny (model X.prog X.w) X.A (isTrue e X.env (eval e X.env)) (TP X pins σ Q) X.xe s
/-- a test whatever its 'whole' is (and, or) -/
def PW (X : Cx) (e : Expr) (t : TT) : Prop :=
  ∀ (whole : Sem Value) (pins : List (Addr × Obj)) (s : Shared) (σ : St) (H : Hp) (Q : Bool → Hp → Prop), Inv X pins σ H s → t σ H Q → wpAny (model X.prog X.w) X.A (isTrue e X.env whole) (TP X pins σ Q) X.xe s
theorem PW.pt {X : Cx} {e : Expr} {t : TT} (h : PW X e t) : PT X e t := h _
/-- an argument list (no star), from the left -/
def PA (X : Cx) (es : List Expr) (t : TA) : Prop :=
  ∀ (pos : Pos) (pins : List (Addr × Obj)) (s : Shared) (σ : St) (H : Hp) (Q : List V → Hp → Prop), Inv X pins σ H s → t σ H Q → wpAny (model X.prog X.w) X.A (spliced (backTo pos (starEach es X.env))) (AP X pins σ Q) X.xe s
def PS (X : Cx) (st : Stmt) (t : TS) : Prop :=
  ∀ (pins : List (Addr × Obj)) (s : Shared) (σ : St) (H : Hp) (D : Ends), Inv X pins σ H s → t D σ H → wpAny (model X.prog X.w) X.A (exec st X.env) (SP X pins D) X.xe s
def PSs (X : Cx) (st : List Stmt) (t : TS) : Prop :=
  ∀ (pins : List (Addr × Obj)) (s : Shared) (σ : St) (H : Hp) (D : Ends), Inv X pins σ H s → t D σ H → wpAny (model X.prog X.w) X.A (execs st X.env) (SP X pins D) X.xe s
/-- weaken the end -/
theorem thn {α : Type} {t : Sem α} {Q Q' : α → Shared → Prop} {M : Model} {A : Around} {E : Value → Shared → Prop} {s : Shared} (h : wpAny M A t Q E s) (hQ : ∀ a s, Q a s → Q' a s) : wpAny M A t Q' E s := wpAny_mono h hQ fun _ _ x => x
end L2

namespace L2
open PySem PySem.Spec PyProof.Rows
section
variable {X : Cx}

/-- two expressions in a row -/
theorem bin {a b : Expr} {ta tb : TE} (ha : PE X a ta) (hb : PE X b tb) {pins : List (Addr × Obj)} {s : Shared} {σ : St} {H : Hp} {R : V → V → Hp → Prop} (I : Inv X pins σ H s) (h : ta σ H fun x H1 => tb σ H1 fun y H2 => R x y H2)
    {α : Type} {Q : α → Shared → Prop} {f : Value → Value → Sem α}
    (hf : ∀ v u s2 x y H2, Inv X pins σ H2 s2 → RelV x v → RelV y u → R x y H2 → wpAny (model X.prog X.w) X.A (f v u) Q X.xe s2) :
    wpAny (model X.prog X.w) X.A (eval a X.env) (fun v s₁ => wpAny (model X.prog X.w) X.A (eval b X.env) (fun u s₂ => wpAny (model X.prog X.w) X.A (f v u) Q X.xe s₂) X.xe s₁) X.xe s := by
  refine thn (ha pins s σ H _ I h) fun v s1 ⟨x, H1, I1, r1, q1⟩ => ?_
  refine thn (hb pins s1 σ H1 _ I1 q1) fun u s2 ⟨y, H2, I2, r2, q2⟩ => ?_
  exact hf v u s2 x y H2 I2 r1 r2 q2

/-! ### names and constants -/
def tVar (i : Nat) : TE := fun σ H Q => ∃ v, σ[i]? = some (some v) ∧ Q v H
def tC (v : V) : TE := fun _ H Q => Q v H
theorem pe_var {i : Nat} {x : Str} {pos : Pos} (hN : X.N[i]? = some x) (hv : Vis X.env.scope x) (hd : (x == ("__debug__" : Str)) = false := by decide) (hcd : (x == ("__classdict__" : Str)) = false := by decide) : PE X (.Name x pos) (tVar i) := by
  intro pins s σ H Q I h
  obtain ⟨v, e, h⟩ := h
  obtain ⟨m, hn, hl⟩ := I.loc
  obtain ⟨u, r, l⟩ := hl i x v hN e hv
  have fin : EP X pins σ Q u s := ⟨v, H, I, r, h⟩
  rcases l with ⟨hk, hm⟩ | ⟨hk, c, hc, hcell⟩
  · exact wpAny_Name (wpAny_loadName_local I.ok.kind hk hn hm fin) hd
  · rcases hk with hk | hk
    · exact wpAny_Name (wpAny_loadName_cell I.ok.kind hk hc hcell fin) hd
    · exact wpAny_Name (wpAny_loadName_free I.ok.kind hk hc hcell fin hcd) hd
theorem pe_int {i j pos} : PE X (.Constant (.int i) j pos) (tC (.int i)) := fun _ _ _ H _ I h => wpAny_Constant_int ⟨.int i, H, I.tok _, ⟨_, rfl⟩, h⟩
theorem pe_bl {b j pos} : PE X (.Constant (.bool b) j pos) (tC (.bl b)) := fun _ _ _ H _ I h => Constant_bool ⟨.bl b, H, I, rfl, h⟩
theorem pe_non {j pos} : PE X (.Constant .none j pos) (tC .non) := fun _ _ _ H _ I h => Constant_none ⟨.non, H, I, rfl, h⟩
theorem pe_str {x j pos} : PE X (.Constant (.str x) j pos) (tC (.str x)) := fun _ _ _ H _ I h => Calls.Constant_str ⟨.str x, H, I.tok _, ⟨_, rfl⟩, h⟩

/-- a global name of the def -/
def Gl (X : Cx) (x : Str) : Prop := X.env.kindOf x = some .globalImplicit
theorem ld_glob {E : Value → Shared → Prop} {pins : List (Addr × Obj)} {s : Shared} {σ : St} {H : Hp} {x : Str} {u : Value} {pos : Pos} {Q : Value → Shared → Prop} (I : Inv X pins σ H s) (hg : Gl X x) (hm : X.mg x = some u) (h : Q u s)
    (hd : (x == ("__debug__" : Str)) = false := by decide) : wpAny (model X.prog X.w) X.A (eval (.Name x pos) X.env) Q E s :=
  Calls.Name_function_global I.ok.kind hg (Calls.loadGlobal_global (by rw [I.ok.glob]; exact I.mod.glob.keeps I.bk) hm h) hd
theorem ld_blt {E : Value → Shared → Prop} {pins : List (Addr × Obj)} {s : Shared} {σ : St} {H : Hp} {x : Str} {u : Value} {pos : Pos} {Q : Value → Shared → Prop} (I : Inv X pins σ H s) (hg : Gl X x) (hm : X.mg x = none) (hv : bootBuiltins x = some u) (h : Q u s)
    (hn : x ≠ "__name__" := by decide) (hd : (x == ("__debug__" : Str)) = false := by decide) : wpAny (model X.prog X.w) X.A (eval (.Name x pos) X.env) Q E s := by
  obtain ⟨mb, h1, h2⟩ := I.mod.blt
  exact Calls.Name_function_global I.ok.kind hg (Calls.loadGlobal_builtin (by rw [I.ok.glob]; exact I.mod.glob.keeps I.bk) hm (by rw [I.ok.blt]; exact h1.keeps I.bk) ((h2 x hn).trans hv) h) hd
/-- a module's constant, a class, a function, as a value -/
theorem pe_glob {x : Str} {v : V} {u : Value} {pos : Pos} (hg : Gl X x) (hm : X.mg x = some u) (r : RelV v u) (hd : (x == ("__debug__" : Str)) = false := by decide) : PE X (.Name x pos) (tC v) :=
  fun _ _ _ H _ I h => ld_glob I hg hm ⟨v, H, I, r, h⟩ hd
theorem pe_bltn {x : Str} {v : V} {u : Value} {pos : Pos} (hg : Gl X x) (hm : X.mg x = none) (hv : bootBuiltins x = some u) (r : RelV v u) (hn : x ≠ "__name__" := by decide) (hd : (x == ("__debug__" : Str)) = false := by decide) : PE X (.Name x pos) (tC v) :=
  fun _ _ _ H _ I h => ld_blt I hg hm hv ⟨v, H, I, r, h⟩ hn hd

/-! ### arithmetic -/
/-- two ints -/
def t2I (ta tb : TE) (k : Int → Int → Hp → Prop) : St → Hp → Prop := fun σ H => ta σ H fun x H1 => tb σ H1 fun y H2 => ∃ i j, x = .int i ∧ y = .int j ∧ k i j H2
def tAdd (ta tb : TE) : TE := fun σ H Q => t2I ta tb (fun i j H2 => Q (.int (i + j)) H2) σ H
def tSub (ta tb : TE) : TE := fun σ H Q => t2I ta tb (fun i j H2 => Q (.int (i - j)) H2) σ H
/-- the left factor below 2^64 -/
def tMul (ta tb : TE) : TE := fun σ H Q => t2I ta tb (fun i j H2 => (-(2 ^ 64) < i ∧ i < 2 ^ 64) ∧ Q (.int (i * j)) H2) σ H
variable {a b : Expr} {ta tb : TE} {pos : Pos}
theorem pe_add (ha : PE X a ta) (hb : PE X b tb) : PE X (.BinOp a .Add b pos) (tAdd ta tb) := by
  intro pins s σ H Q I h
  refine wpAny_BinOp (bin ha hb I h fun v u s2 x y H2 I2 rx ry q => ?_)
  obtain ⟨i, j, rfl, rfl, q⟩ := q
  obtain ⟨t, rfl⟩ := rx
  obtain ⟨t', rfl⟩ := ry
  exact add_int ⟨.int _, H2, I2.tok _, ⟨_, rfl⟩, q⟩
theorem pe_sub (ha : PE X a ta) (hb : PE X b tb) : PE X (.BinOp a .Sub b pos) (tSub ta tb) := by
  intro pins s σ H Q I h
  refine wpAny_BinOp (bin ha hb I h fun v u s2 x y H2 I2 rx ry q => ?_)
  obtain ⟨i, j, rfl, rfl, q⟩ := q
  obtain ⟨t, rfl⟩ := rx
  obtain ⟨t', rfl⟩ := ry
  exact sub_int ⟨.int _, H2, I2.tok _, ⟨_, rfl⟩, q⟩
theorem pe_mul (ha : PE X a ta) (hb : PE X b tb) : PE X (.BinOp a .Mult b pos) (tMul ta tb) := by
  intro pins s σ H Q I h
  refine wpAny_BinOp (bin ha hb I h fun v u s2 x y H2 I2 rx ry q => ?_)
  obtain ⟨i, j, rfl, rfl, ⟨q1, q2⟩, q⟩ := q
  obtain ⟨t, rfl⟩ := rx
  obtain ⟨t', rfl⟩ := ry
  exact mul_int ⟨.int _, H2, I2.tok _, ⟨_, rfl⟩, q⟩ (.of_left (intBits_le_64 q1 q2))

/-! ### comparisons -/
def PC (X : Cx) (op : CmpOp) (a b : Expr) (t : TE) : Prop :=
  ∀ (pins : List (Addr × Obj)) (s : Shared) (σ : St) (H : Hp) (Q : VK), Inv X pins σ H s → t σ H Q →
    wpAny (model X.prog X.w) X.A (eval a X.env) (fun v s₁ => wpAny (model X.prog X.w) X.A (eval b X.env) (fun u s₂ => wpAny (model X.prog X.w) X.A (compareOp op v u) (EP X pins σ Q) X.xe s₂) X.xe s₁) X.xe s
theorem nobehind (b : Expr) {op : CmpOp} (h : op ≠ .In) (h2 : op ≠ .NotIn) : behindInMarks op b = false := by
  have e1 : (op == CmpOp.In) = false := by cases op <;> first | rfl | exact absurd rfl h
  have e2 : (op == CmpOp.NotIn) = false := by cases op <;> first | rfl | exact absurd rfl h2
  cases b <;> simp [behindInMarks, e1, e2]
def tCmp (p : Int → Int → Bool) (ta tb : TE) : TE := fun σ H Q => t2I ta tb (fun i j H2 => Q (.bl (p i j)) H2) σ H
abbrev tLt : TE → TE → TE := tCmp fun i j => decide (i < j)
abbrev tLe : TE → TE → TE := tCmp fun i j => decide (i ≤ j)
abbrev tGt : TE → TE → TE := tCmp fun i j => decide (j < i)
abbrev tGe : TE → TE → TE := tCmp fun i j => decide (j ≤ i)
abbrev tEqI : TE → TE → TE := tCmp fun i j => decide (i = j)
abbrev tNeI : TE → TE → TE := tCmp fun i j => !decide (i = j)
/-- a comparison of two ints, by its rule -/
theorem pc_int {op : CmpOp} {p : Int → Int → Bool} (ha : PE X a ta) (hb : PE X b tb)
    (rule : ∀ (i j : Int) (t u : Tok) (Q : Value → Shared → Prop) (s : Shared), Q (.bool (p i j)) s → wpAny (model X.prog X.w) X.A (compareOp op (.int i t) (.int j u)) Q X.xe s) : PC X op a b (tCmp p ta tb) := by
  intro pins s σ H Q I h
  refine bin ha hb I h fun v u s2 x y H2 I2 rx ry q => ?_
  obtain ⟨i, j, rfl, rfl, q⟩ := q
  obtain ⟨t, rfl⟩ := rx
  obtain ⟨t', rfl⟩ := ry
  exact rule i j t t' _ s2 ⟨.bl _, H2, I2, rfl, q⟩
theorem pc_lt (ha : PE X a ta) (hb : PE X b tb) : PC X .Lt a b (tLt ta tb) := pc_int ha hb fun _ _ _ _ _ _ h => lt_int h
theorem pc_le (ha : PE X a ta) (hb : PE X b tb) : PC X .LtE a b (tLe ta tb) := pc_int ha hb fun _ _ _ _ _ _ h => le_int h
theorem pc_gt (ha : PE X a ta) (hb : PE X b tb) : PC X .Gt a b (tGt ta tb) := pc_int ha hb fun _ _ _ _ _ _ h => gt_int h
theorem pc_ge (ha : PE X a ta) (hb : PE X b tb) : PC X .GtE a b (tGe ta tb) := pc_int ha hb fun _ _ _ _ _ _ h => ge_int h
theorem pc_eqI (ha : PE X a ta) (hb : PE X b tb) : PC X .Eq a b (tEqI ta tb) := pc_int ha hb fun _ _ _ _ _ _ h => eq_int (by rw [Bool.beq_eq_decide_eq]; exact h)
theorem pc_neI (ha : PE X a ta) (hb : PE X b tb) : PC X .NotEq a b (tNeI ta tb) := pc_int ha hb fun _ _ _ _ _ _ h => ne_int (by rw [bne, Bool.beq_eq_decide_eq]; exact h)
/-- is None -/
def tIsN (ta : TE) : TE := fun σ H Q => ta σ H fun x H1 => Q (.bl (decide (x = .non))) H1
def tNotN (ta : TE) : TE := fun σ H Q => ta σ H fun x H1 => Q (.bl (!decide (x = .non))) H1
theorem RelV.none_iff {x : V} {v : Value} (r : RelV x v) : (v == Value.none) = decide (x = .non) := by
  cases x with
  | non => cases r; rfl
  | bl _ => cases r; rfl
  | int _ => obtain ⟨t, rfl⟩ := r; rfl
  | str _ => obtain ⟨t, rfl⟩ := r; rfl
  | byt _ => obtain ⟨t, rfl⟩ := r; rfl
  | flt _ => obtain ⟨t, rfl⟩ := r; rfl
  | ref _ => cases r; rfl
  | ty _ => cases r; rfl
theorem pc_isN {j pos'} (ha : PE X a ta) : PC X .Is a (.Constant .none j pos') (tIsN ta) := by
  intro pins s σ H Q I h
  refine thn (ha pins s σ H _ I h) fun v s1 ⟨x, H1, I1, r1, q1⟩ => ?_
  exact Constant_none (is_none_gen ⟨.bl _, H1, I1, by rw [r1.none_iff]; rfl, q1⟩)
theorem pc_notN {j pos'} (ha : PE X a ta) : PC X .IsNot a (.Constant .none j pos') (tNotN ta) := by
  intro pins s σ H Q I h
  refine thn (ha pins s σ H _ I h) fun v s1 ⟨x, H1, I1, r1, q1⟩ => ?_
  exact Constant_none (isnot_none_gen ⟨.bl _, H1, I1, by rw [r1.none_iff]; rfl, q1⟩)
/-- a comparison as a value, as a test -/
def tB (t : TE) : TT := fun σ H Q => t σ H fun x H1 => ∃ c, x = .bl c ∧ Q c H1
theorem pe_cmp {op : CmpOp} {t : TE} (h : PC X op a b t) (h1 : behindInMarks op b = false := by first | exact nobehind _ (by decide) (by decide) | rfl) : PE X (.Compare a [op] [b] pos) t := fun pins s σ H Q I hw => wpAny_Compare1 (h pins s σ H Q I hw) h1
theorem pt_cmp {op : CmpOp} {t : TE} (h : PC X op a b t) (h1 : behindInMarks op b = false := by first | exact nobehind _ (by decide) (by decide) | rfl) : PT X (.Compare a [op] [b] pos) (tB t) := by
  intro pins s σ H Q I hw
  refine wpAny_isTrue_Compare1 (thn (h pins s σ H _ I hw) fun v s1 h1 => thn h1 fun u s2 h2 => thn h2 fun c s3 ⟨x, H1, I1, r1, q1⟩ => ?_) h1
  obtain ⟨d, rfl, q⟩ := q1
  cases r1
  exact wpAny_truthy_bool ⟨H1, I1, q⟩
/-- an expression whose value is a bool, as a test -/
theorem pt_val {e : Expr} {t : TE} (h : PE X e t) (he : ∀ whole, isTrue e X.env whole = (do let v ← whole; standAt e.pos; holding [v] (truthy v)) := by intro _; rfl) : PT X e (tB t) := by
  intro pins s σ H Q I hw
  refine isTrue_plain (thn (h pins s σ H _ I hw) fun v s1 ⟨x, H1, I1, r1, q1⟩ => ?_) (he _)
  obtain ⟨d, rfl, q⟩ := q1
  cases r1
  exact wpAny_truthy_bool ⟨H1, I1, q⟩

/-! ### and, or, not -/
variable {tA tB' : TT} {rest : List Expr}
def tAnd (t u : TT) : TT := fun σ H Q => t σ H fun c H1 => if c = true then u σ H1 Q else Q false H1
def tOr (t u : TT) : TT := fun σ H Q => t σ H fun c H1 => if c = true then Q true H1 else u σ H1 Q
def tNot (t : TT) : TT := fun σ H Q => t σ H fun c H1 => Q (!c) H1
theorem pw_and1 (ha : PT X a tA) : PW X (.BoolOp .And [a] pos) tA := by
  intro wh pins s σ H Q I h
  refine isTrue_and (thn (ha pins s σ H Q I h) fun c s1 e => ?_)
  cases c with
  | true => exact isTrue_and_nil e
  | false => exact e
theorem pw_or1 (ha : PT X a tA) : PW X (.BoolOp .Or [a] pos) tA := by
  intro wh pins s σ H Q I h
  refine isTrue_or (thn (ha pins s σ H Q I h) fun c s1 e => ?_)
  cases c with
  | false => exact isTrue_or_nil e
  | true => exact e
theorem pw_and (ha : PT X a tA) (hb : PW X (.BoolOp .And (b :: rest) pos) tB') : PW X (.BoolOp .And (a :: b :: rest) pos) (tAnd tA tB') := by
  intro wh pins s σ H Q I h
  refine isTrue_and (thn (ha pins s σ H _ I h) fun c s1 ⟨H1, I1, q1⟩ => ?_)
  cases c with
  | true => exact hb wh pins s1 σ H1 Q I1 q1
  | false => exact ⟨H1, I1, q1⟩
theorem pw_or (ha : PT X a tA) (hb : PW X (.BoolOp .Or (b :: rest) pos) tB') : PW X (.BoolOp .Or (a :: b :: rest) pos) (tOr tA tB') := by
  intro wh pins s σ H Q I h
  refine isTrue_or (thn (ha pins s σ H _ I h) fun c s1 ⟨H1, I1, q1⟩ => ?_)
  cases c with
  | true => exact ⟨H1, I1, q1⟩
  | false => exact hb wh pins s1 σ H1 Q I1 q1
theorem pt_not (ha : PT X a tA) : PT X (.UnaryOp .Not a pos) (tNot tA) := by
  intro pins s σ H Q I h
  exact isTrue_not (ha pins s σ H (fun c H1 => Q (!c) H1) I h)
/-- .. as values (bools) -/
def tAndV (ta tb : TE) : TE := fun σ H Q => ta σ H fun x H1 => ∃ c, x = .bl c ∧ if c = true then tb σ H1 Q else Q (.bl false) H1
def tOrV (ta tb : TE) : TE := fun σ H Q => ta σ H fun x H1 => ∃ c, x = .bl c ∧ if c = true then Q (.bl true) H1 else tb σ H1 Q
def tNotV (ta : TE) : TE := fun σ H Q => ta σ H fun x H1 => ∃ c, x = .bl c ∧ Q (.bl (!c)) H1
theorem pe_one {op} {t : TE} (h : PE X a t) : PE X (.BoolOp op [a] pos) t := fun pins s σ H Q I hw => BoolOp_one (h pins s σ H Q I hw)
theorem pe_and (ha : PE X a ta) (hb : PE X (.BoolOp .And (b :: rest) pos) tb) : PE X (.BoolOp .And (a :: b :: rest) pos) (tAndV ta tb) := by
  intro pins s σ H Q I h
  refine BoolOp_and (thn (ha pins s σ H _ I h) fun v s1 ⟨x, H1, I1, r1, q1⟩ => ?_)
  obtain ⟨c, rfl, q1⟩ := q1
  cases r1
  refine wpAny_truthy_bool ?_
  cases c with
  | true => exact hb pins s1 σ H1 Q I1 q1
  | false => exact ⟨.bl false, H1, I1, rfl, q1⟩
theorem pe_or (ha : PE X a ta) (hb : PE X (.BoolOp .Or (b :: rest) pos) tb) : PE X (.BoolOp .Or (a :: b :: rest) pos) (tOrV ta tb) := by
  intro pins s σ H Q I h
  refine BoolOp_or (thn (ha pins s σ H _ I h) fun v s1 ⟨x, H1, I1, r1, q1⟩ => ?_)
  obtain ⟨c, rfl, q1⟩ := q1
  cases r1
  refine wpAny_truthy_bool ?_
  cases c with
  | false => exact hb pins s1 σ H1 Q I1 q1
  | true => exact ⟨.bl true, H1, I1, rfl, q1⟩
theorem pe_not (ha : PE X a ta) : PE X (.UnaryOp .Not a pos) (tNotV ta) := by
  intro pins s σ H Q I h
  refine UnaryOp_ (thn (ha pins s σ H _ I h) fun v s1 ⟨x, H1, I1, r1, q1⟩ => ?_)
  obtain ⟨c, rfl, q1⟩ := q1
  cases r1
  exact not_of (wpAny_truthy_bool ⟨.bl (!c), H1, I1, rfl, q1⟩)
/-- a if t else b -/
def tIf (t : TT) (ta tb : TE) : TE := fun σ H Q => t σ H fun c H1 => if c = true then ta σ H1 Q else tb σ H1 Q
theorem pe_ifExp {c : Expr} (hc : PT X c tA) (ha : PE X a ta) (hb : PE X b tb) : PE X (.IfExp c a b pos) (tIf tA ta tb) := by
  intro pins s σ H Q I h
  refine wpAny_IfExp (thn (hc pins s σ H _ I h) fun d s1 ⟨H1, I1, q1⟩ => ?_)
  cases d with
  | true => exact ha pins s1 σ H1 Q I1 q1
  | false => exact hb pins s1 σ H1 Q I1 q1
end
end L2

namespace L2
open PySem PySem.Spec PyProof.Rows

/-! ### a list, a tuple that is read: tracked, frozen, or an object of the module -/
def SqL (K : PySem.W.Frag) (H : Hp) (a : Addr) (xs : List V) : Prop :=
  Rd H a (.lst xs) ∨
    ∃ (o : Obj) (its : Array Value) (n : Nat), K.lookup a = some o ∧ o.cls = .type "list" ∧ o.dict = none ∧ o.data = .seq its n ∧ its.size ≤ sizeLine ∧ Vals xs its.toList
def SqT (K : PySem.W.Frag) (H : Hp) (a : Addr) (xs : List V) : Prop :=
  Rd H a (.tup xs) ∨
    ∃ (o : Obj) (its : Array Value) (n : Nat), K.lookup a = some o ∧ o.cls = .type "tuple" ∧ o.data = .seq its n ∧ its.size ≤ sizeLine ∧ Vals xs its.toList
def absV : Value → Option V
  | .none => some .non
  | .bool b => some (.bl b)
  | .int i _ => some (.int i)
  | .str x _ => some (.str x)
  | .bytes b _ => some (.byt b)
  | .float b _ => some (.flt b)
  | .ref a => some (.ref a)
  | .type n => some (.ty n)
  | _ => none
theorem RelV.abs {x : V} {u : Value} (r : RelV x u) : absV u = some x := by
  cases x with
  | non => cases r; rfl
  | bl _ => cases r; rfl
  | int _ => obtain ⟨t, rfl⟩ := r; rfl
  | str _ => obtain ⟨t, rfl⟩ := r; rfl
  | byt _ => obtain ⟨t, rfl⟩ := r; rfl
  | flt _ => obtain ⟨t, rfl⟩ := r; rfl
  | ref _ => cases r; rfl
  | ty _ => cases r; rfl
theorem RelV.inj {x y : V} {u : Value} (r : RelV x u) (q : RelV y u) : x = y := Option.some.inj (r.abs.symm.trans q.abs)
theorem Vals.inj : ∀ {xs ys : List V} {us : List Value}, Vals xs us → Vals ys us → xs = ys
  | _, _, _, .nil, .nil => rfl
  | _, _, _, .cons r t, .cons r' t' => by rw [r.inj r', Vals.inj t t']
section
variable {X : Cx} {pins : List (Addr × Obj)} {σ : St} {H : Hp} {s : Shared} {a : Addr} {xs ys : List V}
theorem SqL.of {K : PySem.W.Frag} (h : H a = some (.lst xs)) : SqL K H a xs := .inl (.inl h)
theorem SqT.of {K : PySem.W.Frag} (h : H a = some (.tup xs)) : SqT K H a xs := .inl (.inl h)
theorem Inv.list (I : Inv X pins σ H s) (h : SqL X.K H a xs) : ∃ its : List Value, Vals xs its ∧ PlainL s.heap a its.toArray ∧ xs.length ≤ sizeLine := by
  rcases h with h | ⟨o, its, n, hk, hc, hd, hs, hz, r⟩
  · obtain ⟨z, its, n, r, e⟩ := h.ok I.hok
    exact ⟨its, r, ⟨_, n, e, rfl, rfl, rfl⟩, z⟩
  · refine ⟨its.toList, r, ⟨o, n, I.kIn a o hk, hc, hd, by simpa using hs⟩, ?_⟩
    have e := r.length
    simp only [Array.length_toList] at e
    omega
theorem Inv.tuple (I : Inv X pins σ H s) (h : SqT X.K H a xs) : ∃ its : List Value, Vals xs its ∧ IsTup s.heap a its.toArray ∧ xs.length ≤ sizeLine := by
  rcases h with h | ⟨o, its, n, hk, hc, hs, hz, r⟩
  · obtain ⟨z, its, r, p⟩ := h.ok I.hok
    exact ⟨its, r, p, z⟩
  · refine ⟨its.toList, r, ⟨o, I.kIn a o hk, hc, n, by simpa using hs⟩, ?_⟩
    have e := r.length
    simp only [Array.length_toList] at e
    omega
theorem Inv.list_inj (I : Inv X pins σ H s) (h : SqL X.K H a xs) (h' : SqL X.K H a ys) : xs = ys := by
  obtain ⟨its, r, ⟨o, n, e, _, _, d⟩, _⟩ := I.list h
  obtain ⟨its', r', ⟨o', n', e', _, _, d'⟩, _⟩ := I.list h'
  rw [e] at e'; cases e'
  rw [d] at d'
  injection d' with d1 _
  have : its = its' := by simpa using congrArg Array.toList d1
  subst this
  exact r.inj r'
theorem Inv.tuple_inj (I : Inv X pins σ H s) (h : SqT X.K H a xs) (h' : SqT X.K H a ys) : xs = ys := by
  obtain ⟨its, r, ⟨o, e, _, n, d⟩, _⟩ := I.tuple h
  obtain ⟨its', r', ⟨o', e', _, n', d'⟩, _⟩ := I.tuple h'
  rw [e] at e'; cases e'
  rw [d] at d'
  injection d' with d1 _
  have : its = its' := by simpa using congrArg Array.toList d1
  subst this
  exact r.inj r'
end

/-! ### another wish about exceptions -/
abbrev Cx.wish (X : Cx) (E : Value → Shared → Prop) : Cx := { X with xe := E }
/-- no exception leaves -/
abbrev Cx.nox (X : Cx) : Cx := X.wish fun _ _ => False
theorem Cx.Ok.wish {X : Cx} (ok : X.Ok) (E : Value → Shared → Prop) : (X.wish E).Ok :=
  ⟨ok.mod, ok.kind, ok.glob, ok.blt, ok.above, ok.inj, ok.has, ok.cab, ok.hd, ok.frames, ok.stk, ok.exf, ok.bs, ok.bsz, ok.noex, ok.exfs, ok.funs, ok.frf⟩
theorem Cx.Ok.unwish {X : Cx} {E : Value → Shared → Prop} (ok : (X.wish E).Ok) : X.Ok :=
  ⟨ok.mod, ok.kind, ok.glob, ok.blt, ok.above, ok.inj, ok.has, ok.cab, ok.hd, ok.frames, ok.stk, ok.exf, ok.bs, ok.bsz, ok.noex, ok.exfs, ok.funs, ok.frf⟩
section
variable {X : Cx} {pins : List (Addr × Obj)} {σ : St} {H : Hp} {s : Shared} {E : Value → Shared → Prop}
theorem Inv.wish (I : Inv X pins σ H s) (E : Value → Shared → Prop) : Inv (X.wish E) pins σ H s := ⟨I.ok.wish E, I.os, I.bare, I.base, I.loc, I.cell, I.free, I.freeC, I.pin, I.hok, I.len⟩
theorem Inv.unwish (I : Inv (X.wish E) pins σ H s) : Inv X pins σ H s := ⟨I.ok.unwish, I.os, I.bare, I.base, I.loc, I.cell, I.free, I.freeC, I.pin, I.hok, I.len⟩
theorem SP.unwish {D : Ends} {f : Flow} {s' : Shared} (h : SP (X.wish E) pins D f s') : SP X pins D f s' := by
  cases f with
  | next => obtain ⟨σ', H', I, q⟩ := h; exact ⟨σ', H', I.unwish, q⟩
  | brk => obtain ⟨σ', H', I, q⟩ := h; exact ⟨σ', H', I.unwish, q⟩
  | cont => obtain ⟨σ', H', I, q⟩ := h; exact ⟨σ', H', I.unwish, q⟩
  | ret u => obtain ⟨v, σ', H', I, r, q⟩ := h; exact ⟨v, σ', H', I.unwish, r, q⟩
theorem PE.nox {e : Expr} {t : TE} (h : PE X.nox e t) : PE X e t := fun pins s σ H Q I hw =>
  wpAny_mono (h pins s σ H Q (I.wish _) hw) (fun _ _ ⟨v, H', I', r, q⟩ => ⟨v, H', I'.unwish, r, q⟩) fun _ _ z => False.elim z
theorem PT.nox {e : Expr} {t : TT} (h : PT X.nox e t) : PT X e t := fun pins s σ H Q I hw =>
  wpAny_mono (h pins s σ H Q (I.wish _) hw) (fun _ _ ⟨H', I', q⟩ => ⟨H', I'.unwish, q⟩) fun _ _ z => False.elim z
theorem PSs.nox {st : List Stmt} {t : TS} (h : PSs X.nox st t) : PSs X st t := fun pins s σ H D I hw =>
  wpAny_mono (h pins s σ H D (I.wish _) hw) (fun _ _ q => q.unwish) fun _ _ z => False.elim z
end

/-! ### blocks and small statements -/
section
variable {X : Cx} {st : Stmt} {rest : List Stmt} {t u : TS} {e : Expr} {te : TE} {pos : Pos}
def tNext : TS := fun D σ H => D.nx σ H
def tSeq (t u : TS) : TS := fun D σ H => t { D with nx := u D } σ H
theorem pss_nil : PSs X [] tNext := fun _ _ σ H _ I h => wpAny_execs_nil ⟨σ, H, I, h⟩
theorem pss_cons (h1 : PS X st t) (h2 : PSs X rest u) : PSs X (st :: rest) (tSeq t u) := by
  intro pins s σ H D I h
  refine wpAny_execs_cons (thn (h1 pins s σ H { D with nx := u D } I h) fun f s1 q => ?_)
  cases f with
  | next =>
    obtain ⟨σ', H', I', q⟩ := q
    exact h2 pins s1 σ' H' D I' q
  | ret v => exact q
  | brk => exact q
  | cont => exact q
theorem pss_one (h1 : PS X st t) : PSs X [st] t := by
  intro pins s σ H D I h
  refine wpAny_execs_cons (thn (h1 pins s σ H D I h) fun f s1 q => ?_)
  cases f with
  | next => exact wpAny_execs_nil q
  | ret v => exact q
  | brk => exact q
  | cont => exact q
def tBreak : TS := fun D σ H => D.bk σ H
def tCont : TS := fun D σ H => D.ct σ H
theorem ps_pass : PS X (.Pass pos) tNext := fun _ _ σ H _ I h => wpAny_Pass ⟨σ, H, I, h⟩
theorem ps_break : PS X (.Break pos) tBreak := fun _ _ σ H _ I h => wpAny_Break ⟨σ, H, I, h⟩
theorem ps_continue : PS X (.Continue pos) tCont := fun _ _ σ H _ I h => wpAny_Continue ⟨σ, H, I, h⟩
/-- in a def's body nothing is shown -/
theorem Inv.quiet {pins : List (Addr × Obj)} {σ : St} {H : Hp} {s : Shared} (I : Inv X pins σ H s) : interactive X.env = false := by simp [interactive, I.ok.kind]
/-- a docstring -/
theorem ps_doc {x j pos pos'} : PS X (.Expr (.Constant (.str x) j pos) pos') tNext := fun _ s σ H _ I h => wpAny_Expr (Calls.Constant_str (show SP X _ _ .next { s with toks := s.toks + 1 } from ⟨σ, H, I.tok _, h⟩)) I.quiet
/-- an expression whose value is dropped -/
def tDrop (te : TE) : TS := fun D σ H => te σ H fun _ H1 => D.nx σ H1
theorem ps_expr (he : PE X e te) (hs : swapsWith e none pos.line X.env = pure false := by rfl) : PS X (.Expr e pos) (tDrop te) := by
  intro pins s σ H D I h
  exact wpAny_Expr_any (thn (he pins s σ H _ I h) fun v s1 ⟨x, H1, I1, r1, q1⟩ => ⟨σ, H1, I1, q1⟩) I.quiet hs
def tRet (te : TE) : TS := fun D σ H => te σ H D.rt
theorem ps_ret (he : PE X e te) : PS X (.Return (some e) pos) (tRet te) := by
  intro pins s σ H D I h
  exact wpAny_Return_some (thn (he pins s σ H _ I h) fun v s1 ⟨x, H1, I1, r1, q1⟩ => ⟨x, σ, H1, I1, r1, q1⟩)
def tRetN : TS := fun D _ H => D.rt .non H
theorem ps_retN : PS X (.Return none pos) tRetN := fun _ _ σ H _ I h => wpAny_Return_none ⟨.non, σ, H, I, rfl, h⟩
def tIfS (c : TT) (t u : TS) : TS := fun D σ H => c σ H fun b H1 => if b = true then t D σ H1 else u D σ H1
theorem ps_if {c : Expr} {a b : List Stmt} {tc : TT} (hc : PT X c tc) (ha : PSs X a t) (hb : PSs X b u) : PS X (.If c a b pos) (tIfS tc t u) := by
  intro pins s σ H D I h
  refine wpAny_If (thn (hc pins s σ H _ I h) fun d s1 ⟨H1, I1, q1⟩ => ?_)
  cases d with
  | true => exact ha pins s1 σ H1 D I1 q1
  | false => exact hb pins s1 σ H1 D I1 q1
/-- code that the proof never comes to -/
def tNever : TS := fun _ _ _ => False
theorem ps_never : PS X st tNever := fun _ _ _ _ _ _ h => h.elim
theorem pss_never {sts : List Stmt} : PSs X sts tNever := fun _ _ _ _ _ _ h => h.elim
end

/-! ### targets -/
abbrev TG := V → St → Hp → (St → Hp → Prop) → Prop
abbrev TGs := List V → St → Hp → (St → Hp → Prop) → Prop
def PG (X : Cx) (target : Expr) (t : TG) : Prop :=
  ∀ (pins : List (Addr × Obj)) (s : Shared) (σ : St) (H : Hp) (v : V) (u : Value) (Q : St → Hp → Prop), Inv X pins σ H s → RelV v u → t v σ H Q →
    wpAny (model X.prog X.w) X.A (assign target X.env u) (fun _ s' => ∃ σ' H', Inv X pins σ' H' s' ∧ Q σ' H') X.xe s
/-- several targets, one after another -/
def PGs (X : Cx) (ts : List Expr) (t : TGs) : Prop :=
  ∀ (pins : List (Addr × Obj)) (s : Shared) (σ : St) (H : Hp) (vs : List V) (us : List Value) (Q : St → Hp → Prop), Inv X pins σ H s → Vals vs us → t vs σ H Q →
    wpAny (model X.prog X.w) X.A (assignInOrder ((assignEach ts X.env).map (·.2)) us) (fun _ s' => ∃ σ' H', Inv X pins σ' H' s' ∧ Q σ' H') X.xe s
/-- o[i] = v, by values -/
abbrev TSet := V → V → V → Hp → (Hp → Prop) → Prop
def PSet (X : Cx) (t : TSet) : Prop :=
  ∀ (pins : List (Addr × Obj)) (s : Shared) (σ : St) (H : Hp) (o i v : V) (ov iv u : Value) (Q : Hp → Prop), Inv X pins σ H s → RelV o ov → RelV i iv → RelV v u → t o i v H Q →
    wpAny (model X.prog X.w) X.A (setItem ov iv u) (fun _ s' => ∃ H', Inv X pins σ H' s' ∧ Q H') X.xe s
/-- a op= b, by values -/
abbrev TIp := V → V → Hp → VK → Prop
def PIp (X : Cx) (op : Operator) (t : TIp) : Prop :=
  ∀ (pins : List (Addr × Obj)) (s : Shared) (σ : St) (H : Hp) (x y : V) (v u : Value) (Q : VK), Inv X pins σ H s → RelV x v → RelV y u → t x y H Q →
    wpAny (model X.prog X.w) X.A (inplaceOp op v u) (EP X pins σ Q) X.xe s
section
variable {X : Cx} {pos : Pos}
def gName (i : Nat) : TG := fun v σ H Q => Q (σ.set i (some v)) H
theorem pg_name {i : Nat} {x : Str} (hN : X.N.Nodup) (hi : X.N[i]? = some x) (hx : Loc X.env.scope x) (hf : X.fn x = true ∨ X.env.scope.names.lookup x = some .local := by first | exact .inl rfl | exact .inr rfl | assumption) : PG X (.Name x pos) (gName i) := by
  intro pins s σ H v u Q I r h
  exact wpAny_assign_Name (store_ok I hN hi hx r (fun s' I' => ⟨_, H, I', h⟩) hf)
def gNil : TGs := fun vs σ H Q => vs = [] ∧ Q σ H
def gCons (t : TG) (u : TGs) : TGs := fun vs σ H Q => ∃ v r, vs = v :: r ∧ t v σ H fun σ' H' => u r σ' H' Q
theorem pgs_nil : PGs X [] gNil := by
  intro pins s σ H vs us Q I r h
  obtain ⟨e, h⟩ := h
  subst e
  cases r
  exact assignInOrder_nil ⟨σ, H, I, h⟩
theorem pgs_cons {e : Expr} {es : List Expr} {t : TG} {u : TGs} (h1 : PG X e t) (h2 : PGs X es u)
    (hs : (assignEach (e :: es) X.env).map (·.2) = assign e X.env :: (assignEach es X.env).map (·.2) := by rfl) : PGs X (e :: es) (gCons t u) := by
  intro pins s σ H vs us Q I r h
  obtain ⟨v, vr, e1, h⟩ := h
  subst e1
  cases r with
  | cons r rr =>
    rw [hs]
    refine assignInOrder_cons (thn (h1 pins s σ H _ _ _ I r h) fun _ s1 ⟨σ1, H1, I1, q1⟩ => ?_)
    exact h2 pins s1 σ1 H1 _ _ Q I1 rr q1
/-- (a, b, ..) = a tuple of that length -/
def gTup (K : PySem.W.Frag) (n : Nat) (t : TGs) : TG := fun v σ H Q => ∃ a xs, v = .ref a ∧ SqT K H a xs ∧ xs.length = n ∧ t xs σ H Q
theorem pg_tup {es : List Expr} {k : Nat} {t : TGs} {n : Nat} (hc : X.calm = true) (h : PGs X es t)
    (hn : (assignEach es X.env).length = n := by rfl) (hst : (assignEach es X.env).findIdx? (·.1) = none := by rfl) : PG X (.Tuple es k pos) (gTup X.K n t) := by
  intro pins s σ H v u Q I r hw
  obtain ⟨a, xs, e1, hq, hl, hw⟩ := hw
  subst e1
  cases r
  obtain ⟨its, rv, ht, hz⟩ := I.tuple hq
  refine assign_Tuple_tuple (I.ok.hd hc) ht (by simp [hn, ← hl, rv.length]) hst fun h' hx => ?_
  have I1 : Inv X pins σ H { s with heap := h' } := I.kept (t' := s.toks) fun b o e => hx b o (Nat.ne_of_lt (Heap.lt_size e)) e
  exact h pins _ σ H xs _ Q I1 (by simpa using rv) hw
/-- o[i] = .. -/
def gSub (to ti : TE) (t : TSet) : TG := fun v σ H Q => to σ H fun o H1 => ti σ H1 fun i H2 => t o i v H2 fun H3 => Q σ H3
theorem pg_sub {o i : Expr} {to ti : TE} {t : TSet} (ho : PE X o to) (hi : PE X i ti) (hs : PSet X t)
    (ha : ∀ v, assign (.Subscript o i pos) X.env v = (do
      let ov ← holding [v] (eval o X.env)
      let iv ← holding [v, ov] (eval i X.env)
      standAt pos
      holding [v, ov, iv] (setItem ov iv v)
      release [v, ov, iv] []) := by intro _; rfl) : PG X (.Subscript o i pos) (gSub to ti t) := by
  intro pins s σ H v u Q I r h
  rw [ha]
  refine wpAny_bind (wpAny_holding (thn (ho pins s σ H _ I h) fun ov s1 ⟨x, H1, I1, r1, q1⟩ => ?_))
  refine wpAny_bind (wpAny_holding (thn (hi pins s1 σ H1 _ I1 q1) fun iv s2 ⟨y, H2, I2, r2, q2⟩ => ?_))
  refine wpAny_bind (wpAny_standAt (wpAny_bind (wpAny_holding (thn (hs pins s2 σ H2 x y v ov iv u _ I2 r1 r2 r q2) fun _ s3 ⟨H3, I3, q3⟩ => ?_))))
  exact wpAny_release ⟨σ, H3, I3, q3⟩
/-- target = value -/
def tAsg (te : TE) (g : TG) : TS := fun D σ H => te σ H fun x H1 => g x σ H1 D.nx
theorem ps_asg {tg e : Expr} {te : TE} {g : TG} (he : PE X e te) (hg : PG X tg g) (hs : swapsWithSole [tg] e pos.line X.env = pure false := by rfl) (hw : swappedStores [tg] e X.env = pure none := by rfl)
    (h1 : (assignEach [tg] X.env).map (·.2) = [assign tg X.env] := by rfl) : PS X (.Assign [tg] e pos) (tAsg te g) := by
  intro pins s σ H D I h
  refine wpAny_Assign_stores (thn (he pins s σ H _ I h) fun v s1 ⟨x, H1, I1, r1, q1⟩ => ?_) hs hw
  rw [h1]
  exact thn (hg pins s1 σ H1 x v _ I1 r1 q1) fun _ s2 q => q
/-- name = value -/
theorem ps_set {i : Nat} {x : Str} {e : Expr} {te : TE} {pos' : Pos} (hN : X.N.Nodup) (hi : X.N[i]? = some x) (hx : Loc X.env.scope x) (he : PE X e te) (hs : swapsWith e (some (.Name x pos')) pos.line X.env = pure false := by rfl) (hf : X.fn x = true ∨ X.env.scope.names.lookup x = some .local := by first | exact .inl rfl | exact .inr rfl | assumption) :
    PS X (.Assign [.Name x pos'] e pos) (tAsg te (gName i)) := by
  intro pins s σ H D I h
  refine wpAny_Assign_Name (thn (he pins s σ H _ I h) fun v s1 ⟨y, H1, I1, r1, q1⟩ => ?_) hs
  exact store_ok I1 hN hi hx r1 (fun s2 I2 => ⟨_, H1, I2, q1⟩) hf
/-- a, b = x, y with plain local names: stored from the right; the pair itself is not tracked (the opening rows as in PyProof/Rows/TupAssign.lean:23) -/
def tPar (i j : Nat) (ta : TA) : TS := fun D σ H => ta σ H fun vs H1 => ∃ v w, vs = [v, w] ∧ D.nx ((σ.set i (some v)).set j (some w)) H1
theorem ps_par {i j : Nat} {x y : Str} {a b : Expr} {ta : TA} {px py pt : Pos} {kt k2 pt2} (hc : X.calm = true) (hN : X.N.Nodup) (hi : X.N[i]? = some x) (hj : X.N[j]? = some y) (hij : i ≠ j)
    (hx : X.env.scope.names.lookup x = some .local) (hy : X.env.scope.names.lookup y = some .local) (ha : PA X [a, b] ta)
    (hw : swappedStores [.Tuple [.Name x px, .Name y py] kt pt] (.Tuple [a, b] k2 pt2) X.env = pure (some [x, y]))
    (hs : swapsWithSole [.Tuple [.Name x px, .Name y py] kt pt] (.Tuple [a, b] k2 pt2) pos.line X.env = pure false := by rfl) :
    PS X (.Assign [.Tuple [.Name x px, .Name y py] kt pt] (.Tuple [a, b] k2 pt2) pos) (tPar i j ta) := by
  intro pins s σ H D I h
  rw [exec_Assign_arm]
  refine wpAny_bind (wpAny_standAt ?_)
  rw [hs]
  refine wpAny_bind (wpAny_pure ?_)
  rw [if_neg (by decide)]
  refine wpAny_bind (Tuple_ (thn (ha _ pins s σ H _ I h) fun us s1 ⟨vs, H1, I1, r1, q1⟩ => ?_))
  obtain ⟨v, w, e1, q1⟩ := q1
  subst e1
  obtain ⟨u1, u2, rfl, rv, rw'⟩ : ∃ u1 u2, us = [u1, u2] ∧ RelV v u1 ∧ RelV w u2 := by
    cases r1 with
    | cons p q =>
      cases q with
      | cons p' q' =>
        cases q'
        exact ⟨_, _, rfl, p, p'⟩
  refine wpAny_newObj_type ?_ (by show 2 ≤ sizeLine; decide)
  have I2 : Inv X pins σ H1 { s1 with heap := s1.heap.push { cls := .type "tuple", data := .seq [u1, u2].toArray } } := I1.kept (t' := s1.toks) fun b o e => Heap.get?_push_of_some _ e
  rw [hw]
  refine wpAny_bind (wpAny_pure ?_)
  show wpAny (model X.prog X.w) X.A (do rule "assign.swapped-stores"; let items ← unpackItems (.ref s1.heap.objs.size) 2 none; assignInOrder [fun v => bindName X.env y v, fun v => bindName X.env x v] items.reverse; pure Flow.next) _ _ _
  refine wpAny_bind (wpAny_rule (wpAny_bind (unpackItems_tuple (items := #[u1, u2]) (I.ok.hd hc) (IsTup.new s1.heap _) fun h' hx' => ?_)))
  have I3 := I2.kept (h' := h') (t' := s1.toks) fun b o e => hx' b o (Nat.ne_of_lt (Heap.lt_size e)) e
  show wpAny _ _ (assignInOrder [fun v => bindName X.env y v, fun v => bindName X.env x v] [u2, u1] >>= fun _ => pure Flow.next) _ _ _
  refine wpAny_bind (assignInOrder_cons (wpAny_bindName (store_ok I3 hN hj (.inl hy) rw' (fun s2 I4 => ?_) (.inr hy))))
  refine assignInOrder_cons (wpAny_bindName (store_ok I4 hN hi (.inl hx) rv (fun s3 I5 => assignInOrder_nil (wpAny_pure ?_)) (.inr hx)))
  rw [List.set_comm _ _ (Ne.symm hij)] at I5
  exact ⟨_, H1, I5, q1⟩
/-- name op= e -/
def tAug (i : Nat) (te : TE) (ti : TIp) : TS := fun D σ H => ∃ x, σ[i]? = some (some x) ∧ te σ H fun y H1 => ti x y H1 fun z H2 => D.nx (σ.set i (some z)) H2
theorem ps_aug {i : Nat} {x : Str} {e : Expr} {te : TE} {op : Operator} {ti : TIp} {pos' : Pos} (hN : X.N.Nodup) (hi : X.N[i]? = some x) (hx : Loc X.env.scope x) (he : PE X e te) (ho : PIp X op ti) (hf : X.fn x = true ∨ X.env.scope.names.lookup x = some .local := by first | exact .inl rfl | exact .inr rfl | assumption) :
    PS X (.AugAssign (.Name x pos') op e pos) (tAug i te ti) := by
  intro pins s σ H D I h
  obtain ⟨v, e1, h⟩ := h
  obtain ⟨m, hn, hl⟩ := I.loc
  have vis : Vis X.env.scope x := by rcases hx with k | k; exact .inl k; exact .inr (.inl k)
  obtain ⟨u, r, l⟩ := hl i x v hi e1 vis
  refine wpAny_AugAssign_Name ?_
  have go : wpAny (model X.prog X.w) X.A (eval e X.env) (fun w s₂ => wpAny (model X.prog X.w) X.A (inplaceOp op u w) (fun r s₃ => wpAny (model X.prog X.w) X.A (storeName X.env x r) (fun _ => SP X pins D .next) X.xe s₃) X.xe s₂) X.xe s := by
    refine thn (he pins s σ H _ I h) fun w s1 ⟨y, H1, I1, r1, q1⟩ => ?_
    refine thn (ho pins s1 σ H1 v y u w _ I1 r r1 q1) fun z s2 ⟨zv, H2, I2, r2, q2⟩ => ?_
    exact store_ok I2 hN hi hx r2 (fun s3 I3 => ⟨_, H2, I3, q2⟩) hf
  rcases l with ⟨hk, hm⟩ | ⟨hk, c, hc, hcell⟩
  · exact wpAny_loadName_local I.ok.kind hk hn hm go
  · rcases hk with hk | hk
    · exact wpAny_loadName_cell I.ok.kind hk hc hcell go
    · rcases hx with k | k
      · have : X.env.scope.names.lookup x = some .free := hk
        rw [k] at this; cases this
      · have : X.env.scope.names.lookup x = some .free := hk
        rw [k] at this; cases this
/-- o[i] op= e -/
def tAugS (to ti te : TE) (tget : V → V → Hp → VK → Prop) (tip : TIp) (tset : TSet) : TS := fun D σ H => to σ H fun o H1 => ti σ H1 fun i H2 => tget o i H2 fun x H3 => te σ H3 fun y H4 => tip x y H4 fun z H5 => tset o i z H5 fun H6 => D.nx σ H6
/-- o[i], by values -/
def PGet (X : Cx) (t : V → V → Hp → VK → Prop) : Prop :=
  ∀ (pins : List (Addr × Obj)) (s : Shared) (σ : St) (H : Hp) (o i : V) (ov iv : Value) (Q : VK), Inv X pins σ H s → RelV o ov → RelV i iv → t o i H Q →
    wpAny (model X.prog X.w) X.A (getItem ov iv) (EP X pins σ Q) X.xe s
theorem ps_augS {o i e : Expr} {to ti te : TE} {tget : V → V → Hp → VK → Prop} {tip : TIp} {tset : TSet} {op : Operator} {tpos : Pos} (ho : PE X o to) (hi : PE X i ti) (hg : PGet X tget) (he : PE X e te) (hp : PIp X op tip) (hs : PSet X tset)
    (ha : ∀ ov iv new, augStore i ov iv new = (do holding [new, ov, iv] (setItem ov iv new); release [new, ov, iv] []; pure .next) := by intros; rfl) : PS X (.AugAssign (.Subscript o i tpos) op e pos) (tAugS to ti te tget tip tset) := by
  intro pins s σ H D I h
  refine wpAny_AugAssign_SubscriptAny (thn (ho pins s σ H _ I h) fun ov s1 ⟨x1, H1, I1, r1, q1⟩ => ?_) ha
  refine thn (hi pins s1 σ H1 _ I1 q1) fun iv s2 ⟨x2, H2, I2, r2, q2⟩ => ?_
  refine thn (hg pins s2 σ H2 x1 x2 ov iv _ I2 r1 r2 q2) fun old s3 ⟨x3, H3, I3, r3, q3⟩ => ?_
  refine thn (he pins s3 σ H3 _ I3 q3) fun v s4 ⟨x4, H4, I4, r4, q4⟩ => ?_
  refine thn (hp pins s4 σ H4 x3 x4 old v _ I4 r3 r4 q4) fun new s5 ⟨x5, H5, I5, r5, q5⟩ => ?_
  exact thn (hs pins s5 σ H5 x1 x2 x5 ov iv new _ I5 r1 r2 r5 q5) fun _ s6 ⟨H6, I6, q6⟩ => ⟨σ, H6, I6, q6⟩
/-- ints -/
def ipI (f : Int → Int → Int) : TIp := fun x y H Q => ∃ i j, x = .int i ∧ y = .int j ∧ Q (.int (f i j)) H
theorem ip_add : PIp X .Add (ipI fun i j => i + j) := by
  intro pins s σ H x y v u Q I r1 r2 h
  obtain ⟨i, j, e1, e2, q⟩ := h
  subst e1; subst e2
  obtain ⟨t, rfl⟩ := r1
  obtain ⟨t', rfl⟩ := r2
  exact iadd_int ⟨.int _, H, I.tok _, ⟨_, rfl⟩, q⟩
theorem ip_sub : PIp X .Sub (ipI fun i j => i - j) := by
  intro pins s σ H x y v u Q I r1 r2 h
  obtain ⟨i, j, e1, e2, q⟩ := h
  subst e1; subst e2
  obtain ⟨t, rfl⟩ := r1
  obtain ⟨t', rfl⟩ := r2
  exact isub_int ⟨.int _, H, I.tok _, ⟨_, rfl⟩, q⟩
end

/-! ### while -/
section
variable {X : Cx} {pos : Pos}
/-- the invariant W with its measure -/
def tWhile (c : TT) (tb : TS) : TS := fun D σ H => ∃ W : Nat → St → Hp → Prop, (∃ m, W m σ H) ∧ ∀ m σ H, W m σ H →
  c σ H fun b H1 => if b = true then ∃ N : St → Hp → Prop, (∀ σ' H', N σ' H' → ∃ m', m' < m ∧ W m' σ' H') ∧ tb { D with nx := N, ct := N, bk := D.nx } σ H1 else D.nx σ H1
theorem ps_while {c : Expr} {body : List Stmt} {tc : TT} {tb : TS} (hp : PassesOwn (model X.prog X.w) X.A X.env X.xe) (hc : PT X c tc) (hb : PSs X body tb) : PS X (.While c body [] pos) (tWhile tc tb) := by
  intro pins s σ H D I h
  obtain ⟨W, ⟨m0, w0⟩, turn⟩ := h
  refine wpAny_While (codeAny_whileLoop (fun n s' => ∃ σ' H', Inv X pins σ' H' s' ∧ W n σ' H') ?_ m0 ⟨σ, H, I, w0⟩)
  rintro n s1 ⟨σ1, H1, I1, w1⟩
  refine wpAny_passesOwn hp (thn (hc pins s1 σ1 H1 _ I1 (turn n σ1 H1 w1)) fun b s2 ⟨H2, I2, q2⟩ => ?_)
  cases b with
  | true =>
    obtain ⟨N, hN, q2⟩ := q2
    rw [if_pos rfl]
    refine wpAny_passesOwn hp (thn (hb pins s2 σ1 H2 _ I2 q2) fun f s3 q3 => ?_)
    cases f with
    | next =>
      obtain ⟨σ3, H3, I3, n3⟩ := q3
      obtain ⟨m', hm, w3⟩ := hN σ3 H3 n3
      exact ⟨m', hm, σ3, H3, I3, w3⟩
    | cont =>
      obtain ⟨σ3, H3, I3, n3⟩ := q3
      obtain ⟨m', hm, w3⟩ := hN σ3 H3 n3
      exact ⟨m', hm, σ3, H3, I3, w3⟩
    | brk => exact q3
    | ret v => exact q3
  | false =>
    rw [if_neg Bool.false_ne_true]
    exact wpAny_execs_nil ⟨σ1, H2, I2, q2⟩
end

/-! ### what a loop or a comprehension walks -/
/-- at turn i: it yields x (the heap may grow), or it stops -/
structure It where
  go : Nat → Hp → Prop
  yld : Nat → Hp → V → Hp → Prop
  stop : Nat → Hp → Prop
/-- the iterator's own objects may turn: they are not the frame's, not pinned, younger than the entry (or a comprehension's own) -/
def FpOk (X : Cx) (pins : List (Addr × Obj)) (H : Hp) (b : Addr) : Prop :=
  H b = none ∧ b ≠ X.env.locals ∧ b ∉ X.fs ∧ (b ∈ X.ex ∨ X.s₀.heap.objs.size ≤ b) ∧ (∀ x c, X.env.cells.lookup x = some c → c ≠ b) ∧ ∀ p ∈ X.pn ++ pins, p.1 ≠ b
theorem Inv.fpOk {X : Cx} {pins : List (Addr × Obj)} {σ : St} {H H' : Hp} {s : Shared} {b : Addr} (I : Inv X pins σ H s) (hb : s.heap.objs.size ≤ b) (hn : H' b = none) : FpOk X pins H' b := by
  refine ⟨hn, Nat.ne_of_gt (Nat.lt_of_lt_of_le I.lt hb), I.nofs hb, .inr (Nat.le_trans I.sz hb), fun x c e z => ?_, fun p hp z => ?_⟩
  · obtain ⟨v, q⟩ := I.cell x c e
    exact absurd (Nat.lt_of_lt_of_le q.lt (by rw [z]; exact hb)) (Nat.lt_irrefl _)
  · exact absurd (Nat.lt_of_lt_of_le (Heap.lt_size (I.pin p hp).1) (by rw [z]; exact hb)) (Nat.lt_irrefl _)
structure Turn (P : Program) (w : World) (K : PySem.W.Frag) (tg : Expr) (J : It) (fp : List Addr) (it : Addr) (tn : Nat → Heap → Prop) : Prop where
  mem : it ∈ fp
  obj : ∀ i h, tn i h → ∀ b ∈ fp, ∃ o, h.get? b = some o ∧ ∀ v, o.data ≠ .cell v
  keep : ∀ i h h', tn i h → (∀ b ∈ fp, ∀ o, h.get? b = some o → h'.get? b = some o) → tn i h'
  item : ∀ (X : Cx), X.prog = P → X.w = w → X.K = K → X.calm = true → ∀ (i : Nat) (pins : List (Addr × Obj)) (s : Shared) (σ : St) (H : Hp) (E : Value → Shared → Prop), Inv X pins σ H s → (∀ b ∈ fp, FpOk X pins H b) → tn i s.heap → J.go i H →
    wpAny (model P w) X.A (pyNext (.ref it)) (fun r s1 => ∃ u, r = some u ∧
      wpAny (model P w) X.A (letOwnedTupleGo tg (.ref it) u) (fun _ s2 => ∃ x H', Inv X pins σ H' s2 ∧ RelV x u ∧ J.yld i H x H' ∧ tn (i + 1) s2.heap ∧ ∀ b ∈ fp, H' b = none) E s1) E s
  done : ∀ (X : Cx), X.prog = P → X.w = w → X.K = K → X.calm = true → ∀ (i : Nat) (pins : List (Addr × Obj)) (s : Shared) (σ : St) (H : Hp) (E : Value → Shared → Prop), Inv X pins σ H s → (∀ b ∈ fp, FpOk X pins H b) → tn i s.heap → J.stop i H →
    wpAny (model P w) X.A (pyNext (.ref it)) (fun r s1 => r = none ∧ Inv X pins σ H s1) E s
  self : ∀ (A : Around) (i : Nat) (s : Shared) (Q : Value → Shared → Prop) (E : Value → Shared → Prop), tn i s.heap → Q (.ref it) s → wpAny (model P w) A (pyIter (.ref it)) Q E s
abbrev TI := St → Hp → (It → Hp → Prop) → Prop
/-- an iterator has come -/
def PIE (X : Cx) (pins : List (Addr × Obj)) (σ : St) (tg : Expr) (R : It → Hp → Prop) (itv : Value) (s2 : Shared) : Prop :=
  ∃ (it : Addr) (fp : List Addr) (tn : Nat → Heap → Prop) (J : It) (H' : Hp), itv = .ref it ∧ Inv X pins σ H' s2 ∧ Turn X.prog X.w X.K tg J fp it tn ∧ tn 0 s2.heap ∧ (∀ b ∈ fp, FpOk X pins H' b) ∧ R J H'
def PI (X : Cx) (tg iter : Expr) (wi : TI) : Prop :=
  ∀ (pins : List (Addr × Obj)) (s : Shared) (σ : St) (H : Hp) (R : It → Hp → Prop), Inv X pins σ H s → wi σ H R →
    wpAny (model X.prog X.w) X.A (eval iter X.env) (fun v s1 => wpAny (model X.prog X.w) X.A (pyIter v) (PIE X pins σ tg R) X.xe s1) X.xe s

/-- the step ahead of the store is nothing for an iterator that keeps no tuple -/
theorem go_of {M : Model} {A : Around} {E : Value → Shared → Prop} {s : Shared} {tg : Expr} {it : Addr} {u : Value} {o : Obj} {n : String} {vs : Array Value} {Q : Unit → Shared → Prop} (ho : s.heap.get? it = some o) (hc : o.cls = .type n) (hd : o.data = .fields vs)
    (hn : ["enumerate", "zip", "dict_itemiterator", "dict_reverseitemiterator", "odict_iterator", "itertools.zip_longest", "itertools.pairwise"].contains n = false) (hQ : Q () s) : wpAny M A (letOwnedTupleGo tg (.ref it) u) Q E s := by
  unfold letOwnedTupleGo
  cases tg <;> first
    | exact wpAny_pure hQ
    | (cases u <;> first
        | exact wpAny_pure hQ
        | (refine wpAny_bind (wpAny_load ho ?_)
           rw [hc, hd]
           show wpAny M A (if (["enumerate", "zip", "dict_itemiterator", "dict_reverseitemiterator", "odict_iterator", "itertools.zip_longest", "itertools.pairwise"].contains n && vs[0]? == some (rawInt _)) = true then _ else _) Q E s
           rw [if_neg (by intro h; rw [hn, Bool.false_and] at h; cases h)]
           exact wpAny_pure hQ))

/-- the list at a, as it stands at each turn (a loop may append to it) -/
def Itl (K : PySem.W.Frag) (a : Addr) : It :=
  ⟨fun i H => ∃ xs x, SqL K H a xs ∧ xs[i]? = some x, fun i H x H' => H' = H ∧ ∀ xs, SqL K H a xs → xs[i]? = some x, fun i H => ∃ xs, SqL K H a xs ∧ xs.length ≤ i⟩
def Itt (K : PySem.W.Frag) (a : Addr) : It :=
  ⟨fun i H => ∃ xs x, SqT K H a xs ∧ xs[i]? = some x, fun i H x H' => H' = H ∧ ∀ xs, SqT K H a xs → xs[i]? = some x, fun i H => ∃ xs, SqT K H a xs ∧ xs.length ≤ i⟩
/-- lo, lo + 1, .. (n of them) -/
def Itr (lo : Int) (n : Nat) : It := ⟨fun i _ => i < n, fun i H x H' => H' = H ∧ x = .int (lo + i), fun i _ => n ≤ i⟩
theorem turn_list {P : Program} {w : World} {K : PySem.W.Frag} {tg : Expr} (a it : Addr) : Turn P w K tg (Itl K a) [it] it (fun i h => h.IsListIter it a i) where
  mem := by simp
  obj := fun i h st b hb => by
    have e : b = it := by simpa using hb
    subst e
    obtain ⟨o, e, c, d⟩ := st
    exact ⟨o, e, fun v z => by rw [d] at z; cases z⟩
  keep := fun i h h' st k => st.at fun o e => k it (by simp) o e
  item := by
    intro X hP hw hK hc i pins s σ H E I hf st hg
    subst hP hw hK
    obtain ⟨xs, x, hq, hx⟩ := hg
    obtain ⟨its, rv, p, hz⟩ := I.list hq
    obtain ⟨u, hu, ru⟩ := rv.get hx
    obtain ⟨f0, f1, f2, f3, f4, f5⟩ := hf it (by simp)
    refine wpAny_pyNext_list_item st p.isList (x := u) (by simpa using hu) fun h' st' sb => ?_
    have I1 : Inv X pins σ H { s with heap := h' } := I.turned (t' := s.toks) (fun b o hb e => (sb.2 b hb).trans e) f0 f1 f3 f4 f5
    obtain ⟨o, e, c, d⟩ := id st'
    exact ⟨u, rfl, go_of (s := { s with heap := h' }) e c d (by decide) ⟨x, H, I1, ru, ⟨rfl, fun ys hy => by rw [I.list_inj hy hq]; exact hx⟩, st', fun b hb => (hf b hb).1⟩⟩
  done := by
    intro X hP hw hK hc i pins s σ H E I hf st hg
    subst hP hw hK
    obtain ⟨xs, hq, hx⟩ := hg
    obtain ⟨its, rv, p, hz⟩ := I.list hq
    obtain ⟨f0, f1, f2, f3, f4, f5⟩ := hf it (by simp)
    have hl := rv.length
    exact wpAny_pyNext_list_end (I.ok.hd hc) st p.isList (by simp; omega) fun h' eb => ⟨rfl, I.turned (t' := s.toks) (fun b o hb e => eb b o hb e) f0 f1 f3 f4 f5⟩
  self := fun _ _ _ _ _ st h => wpAny_pyIter_listiter st h
theorem turn_tuple {P : Program} {w : World} {K : PySem.W.Frag} {tg : Expr} (a it : Addr) : Turn P w K tg (Itt K a) [it] it (fun i h => h.IsTupleIter it a i) where
  mem := by simp
  obj := fun i h st b hb => by
    have e : b = it := by simpa using hb
    subst e
    obtain ⟨o, e, c, d⟩ := st
    exact ⟨o, e, fun v z => by rw [d] at z; cases z⟩
  keep := fun i h h' st k => st.at fun o e => k it (by simp) o e
  item := by
    intro X hP hw hK hc i pins s σ H E I hf st hg
    subst hP hw hK
    obtain ⟨xs, x, hq, hx⟩ := hg
    obtain ⟨its, rv, p, hz⟩ := I.tuple hq
    obtain ⟨u, hu, ru⟩ := rv.get hx
    obtain ⟨f0, f1, f2, f3, f4, f5⟩ := hf it (by simp)
    refine wpAny_pyNext_tuple_item st (show s.heap.IsTuple a its.toArray from p) (x := u) (by simpa using hu) fun h' st' sb => ?_
    have I1 : Inv X pins σ H { s with heap := h' } := I.turned (t' := s.toks) (fun b o hb e => (sb.2 b hb).trans e) f0 f1 f3 f4 f5
    obtain ⟨o, e, c, d⟩ := id st'
    exact ⟨u, rfl, go_of (s := { s with heap := h' }) e c d (by decide) ⟨x, H, I1, ru, ⟨rfl, fun ys hy => by rw [I.tuple_inj hy hq]; exact hx⟩, st', fun b hb => (hf b hb).1⟩⟩
  done := by
    intro X hP hw hK hc i pins s σ H E I hf st hg
    subst hP hw hK
    obtain ⟨xs, hq, hx⟩ := hg
    obtain ⟨its, rv, p, hz⟩ := I.tuple hq
    obtain ⟨f0, f1, f2, f3, f4, f5⟩ := hf it (by simp)
    have hl := rv.length
    exact wpAny_pyNext_tuple_end (I.ok.hd hc) st (show s.heap.IsTuple a its.toArray from p) (by simp; omega) fun h' eb => ⟨rfl, I.turned (t' := s.toks) (fun b o hb e => eb b o hb e) f0 f1 f3 f4 f5⟩
  self := fun _ _ _ _ _ st h => wpAny_pyIter_tupleiter st h
theorem turn_range {P : Program} {w : World} {K : PySem.W.Frag} {tg : Expr} (it : Addr) (lo : Int) (n : Nat) : Turn P w K tg (Itr lo n) [it] it (fun i h => IsRangeIter h it (lo + (i : Nat) * 1) ((n : Int) - (i : Nat)) 1) where
  mem := by simp
  obj := fun i h st b hb => by
    have e : b = it := by simpa using hb
    subst e
    exact ⟨_, st, fun v z => by
      have z' : Data.fields _ = Data.cell v := z
      cases z'⟩
  keep := fun i h h' st k => k it (by simp) _ st
  item := by
    intro X hP hw hK hc i pins s σ H E I hf st hg
    subst hP hw hK
    obtain ⟨f0, f1, f2, f3, f4, f5⟩ := hf it (by simp)
    have W := Walks.range (prog := X.prog) (w := X.w) (I.ok.hd hc) it lo 1 n
    refine W.item i s _ _ hg st fun v h' tk hv st' kk => ?_
    obtain ⟨t, rfl⟩ := hv
    have I1 : Inv X pins σ H { s with heap := h', toks := tk } := I.turned (fun b o hb e => kk b o (by simpa using hb) e) f0 f1 f3 f4 f5
    refine ⟨_, rfl, go_of (s := { s with heap := h', toks := tk }) (n := "range_iterator") st' rfl rfl (by decide) ⟨.int (lo + i), H, I1, ⟨t, ?_⟩, ⟨rfl, rfl⟩, st', fun b hb => (hf b hb).1⟩⟩
    rw [Int.mul_one]
  done := by
    intro X hP hw hK hc i pins s σ H E I hf st hg
    subst hP hw hK
    obtain ⟨f0, f1, f2, f3, f4, f5⟩ := hf it (by simp)
    exact wpAny_pyNext_range_end (I.ok.hd hc) st (by have : n ≤ i := hg; omega) fun h' eb => ⟨rfl, I.turned (t' := s.toks) (fun b o hb e => eb b o hb e) f0 f1 f3 f4 f5⟩
  self := fun _ _ _ _ _ st h => wpAny_pyIter_rangeiter st h
end L2

namespace L2
open PySem PySem.Spec PyProof.Rows
section
variable {X : Cx} {tg : Expr}
def iList (K : PySem.W.Frag) (tl : TE) : TI := fun σ H R => tl σ H fun x H1 => ∃ a, x = .ref a ∧ (∃ xs, SqL K H1 a xs) ∧ R (Itl K a) H1
def iTup (K : PySem.W.Frag) (tl : TE) : TI := fun σ H R => tl σ H fun x H1 => ∃ a, x = .ref a ∧ (∃ xs, SqT K H1 a xs) ∧ R (Itt K a) H1
theorem pi_list {l : Expr} {tl : TE} (hl : PE X l tl) : PI X tg l (iList X.K tl) := by
  intro pins s σ H R I h
  refine thn (hl pins s σ H _ I h) fun v s1 ⟨x, H1, I1, r1, q1⟩ => ?_
  obtain ⟨a, e, ⟨xs, hq⟩, q⟩ := q1
  subst e
  cases r1
  obtain ⟨its, rv, p, hz⟩ := I1.list hq
  refine wpAny_pyIter_list p.isList ?_
  refine ⟨s1.heap.objs.size, [s1.heap.objs.size], _, _, H1, rfl, I1.kept (t' := s1.toks) fun b o e => Heap.get?_push_of_some _ e, turn_list a _, ⟨_, Heap.get?_push_size _ rfl, rfl, rfl⟩, fun b hb => ?_, q⟩
  have e : b = s1.heap.objs.size := by simpa using hb
  subst e
  exact I1.fpOk (Nat.le_refl _) (I1.hok.fresh (Nat.le_refl _))
theorem pi_tup {l : Expr} {tl : TE} (hl : PE X l tl) : PI X tg l (iTup X.K tl) := by
  intro pins s σ H R I h
  refine thn (hl pins s σ H _ I h) fun v s1 ⟨x, H1, I1, r1, q1⟩ => ?_
  obtain ⟨a, e, ⟨xs, hq⟩, q⟩ := q1
  subst e
  cases r1
  obtain ⟨its, rv, p, hz⟩ := I1.tuple hq
  refine wpAny_pyIter_tuple (show s1.heap.IsTuple a its.toArray from p) ?_
  refine ⟨s1.heap.objs.size, [s1.heap.objs.size], _, _, H1, rfl, I1.kept (t' := s1.toks) fun b o e => Heap.get?_push_of_some _ e, turn_tuple a _, ⟨_, Heap.get?_push_size _ rfl, rfl, rfl⟩, fun b hb => ?_, q⟩
  have e : b = s1.heap.objs.size := by simpa using hb
  subst e
  exact I1.fpOk (Nat.le_refl _) (I1.hok.fresh (Nat.le_refl _))
/-- a range object just made, walked -/
theorem range_it {pins : List (Addr × Obj)} {σ : St} {H : Hp} {s : Shared} {R : It → Hp → Prop} {E : Value → Shared → Prop} {lo hi : Int} {t u v : Tok} {tk : Nat} (I : Inv X pins σ H s) (h1 : -(2 ^ 62) ≤ lo) (h2 : lo < 2 ^ 62) (h3 : -(2 ^ 62) ≤ hi) (h4 : hi < 2 ^ 62)
    (q : R (Itr lo (hi - lo).toNat) H) : wpAny (model X.prog X.w) X.A (pyIter (.ref s.heap.objs.size)) (PIE X pins σ tg R) E { s with heap := s.heap.push { cls := .type "range", data := .fields #[.int lo t, .int hi u, .int 1 v] }, toks := tk } := by
  refine wpAny_pyIter_range (IsRange.new ..) (small_one h1 h2 h3 h4) ?_
  have I1 : Inv X pins σ H { s with heap := s.heap.push { cls := .type "range", data := .fields #[.int lo t, .int hi u, .int 1 v] }, toks := tk } := I.kept fun b o e => Heap.get?_push_of_some _ e
  refine ⟨(s.heap.push { cls := .type "range", data := .fields #[.int lo t, .int hi u, .int 1 v] }).objs.size, [(s.heap.push { cls := .type "range", data := .fields #[.int lo t, .int hi u, .int 1 v] }).objs.size], _, _, H, rfl,
    I1.kept (t' := tk) fun b o e => Heap.get?_push_of_some _ e, turn_range _ lo (hi - lo).toNat, ?_, fun b hb => ?_, q⟩
  · have e1 : lo + ((0 : Nat) : Int) * 1 = lo := by simp
    have e2 : (((hi - lo).toNat : Nat) : Int) - ((0 : Nat) : Int) = Builtin.Range.rangeSize lo hi 1 := by rw [rangeSize_one]; split <;> omega
    show IsRangeIter _ _ (lo + ((0 : Nat) : Int) * 1) ((((hi - lo).toNat : Nat) : Int) - ((0 : Nat) : Int)) 1
    rw [e1, e2]
    exact Heap.get?_push_size _ rfl
  · have e : b = (s.heap.push { cls := .type "range", data := .fields #[.int lo t, .int hi u, .int 1 v] }).objs.size := by simpa using hb
    subst e
    exact I1.fpOk (Nat.le_refl _) (I1.hok.fresh (Nat.le_refl _))
def iRng1 (ta : TA) : TI := fun σ H R => ta σ H fun vs H1 => ∃ j : Int, vs = [.int j] ∧ -(2 ^ 62) ≤ j ∧ j < 2 ^ 62 ∧ R (Itr 0 j.toNat) H1
def iRng2 (ta : TA) : TI := fun σ H R => ta σ H fun vs H1 => ∃ i j : Int, vs = [.int i, .int j] ∧ (-(2 ^ 62) ≤ i ∧ i < 2 ^ 62 ∧ -(2 ^ 62) ≤ j ∧ j < 2 ^ 62) ∧ R (Itr i (j - i).toNat) H1
theorem pi_range1 {a : Expr} {ta : TA} {p pos : Pos} (hg : Gl X "range") (hm : X.mg "range" = none) (ha : PA X [a] ta) (hs : starEach [a] X.env = [(false, eval a X.env)] := by rfl) : PI X tg (.Call (.Name "range" p) [a] [] pos) (iRng1 ta) := by
  intro pins s σ H R I h
  refine Call_ (ld_blt I hg hm boot_range (PyProof.Rows.callWith_type1 (thn (ha pos pins s σ H _ I h) fun us s1 ⟨vs, H1, I1, r1, q1⟩ => ?_) hs rfl))
  obtain ⟨j, e, q1, q2, q⟩ := q1
  subst e
  cases r1 with
  | cons r rr =>
    cases rr
    obtain ⟨t, rfl⟩ := r
    exact call_range_1 (range_it I1 (by omega) (by omega) q1 q2 (by simpa using q))
theorem pi_range2 {a b : Expr} {ta : TA} {p pos : Pos} (hg : Gl X "range") (hm : X.mg "range" = none) (ha : PA X [a, b] ta) (hs : starEach [a, b] X.env = [(false, eval a X.env), (false, eval b X.env)] := by rfl) (hs2 : starEach [b] X.env = [(false, eval b X.env)] := by rfl) :
    PI X tg (.Call (.Name "range" p) [a, b] [] pos) (iRng2 ta) := by
  intro pins s σ H R I h
  refine Call_ (ld_blt I hg hm boot_range (PyProof.Rows.callWith_type1 (thn (ha pos pins s σ H _ I h) fun us s1 ⟨vs, H1, I1, r1, q1⟩ => ?_) (by rw [hs, hs2]) (by rw [hs2]; rfl)))
  obtain ⟨i, j, e, ⟨q1, q2, q3, q4⟩, q⟩ := q1
  subst e
  cases r1 with
  | cons r rr =>
    cases rr with
    | cons r' rr =>
      cases rr
      obtain ⟨t, rfl⟩ := r
      obtain ⟨t', rfl⟩ := r'
      exact call_range_2 (range_it I1 q1 q2 q3 q4 q)

/-! ### for -/
/-- W: the invariant by the turn and a measure; N: what the body is to reach -/
def tFor (wi : TI) (g : TG) (tb : TS) : TS := fun D σ H => wi σ H fun J H1 => ∃ W : Nat → Nat → St → Hp → Prop, (∃ m, W 0 m σ H1) ∧ ∀ i m σ H, W i m σ H →
  (J.stop i H ∧ D.nx σ H) ∨ (J.go i H ∧ ∃ N : St → Hp → Prop, (∀ σ' H', N σ' H' → ∃ m', m' < m ∧ W (i + 1) m' σ' H') ∧ ∀ x H', J.yld i H x H' → g x σ H' fun σ2 H2 => tb { D with nx := N, ct := N, bk := D.nx } σ2 H2)
/-- the records at fp as they stand -/
def pinsAt (fp : List Addr) (h : Heap) : List (Addr × Obj) := fp.filterMap fun b => (h.get? b).map fun o => (b, o)
theorem mem_pinsAt {fp : List Addr} {h : Heap} {b : Addr} {o : Obj} (hb : b ∈ fp) (e : h.get? b = some o) : (b, o) ∈ pinsAt fp h := List.mem_filterMap.mpr ⟨b, hb, by rw [e]; rfl⟩
theorem of_pinsAt {fp : List Addr} {h : Heap} {p : Addr × Obj} (hp : p ∈ pinsAt fp h) : p.1 ∈ fp ∧ h.get? p.1 = some p.2 := by
  obtain ⟨b, hb, e⟩ := List.mem_filterMap.mp hp
  cases q : h.get? b with
  | none => rw [q] at e; cases e
  | some o =>
    rw [q] at e
    have e' : (b, o) = p := Option.some.inj e
    subst e'
    exact ⟨hb, q⟩
theorem Inv.pinned {pins : List (Addr × Obj)} {σ : St} {H : Hp} {s : Shared} {fp : List Addr} (I : Inv X pins σ H s) (hf : ∀ b ∈ fp, FpOk X pins H b) (ho : ∀ b ∈ fp, ∃ o, s.heap.get? b = some o ∧ ∀ v, o.data ≠ .cell v) : Inv X (pins ++ pinsAt fp s.heap) σ H s :=
  I.pins_of fun p hp => (List.mem_append.mp hp).elim (fun z => I.pin p (List.mem_append_right _ z)) fun z => by
    obtain ⟨hb, e⟩ := of_pinsAt z
    obtain ⟨f0, f1, f2, _⟩ := hf p.1 hb
    obtain ⟨o, e', d⟩ := ho p.1 hb
    rw [e] at e'; cases e'
    exact ⟨e, f0, f1, f2, d⟩
theorem Inv.unpinned {pins pl : List (Addr × Obj)} {σ : St} {H : Hp} {s : Shared} (I : Inv X (pins ++ pl) σ H s) : Inv X pins σ H s := I.pins_of fun p hp => I.pin p (List.mem_append_right _ (List.mem_append_left _ hp))
theorem ps_for {iter : Expr} {body : List Stmt} {wi : TI} {g : TG} {tb : TS} {pos : Pos} (hp : PassesOwn (model X.prog X.w) X.A X.env X.xe) (hc : X.calm = true) (hi : PI X tg iter wi) (hg : PG X tg g) (hb : PSs X body tb)
    (hs : ∀ x, foldedSetIterable iter X.env x = pure x := by intro _; rfl) : PS X (.For tg iter body [] pos) (tFor wi g tb) := by
  intro pins s σ H D I h
  refine wpAny_For (thn (hi pins s σ H _ I h) fun v s1 h1 => thn h1 fun itv s2 h2 => ?_) hs
  obtain ⟨it, fp, tn, J, H2, e, I2, T, st2, f2, W, ⟨m0, w0⟩, turn⟩ := h2
  subst e
  -- what stays true of the iterator's objects through the loop
  have stat : ∀ {H' : Hp}, (∀ b ∈ fp, H' b = none) → ∀ b ∈ fp, FpOk X pins H' b := fun hn b hb => ⟨hn b hb, (f2 b hb).2⟩
  refine codeAny_forLoop_any (fun n s' => ∃ i σ' H', Inv X pins σ' H' s' ∧ tn i s'.heap ∧ (∀ b ∈ fp, H' b = none) ∧ W i n σ' H') ?_ m0 ⟨0, σ, H2, I2, st2, fun b hb => (f2 b hb).1, w0⟩
  rintro n s3 ⟨i, σ3, H3, I3, st3, fr3, w3⟩
  rcases turn i n σ3 H3 w3 with ⟨stop, qn⟩ | ⟨go, N, hN, step⟩
  · refine wpAny_passesOwn hp (thn (T.done X rfl rfl rfl hc i pins s3 σ3 H3 X.xe I3 (stat fr3) st3 stop) fun r s4 ⟨hr, I4⟩ => ?_)
    subst hr
    exact wpAny_execs_nil ⟨σ3, H3, I4, qn⟩
  · refine wpAny_passesOwn hp (thn (T.item X rfl rfl rfl hc i pins s3 σ3 H3 X.xe I3 (stat fr3) st3 go) fun r s4 ⟨u, hr, h4⟩ => ?_)
    subst hr
    refine wpAny_passesOwn hp (thn h4 fun _ s5 ⟨x, H5, I5, r5, y5, st5, fr5⟩ => ?_)
    have I5' := I5.pinned (stat fr5) (T.obj _ _ st5)
    refine wpAny_passesOwn hp (thn (hg _ s5 σ3 H5 x u _ I5' r5 (step x H5 y5)) fun _ s6 ⟨σ6, H6, I6, q6⟩ => ?_)
    refine wpAny_passesOwn hp (thn (hb _ s6 σ6 H6 _ I6 q6) fun f s7 q7 => ?_)
    have again : ∀ {σ7 : St} {H7 : Hp}, Inv X (pins ++ pinsAt fp s5.heap) σ7 H7 s7 → N σ7 H7 → ∃ m, m < n ∧ ∃ i σ' H', Inv X pins σ' H' s7 ∧ tn i s7.heap ∧ (∀ b ∈ fp, H' b = none) ∧ W i m σ' H' := fun {σ7 H7} I7 n7 => by
      obtain ⟨m', hm, w7⟩ := hN σ7 H7 n7
      refine ⟨m', hm, i + 1, σ7, H7, I7.unpinned, T.keep _ _ _ st5 fun b hb o e => (I7.pin (b, o) (List.mem_append_right _ (List.mem_append_right _ (mem_pinsAt hb e)))).1, fun b hb => ?_, w7⟩
      obtain ⟨o, e, d⟩ := T.obj _ _ st5 b hb
      exact (I7.pin (b, o) (List.mem_append_right _ (List.mem_append_right _ (mem_pinsAt hb e)))).2.1
    cases f with
    | next => obtain ⟨σ7, H7, I7, n7⟩ := q7; exact again I7 n7
    | cont => obtain ⟨σ7, H7, I7, n7⟩ := q7; exact again I7 n7
    | brk => obtain ⟨σ7, H7, I7, q7⟩ := q7; exact ⟨σ7, H7, I7.unpinned, q7⟩
    | ret v => obtain ⟨x7, σ7, H7, I7, r7, q7⟩ := q7; exact ⟨x7, σ7, H7, I7.unpinned, r7, q7⟩
end

/-! ### the forms one uses -/
/-- over a list that the body leaves as it is -/
theorem for_list {K : PySem.W.Frag} {a : Addr} {xs : List V} {g : TG} {tb : TS} {D : Ends} {σ : St} {H : Hp} (Pv : Nat → St → Hp → Prop) (h0 : Pv 0 σ H) (hl : ∀ i σ H, i ≤ xs.length → Pv i σ H → SqL K H a xs)
    (hs : ∀ i x σ H, xs[i]? = some x → Pv i σ H → g x σ H fun σ2 H2 => tb { D with nx := Pv (i + 1), ct := Pv (i + 1), bk := D.nx } σ2 H2) (hd : ∀ σ H, Pv xs.length σ H → D.nx σ H) :
    ∃ W : Nat → Nat → St → Hp → Prop, (∃ m, W 0 m σ H) ∧ ∀ i m σ H, W i m σ H →
      ((Itl K a).stop i H ∧ D.nx σ H) ∨ ((Itl K a).go i H ∧ ∃ N : St → Hp → Prop, (∀ σ' H', N σ' H' → ∃ m', m' < m ∧ W (i + 1) m' σ' H') ∧ ∀ x H', (Itl K a).yld i H x H' → g x σ H' fun σ2 H2 => tb { D with nx := N, ct := N, bk := D.nx } σ2 H2) := by
  refine ⟨fun i m σ H => m = xs.length - i ∧ i ≤ xs.length ∧ Pv i σ H, ⟨xs.length, by simp, Nat.zero_le _, h0⟩, ?_⟩
  rintro i m σ H ⟨rfl, hi, p⟩
  have q := hl i σ H hi p
  by_cases hlt : i < xs.length
  · refine .inr ⟨⟨xs, xs[i], q, by simp [hlt]⟩, Pv (i + 1), fun σ' H' p' => ⟨xs.length - (i + 1), by omega, rfl, hlt, p'⟩, fun x H' y => ?_⟩
    obtain ⟨e, y⟩ := y
    subst e
    exact hs i x σ _ (y xs q) p
  · have e : i = xs.length := by omega
    subst e
    exact .inl ⟨⟨xs, q, Nat.le_refl _⟩, hd σ H p⟩
theorem for_tup {K : PySem.W.Frag} {a : Addr} {xs : List V} {g : TG} {tb : TS} {D : Ends} {σ : St} {H : Hp} (Pv : Nat → St → Hp → Prop) (h0 : Pv 0 σ H) (hl : ∀ i σ H, i ≤ xs.length → Pv i σ H → SqT K H a xs)
    (hs : ∀ i x σ H, xs[i]? = some x → Pv i σ H → g x σ H fun σ2 H2 => tb { D with nx := Pv (i + 1), ct := Pv (i + 1), bk := D.nx } σ2 H2) (hd : ∀ σ H, Pv xs.length σ H → D.nx σ H) :
    ∃ W : Nat → Nat → St → Hp → Prop, (∃ m, W 0 m σ H) ∧ ∀ i m σ H, W i m σ H →
      ((Itt K a).stop i H ∧ D.nx σ H) ∨ ((Itt K a).go i H ∧ ∃ N : St → Hp → Prop, (∀ σ' H', N σ' H' → ∃ m', m' < m ∧ W (i + 1) m' σ' H') ∧ ∀ x H', (Itt K a).yld i H x H' → g x σ H' fun σ2 H2 => tb { D with nx := N, ct := N, bk := D.nx } σ2 H2) := by
  refine ⟨fun i m σ H => m = xs.length - i ∧ i ≤ xs.length ∧ Pv i σ H, ⟨xs.length, by simp, Nat.zero_le _, h0⟩, ?_⟩
  rintro i m σ H ⟨rfl, hi, p⟩
  have q := hl i σ H hi p
  by_cases hlt : i < xs.length
  · refine .inr ⟨⟨xs, xs[i], q, by simp [hlt]⟩, Pv (i + 1), fun σ' H' p' => ⟨xs.length - (i + 1), by omega, rfl, hlt, p'⟩, fun x H' y => ?_⟩
    obtain ⟨e, y⟩ := y
    subst e
    exact hs i x σ _ (y xs q) p
  · have e : i = xs.length := by omega
    subst e
    exact .inl ⟨⟨xs, q, Nat.le_refl _⟩, hd σ H p⟩
theorem for_range {lo : Int} {n : Nat} {g : TG} {tb : TS} {D : Ends} {σ : St} {H : Hp} (Pv : Nat → St → Hp → Prop) (h0 : Pv 0 σ H)
    (hs : ∀ i σ H, i < n → Pv i σ H → g (.int (lo + i)) σ H fun σ2 H2 => tb { D with nx := Pv (i + 1), ct := Pv (i + 1), bk := D.nx } σ2 H2) (hd : ∀ σ H, Pv n σ H → D.nx σ H) :
    ∃ W : Nat → Nat → St → Hp → Prop, (∃ m, W 0 m σ H) ∧ ∀ i m σ H, W i m σ H →
      ((Itr lo n).stop i H ∧ D.nx σ H) ∨ ((Itr lo n).go i H ∧ ∃ N : St → Hp → Prop, (∀ σ' H', N σ' H' → ∃ m', m' < m ∧ W (i + 1) m' σ' H') ∧ ∀ x H', (Itr lo n).yld i H x H' → g x σ H' fun σ2 H2 => tb { D with nx := N, ct := N, bk := D.nx } σ2 H2) := by
  refine ⟨fun i m σ H => m = n - i ∧ i ≤ n ∧ Pv i σ H, ⟨n, by simp, Nat.zero_le _, h0⟩, ?_⟩
  rintro i m σ H ⟨rfl, hi, p⟩
  by_cases hlt : i < n
  · refine .inr ⟨hlt, Pv (i + 1), fun σ' H' p' => ⟨n - (i + 1), by omega, rfl, hlt, p'⟩, fun x H' y => ?_⟩
    obtain ⟨e, y⟩ := y
    subst e y
    exact hs i σ _ hlt p
  · have e : i = n := by omega
    subst e
    exact .inl ⟨Nat.le_refl _, hd σ H p⟩
/-- while, by a word and a measure of the state -/
theorem while_by {c : TT} {tb : TS} {D : Ends} {σ : St} {H : Hp} (Pv : St → Hp → Prop) (μ : St → Hp → Nat) (h0 : Pv σ H)
    (hs : ∀ σ H, Pv σ H → c σ H fun b H1 => if b = true then tb { D with nx := fun σ' H' => Pv σ' H' ∧ μ σ' H' < μ σ H, ct := fun σ' H' => Pv σ' H' ∧ μ σ' H' < μ σ H, bk := D.nx } σ H1 else D.nx σ H1)
    (mono : ∀ σ H Q Q', (∀ b H1, Q b H1 → Q' b H1) → c σ H Q → c σ H Q') : tWhile c tb D σ H := by
  refine ⟨fun m σ H => m = μ σ H ∧ Pv σ H, ⟨_, rfl, h0⟩, ?_⟩
  rintro m σ H ⟨rfl, p⟩
  refine mono σ H _ _ (fun b H1 q => ?_) (hs σ H p)
  cases b with
  | true => exact ⟨_, fun σ' H' ⟨p', l⟩ => ⟨_, l, rfl, p'⟩, q⟩
  | false => exact q
end L2

namespace L2
open PySem PySem.Spec PyProof.Rows

abbrev R2 := V → V → Hp → VK → Prop
/-- a two-place operation on values: f is binaryOp op, inplaceOp op or compareOp op -/
def OpR (X : Cx) (f : Value → Value → Sem Value) (r : R2) : Prop :=
  ∀ (pins : List (Addr × Obj)) (s : Shared) (σ : St) (H : Hp) (x y : V) (v u : Value) (Q : VK), Inv X pins σ H s → RelV x v → RelV y u → r x y H Q →
    wpAny (model X.prog X.w) X.A (f v u) (EP X pins σ Q) X.xe s
/-- a one-place operation -/
def UnR (X : Cx) (f : Value → Sem Value) (r : V → Hp → VK → Prop) : Prop :=
  ∀ (pins : List (Addr × Obj)) (s : Shared) (σ : St) (H : Hp) (x : V) (v : Value) (Q : VK), Inv X pins σ H s → RelV x v → r x H Q →
    wpAny (model X.prog X.w) X.A (f v) (EP X pins σ Q) X.xe s
/-- a call of a value that is known (a builtin, a type) with values -/
def CallR (X : Cx) (f : Value) (r : List V → Hp → VK → Prop) : Prop :=
  ∀ (pins : List (Addr × Obj)) (s : Shared) (σ : St) (H : Hp) (xs : List V) (us : List Value) (Q : VK), Inv X pins σ H s → Vals xs us → r xs H Q →
    wpAny (model X.prog X.w) X.A (call f us) (EP X pins σ Q) X.xe s
/-- a value's truth -/
def TruR (X : Cx) (r : V → Hp → (Bool → Hp → Prop) → Prop) : Prop :=
  ∀ (pins : List (Addr × Obj)) (s : Shared) (σ : St) (H : Hp) (x : V) (v : Value) (Q : Bool → Hp → Prop), Inv X pins σ H s → RelV x v → r x H Q →
    wpAny (model X.prog X.w) X.A (truthy v) (TP X pins σ Q) X.xe s

def tOp (r : R2) (ta tb : TE) : TE := fun σ H Q => ta σ H fun x H1 => tb σ H1 fun y H2 => r x y H2 Q
def tUn (r : V → Hp → VK → Prop) (ta : TE) : TE := fun σ H Q => ta σ H fun x H1 => r x H1 Q
/-- ints in, under C, and a value out -/
def rI (C : Int → Int → Prop) (g : Int → Int → V) : R2 := fun x y H Q => ∃ i j, x = .int i ∧ y = .int j ∧ C i j ∧ Q (g i j) H
def rI0 (g : Int → Int → V) : R2 := fun x y H Q => ∃ i j, x = .int i ∧ y = .int j ∧ Q (g i j) H
def rU (g : Int → V) : V → Hp → VK → Prop := fun x H Q => ∃ i, x = .int i ∧ Q (g i) H

section
variable {X : Cx} {a b c : Expr} {ta tb tc : TE} {pos : Pos}

theorem binT (ha : PE X a ta) (hb : PE X b tb) {pins : List (Addr × Obj)} {s : Shared} {σ : St} {H : Hp} {R : V → V → Hp → Prop} (I : Inv X pins σ H s)
    (h : ta σ H fun x H1 => tb σ H1 fun y H2 => R x y H2) {Q : Value → Shared → Prop} {f : Value → Value → Sem Value}
    (hf : ∀ v u s2 x y H2, Inv X pins σ H2 s2 → RelV x v → RelV y u → R x y H2 → wpAny (model X.prog X.w) X.A (f v u) Q X.xe s2) :
    wpAny (model X.prog X.w) X.A (eval a X.env) (fun v s₁ => wpAny (model X.prog X.w) X.A (eval b X.env) (fun u s₂ => wpAny (model X.prog X.w) X.A (f v u) Q X.xe s₂) X.xe s₁) X.xe s := by
  refine thn (ha pins s σ H _ I h) fun v s1 ⟨x, H1, I1, r1, q1⟩ => ?_
  refine thn (hb pins s1 σ H1 _ I1 q1) fun u s2 ⟨y, H2, I2, r2, q2⟩ => ?_
  exact hf v u s2 x y H2 I2 r1 r2 q2

theorem pe_op {op : Operator} {r : R2} (ho : OpR X (binaryOp op) r) (ha : PE X a ta) (hb : PE X b tb) : PE X (.BinOp a op b pos) (tOp r ta tb) := by
  intro pins s σ H Q I h
  exact wpAny_BinOp (binT ha hb I h fun v u s2 x y H2 I2 rx ry q => ho pins s2 σ H2 x y v u Q I2 rx ry q)
theorem pe_un {op : UnaryOp} {r : V → Hp → VK → Prop} (ho : UnR X (unaryOp op) r) (ha : PE X a ta) : PE X (.UnaryOp op a pos) (tUn r ta) := by
  intro pins s σ H Q I h
  exact UnaryOp_ (thn (ha pins s σ H _ I h) fun v s1 ⟨x, H1, I1, r1, q1⟩ => ho pins s1 σ H1 x v Q I1 r1 q1)
/-- a op= e at a name: the name's slot i -/
theorem augR {op : Operator} {r : R2} (ho : OpR X (inplaceOp op) r) {pins : List (Addr × Obj)} {s : Shared} {σ : St} {H : Hp} {x y : V} {v u : Value} {Q : VK} (I : Inv X pins σ H s)
    (rx : RelV x v) (ry : RelV y u) (q : r x y H Q) : wpAny (model X.prog X.w) X.A (inplaceOp op v u) (EP X pins σ Q) X.xe s := ho pins s σ H x y v u Q I rx ry q

/-! ### ints -/
theorem opI {f : Value → Value → Sem Value} {C : Int → Int → Prop} {g : Int → Int → Int}
    (rule : ∀ (i j : Int) (t u : Tok) (s : Shared) (Q : Value → Shared → Prop) (E : Value → Shared → Prop), C i j → Q (.int (g i j) s.toks) { s with toks := s.toks + 1 } → wpAny (model X.prog X.w) X.A (f (.int i t) (.int j u)) Q E s) :
    OpR X f (rI C fun i j => .int (g i j)) := by
  intro pins s σ H x y v u Q I rx ry h
  obtain ⟨i, j, rfl, rfl, hc, q⟩ := h
  obtain ⟨t, rfl⟩ := rx
  obtain ⟨t', rfl⟩ := ry
  exact rule i j t t' s _ _ hc ⟨.int (g i j), H, I.tok _, ⟨_, rfl⟩, q⟩
theorem opI0 {f : Value → Value → Sem Value} {g : Int → Int → Int}
    (rule : ∀ (i j : Int) (t u : Tok) (s : Shared) (Q : Value → Shared → Prop) (E : Value → Shared → Prop), Q (.int (g i j) s.toks) { s with toks := s.toks + 1 } → wpAny (model X.prog X.w) X.A (f (.int i t) (.int j u)) Q E s) :
    OpR X f (rI0 fun i j => .int (g i j)) := by
  intro pins s σ H x y v u Q I rx ry h
  obtain ⟨i, j, rfl, rfl, q⟩ := h
  obtain ⟨t, rfl⟩ := rx
  obtain ⟨t', rfl⟩ := ry
  exact rule i j t t' s _ _ ⟨.int (g i j), H, I.tok _, ⟨_, rfl⟩, q⟩
theorem opB0 {f : Value → Value → Sem Value} {g : Int → Int → Bool}
    (rule : ∀ (i j : Int) (t u : Tok) (s : Shared) (Q : Value → Shared → Prop) (E : Value → Shared → Prop), Q (.bool (g i j)) s → wpAny (model X.prog X.w) X.A (f (.int i t) (.int j u)) Q E s) :
    OpR X f (rI0 fun i j => .bl (g i j)) := by
  intro pins s σ H x y v u Q I rx ry h
  obtain ⟨i, j, rfl, rfl, q⟩ := h
  obtain ⟨t, rfl⟩ := rx
  obtain ⟨t', rfl⟩ := ry
  exact rule i j t t' s _ _ ⟨.bl (g i j), H, I, rfl, q⟩

def CDiv (i j : Int) : Prop := 0 < j ∧ j < 1073741824
def CDivN (i j : Int) : Prop := j ≠ 0 ∧ j.natAbs < 1073741824
def CPow (i j : Int) : Prop := 0 ≤ j ∧ j ≤ 1000000 ∧ i.natAbs < 2 ^ 64
def CMul (i j : Int) : Prop := (-(2 ^ 64) < i ∧ i < 2 ^ 64) ∨ (-(2 ^ 64) < j ∧ j < 2 ^ 64)
theorem CMul.ok {i j : Int} (h : CMul i j) : IntMulOk i j := by
  rcases h with ⟨h1, h2⟩ | ⟨h1, h2⟩
  · exact .of_left (intBits_le_64 h1 h2)
  · exact .of_right (intBits_le_64 h1 h2)
theorem two_pow_nn (k : Nat) : (0 : Int) ≤ 2 ^ k := by
  rw [two_pow_cast]
  exact Int.natCast_nonneg _

theorem op_add : OpR X (binaryOp .Add) (rI0 fun i j => .int (i + j)) := opI0 fun _ _ _ _ _ _ _ q => add_int q
theorem op_sub : OpR X (binaryOp .Sub) (rI0 fun i j => .int (i - j)) := opI0 fun _ _ _ _ _ _ _ q => sub_int q
theorem op_mul : OpR X (binaryOp .Mult) (rI CMul fun i j => .int (i * j)) := opI fun _ _ _ _ _ _ _ hc q => mul_int q hc.ok
/-- // by a positive divisor -/
theorem op_fdiv : OpR X (binaryOp .FloorDiv) (rI CDiv fun i j => .int (i / j)) := opI fun i j _ _ _ _ _ hc q => by
  have h1 : (0 : Int) < j := hc.1
  have h2 : j < 1073741824 := hc.2
  exact floordiv_int (by omega) (by rw [Int.fdiv_eq_ediv_of_nonneg i (by omega)]; exact q) (.inl (PyProof.noPylong_small (by omega)))
theorem op_fdivN : OpR X (binaryOp .FloorDiv) (rI CDivN fun i j => .int (i.fdiv j)) := opI fun _ _ _ _ _ _ _ hc q => floordiv_int hc.1 q (.inl (PyProof.noPylong_small hc.2))
/-- % by a positive divisor of any size -/
theorem op_mod : OpR X (binaryOp .Mod) (rI (fun _ j => 0 < j) fun i j => .int (i % j)) := opI fun i j _ _ _ _ _ hc q => by
  have h1 : (0 : Int) < j := hc
  exact mod_int' (by omega) (by rw [Int.fmod_eq_emod_of_nonneg i (by omega)]; exact q)
theorem op_modN : OpR X (binaryOp .Mod) (rI (fun _ j => j ≠ 0) fun i j => .int (i.fmod j)) := opI fun _ _ _ _ _ _ _ hc q => mod_int' hc q
theorem op_pow : OpR X (binaryOp .Pow) (rI CPow fun i j => .int (i ^ j.toNat)) := opI fun _ _ _ _ _ _ _ hc q => pow_int_small hc.1 hc.2.1 hc.2.2 q
theorem op_shl : OpR X (binaryOp .LShift) (rI CPow fun i j => .int (i * 2 ^ j.toNat)) := opI fun _ _ _ _ _ _ _ hc q => lshift_int_small hc.1 hc.2.1 hc.2.2 q
theorem op_shr : OpR X (binaryOp .RShift) (rI (fun _ j => 0 ≤ j) fun i j => .int (i / 2 ^ j.toNat)) := opI fun i j _ _ _ _ _ hc q =>
  rshift_int hc (by rw [Int.fdiv_eq_ediv_of_nonneg i (two_pow_nn _)]; exact q)
theorem op_and : OpR X (binaryOp .BitAnd) (rI0 fun i j => .int (Builtin.bitAnd i j)) := opI0 fun _ _ _ _ _ _ _ q => and_int q
theorem op_or : OpR X (binaryOp .BitOr) (rI0 fun i j => .int (Builtin.bitOr i j)) := opI0 fun _ _ _ _ _ _ _ q => or_int q
theorem op_xor : OpR X (binaryOp .BitXor) (rI0 fun i j => .int (Builtin.bitXor i j)) := opI0 fun _ _ _ _ _ _ _ q => xor_int q

theorem iop_add : OpR X (inplaceOp .Add) (rI0 fun i j => .int (i + j)) := opI0 fun _ _ _ _ _ _ _ q => iadd_int q
theorem iop_sub : OpR X (inplaceOp .Sub) (rI0 fun i j => .int (i - j)) := opI0 fun _ _ _ _ _ _ _ q => isub_int q
theorem iop_mul : OpR X (inplaceOp .Mult) (rI CMul fun i j => .int (i * j)) := opI fun _ _ _ _ _ _ _ hc q => imul_int q hc.ok
theorem iop_fdiv : OpR X (inplaceOp .FloorDiv) (rI CDiv fun i j => .int (i / j)) := opI fun i j _ _ _ _ _ hc q => by
  have h1 : (0 : Int) < j := hc.1
  have h2 : j < 1073741824 := hc.2
  exact ifloordiv_int (by omega) (by rw [Int.fdiv_eq_ediv_of_nonneg i (by omega)]; exact q) (.inl (PyProof.noPylong_small (by omega)))
theorem iop_mod : OpR X (inplaceOp .Mod) (rI (fun _ j => 0 < j) fun i j => .int (i % j)) := opI fun i j _ _ _ _ _ hc q => by
  have h1 : (0 : Int) < j := hc
  exact imod_int (by omega) (by rw [Int.fmod_eq_emod_of_nonneg i (by omega)]; exact q)
theorem iop_shl : OpR X (inplaceOp .LShift) (rI CPow fun i j => .int (i * 2 ^ j.toNat)) := opI fun _ _ _ _ _ _ _ hc q => ilshift_int_small hc.1 hc.2.1 hc.2.2 q
theorem iop_shr : OpR X (inplaceOp .RShift) (rI (fun _ j => 0 ≤ j) fun i j => .int (i / 2 ^ j.toNat)) := opI fun i j _ _ _ _ _ hc q =>
  irshift_int hc (by rw [Int.fdiv_eq_ediv_of_nonneg i (two_pow_nn _)]; exact q)
theorem iop_and : OpR X (inplaceOp .BitAnd) (rI0 fun i j => .int (Builtin.bitAnd i j)) := opI0 fun _ _ _ _ _ _ _ q => iand_int q
theorem iop_or : OpR X (inplaceOp .BitOr) (rI0 fun i j => .int (Builtin.bitOr i j)) := opI0 fun _ _ _ _ _ _ _ q => ior_int q
theorem iop_xor : OpR X (inplaceOp .BitXor) (rI0 fun i j => .int (Builtin.bitXor i j)) := opI0 fun _ _ _ _ _ _ _ q => ixor_int q

theorem unI {f : Value → Sem Value} {g : Int → Int}
    (rule : ∀ (i : Int) (t : Tok) (s : Shared) (Q : Value → Shared → Prop) (E : Value → Shared → Prop), Q (.int (g i) s.toks) { s with toks := s.toks + 1 } → wpAny (model X.prog X.w) X.A (f (.int i t)) Q E s) :
    UnR X f (rU fun i => .int (g i)) := by
  intro pins s σ H x v Q I rx h
  obtain ⟨i, rfl, q⟩ := h
  obtain ⟨t, rfl⟩ := rx
  exact rule i t s _ _ ⟨.int (g i), H, I.tok _, ⟨_, rfl⟩, q⟩
theorem un_neg : UnR X (unaryOp .USub) (rU fun i => .int (-i)) := unI fun _ _ _ _ _ q => neg_int q
theorem un_inv : UnR X (unaryOp .Invert) (rU fun i => .int (Builtin.bitNot i)) := unI fun _ _ _ _ _ q => invert_int q

/-! ### bools among ints: n += (a < b) -/
theorem op_add_ib : OpR X (binaryOp .Add) (fun x y H Q => ∃ i k, x = .int i ∧ y = .bl k ∧ Q (.int (i + b2i k)) H) := by
  intro pins s σ H x y v u Q I rx ry h
  obtain ⟨i, k, rfl, rfl, q⟩ := h
  obtain ⟨t, rfl⟩ := rx
  cases ry
  exact add_int_bool ⟨.int (i + b2i k), H, I.tok _, ⟨_, rfl⟩, q⟩
end

/-! ### comparisons -/
/-- the scalars that == tells apart as data does -/
def scal : V → V → Bool
  | .non, .non => true | .non, .int _ => true | .int _, .non => true | .non, .bl _ => true | .bl _, .non => true | .non, .str _ => true | .str _, .non => true
  | .int _, .int _ => true | .bl _, .bl _ => true | .str _, .str _ => true | .byt _, .byt _ => true
  | .int _, .str _ => true | .str _, .int _ => true | .bl _, .str _ => true | .str _, .bl _ => true
  | _, _ => false
def rEq : R2 := fun x y H Q => scal x y = true ∧ Q (.bl (decide (x = y))) H
def rNe : R2 := fun x y H Q => scal x y = true ∧ Q (.bl (!decide (x = y))) H

theorem dec_int {i j : Int} : decide (V.int i = V.int j) = (i == j) := by
  rw [Bool.eq_iff_iff]
  simp
theorem dec_bl {i j : Bool} : decide (V.bl i = V.bl j) = (i == j) := by
  rw [Bool.eq_iff_iff]
  simp
theorem dec_str {i j : Str} : decide (V.str i = V.str j) = (i == j) := by
  rw [Bool.eq_iff_iff]
  simp
theorem dec_byt {i j : Array UInt8} : decide (V.byt i = V.byt j) = (i.toList == j.toList) := by
  rw [Bool.eq_iff_iff]
  cases i
  cases j
  simp

section
variable {X : Cx} {a b c : Expr} {ta tb tc : TE} {pos : Pos}
theorem fin_bl {pins : List (Addr × Obj)} {σ : St} {H : Hp} {s : Shared} {Q : VK} {k k' : Bool} (I : Inv X pins σ H s) (q : Q (.bl k) H) (e : k = k') : EP X pins σ Q (.bool k') s := by
  subst e
  exact ⟨.bl k, H, I, rfl, q⟩
theorem op_eq : OpR X (compareOp .Eq) rEq := by
  intro pins s σ H x y v u Q I rx ry h
  obtain ⟨hs, q⟩ := h
  cases x with
  | non =>
    cases rx
    cases y with
    | non => cases ry; exact PySem.EqNone.eq_none_none (fin_bl I q (by simp))
    | bl j => cases ry; exact PySem.EqNone.eq_none_bool (fin_bl I q (by simp))
    | int j => obtain ⟨t', rfl⟩ := ry; exact PySem.EqNone.eq_none_int (fin_bl I q (by simp))
    | str j => obtain ⟨t', rfl⟩ := ry; exact PySem.EqNone.eq_none_str (fin_bl I q (by simp))
    | _ => exact absurd (show false = true from hs) Bool.false_ne_true
  | bl i =>
    cases rx
    cases y with
    | non => cases ry; exact PySem.EqNone.eq_bool_none (fin_bl I q (by simp))
    | bl j => cases ry; exact eq_bool (fin_bl I q dec_bl)
    | str j => obtain ⟨t', rfl⟩ := ry; exact PySem.EqMixed.eq_bool_str (fin_bl I q (by simp))
    | _ => exact absurd (show false = true from hs) Bool.false_ne_true
  | int i =>
    obtain ⟨t, rfl⟩ := rx
    cases y with
    | non => cases ry; exact PySem.EqNone.eq_int_none (fin_bl I q (by simp))
    | int j => obtain ⟨t', rfl⟩ := ry; exact eq_int (fin_bl I q dec_int)
    | str j => obtain ⟨t', rfl⟩ := ry; exact PySem.EqMixed.eq_int_str (fin_bl I q (by simp))
    | _ => exact absurd (show false = true from hs) Bool.false_ne_true
  | str i =>
    obtain ⟨t, rfl⟩ := rx
    cases y with
    | non => cases ry; exact PySem.EqNone.eq_str_none (fin_bl I q (by simp))
    | bl j => cases ry; exact PySem.EqMixed.eq_str_bool (fin_bl I q (by simp))
    | int j => obtain ⟨t', rfl⟩ := ry; exact PySem.EqMixed.eq_str_int (fin_bl I q (by simp))
    | str j => obtain ⟨t', rfl⟩ := ry; exact eq_str (fin_bl I q dec_str)
    | _ => exact absurd (show false = true from hs) Bool.false_ne_true
  | byt i =>
    obtain ⟨t, rfl⟩ := rx
    cases y with
    | byt j => obtain ⟨t', rfl⟩ := ry; exact PySem.W.eq_bytes (fin_bl I q dec_byt)
    | _ => exact absurd (show false = true from hs) Bool.false_ne_true
  | _ => cases y <;> exact absurd (show false = true from hs) Bool.false_ne_true
theorem op_ne : OpR X (compareOp .NotEq) rNe := by
  intro pins s σ H x y v u Q I rx ry h
  obtain ⟨hs, q⟩ := h
  cases x with
  | non =>
    cases rx
    cases y with
    | non => cases ry; exact PySem.EqNone.ne_none_none (fin_bl I q (by simp))
    | bl j => cases ry; exact PySem.EqNone.ne_none_bool (fin_bl I q (by simp))
    | int j => obtain ⟨t', rfl⟩ := ry; exact PySem.EqNone.ne_none_int (fin_bl I q (by simp))
    | str j => obtain ⟨t', rfl⟩ := ry; exact PySem.EqNone.ne_none_str (fin_bl I q (by simp))
    | _ => exact absurd (show false = true from hs) Bool.false_ne_true
  | bl i =>
    cases rx
    cases y with
    | non => cases ry; exact PySem.EqNone.ne_bool_none (fin_bl I q (by simp))
    | bl j => cases ry; exact ne_bool (fin_bl I q (congrArg not dec_bl))
    | str j => obtain ⟨t', rfl⟩ := ry; exact PySem.EqMixed.ne_bool_str (fin_bl I q (by simp))
    | _ => exact absurd (show false = true from hs) Bool.false_ne_true
  | int i =>
    obtain ⟨t, rfl⟩ := rx
    cases y with
    | non => cases ry; exact PySem.EqNone.ne_int_none (fin_bl I q (by simp))
    | int j => obtain ⟨t', rfl⟩ := ry; exact ne_int (fin_bl I q (congrArg not dec_int))
    | str j => obtain ⟨t', rfl⟩ := ry; exact PySem.EqMixed.ne_int_str (fin_bl I q (by simp))
    | _ => exact absurd (show false = true from hs) Bool.false_ne_true
  | str i =>
    obtain ⟨t, rfl⟩ := rx
    cases y with
    | non => cases ry; exact PySem.EqNone.ne_str_none (fin_bl I q (by simp))
    | bl j => cases ry; exact PySem.EqMixed.ne_str_bool (fin_bl I q (by simp))
    | int j => obtain ⟨t', rfl⟩ := ry; exact PySem.EqMixed.ne_str_int (fin_bl I q (by simp))
    | str j => obtain ⟨t', rfl⟩ := ry; exact ne_str (fin_bl I q (congrArg not dec_str))
    | _ => exact absurd (show false = true from hs) Bool.false_ne_true
  | byt i =>
    obtain ⟨t, rfl⟩ := rx
    cases y with
    | byt j => obtain ⟨t', rfl⟩ := ry; exact PySem.W.ne_bytes (fin_bl I q (congrArg not dec_byt))
    | _ => exact absurd (show false = true from hs) Bool.false_ne_true
  | _ => cases y <;> exact absurd (show false = true from hs) Bool.false_ne_true

theorem op_lt : OpR X (compareOp .Lt) (rI0 fun i j => .bl (decide (i < j))) := opB0 fun _ _ _ _ _ _ _ q => lt_int q
theorem op_le : OpR X (compareOp .LtE) (rI0 fun i j => .bl (decide (i ≤ j))) := opB0 fun _ _ _ _ _ _ _ q => le_int q
theorem op_gt : OpR X (compareOp .Gt) (rI0 fun i j => .bl (decide (j < i))) := opB0 fun _ _ _ _ _ _ _ q => gt_int q
theorem op_ge : OpR X (compareOp .GtE) (rI0 fun i j => .bl (decide (j ≤ i))) := opB0 fun _ _ _ _ _ _ _ q => ge_int q
theorem op_lt_str : OpR X (compareOp .Lt) (fun x y H Q => ∃ i j, x = .str i ∧ y = .str j ∧ Q (.bl (decide (i.cps.toList < j.cps.toList))) H) := by
  intro pins s σ H x y v u Q I rx ry h
  obtain ⟨i, j, rfl, rfl, q⟩ := h
  obtain ⟨t, rfl⟩ := rx
  obtain ⟨t', rfl⟩ := ry
  exact lt_str (fin_bl I q rfl)
/-- the one string within the other -/
theorem op_in_str : OpR X (compareOp .In) (fun x y H Q => ∃ i j, x = .str i ∧ y = .str j ∧ Q (.bl (!(Builtin.Str.occurrences j i 0 j.length 1).isEmpty)) H) := by
  intro pins s σ H x y v u Q I rx ry h
  obtain ⟨i, j, rfl, rfl, q⟩ := h
  obtain ⟨t, rfl⟩ := rx
  obtain ⟨t', rfl⟩ := ry
  exact in_str (fin_bl I q rfl)

/-- is None, is not None: the right side a value none -/
theorem op_isN : OpR X (compareOp .Is) (fun x y H Q => y = .non ∧ Q (.bl (decide (x = .non))) H) := by
  intro pins s σ H x y v u Q I rx ry h
  obtain ⟨rfl, q⟩ := h
  cases ry
  refine is_none_gen (fin_bl I q ?_)
  cases x <;> first
    | (cases rx; rfl)
    | (obtain ⟨t, rfl⟩ := rx; rfl)
theorem op_notN : OpR X (compareOp .IsNot) (fun x y H Q => y = .non ∧ Q (.bl (!decide (x = .non))) H) := by
  intro pins s σ H x y v u Q I rx ry h
  obtain ⟨rfl, q⟩ := h
  cases ry
  refine isnot_none_gen (fin_bl I q ?_)
  cases x <;> first
    | (cases rx; rfl)
    | (obtain ⟨t, rfl⟩ := rx; rfl)

theorem op_notin_str : OpR X (compareOp .NotIn) (fun x y H Q => ∃ i j, x = .str i ∧ y = .str j ∧ Q (.bl (!(!(Builtin.Str.occurrences j i 0 j.length 1).isEmpty))) H) := by
  intro pins s σ H x y v u Q I rx ry h
  obtain ⟨i, j, rfl, rfl, q⟩ := h
  obtain ⟨t, rfl⟩ := rx
  obtain ⟨t', rfl⟩ := ry
  exact notIn_str (fin_bl I q rfl)
/-- is, is not of two objects that are tracked lists or instances -/
def isObj : HO → Bool
  | .lst _ => true
  | .ins _ _ _ => true
  | _ => false
theorem obj_there {pins : List (Addr × Obj)} {s : Shared} {σ : St} {H : Hp} {a : Addr} {o : HO} (I : Inv X pins σ H s) (h : H a = some o) (p : isObj o = true) : ∃ ob, s.heap.get? a = some ob ∧ ob.cls ≠ .type "tuple" := by
  cases o with
  | lst xs =>
    obtain ⟨_, its, n, _, e⟩ : xs.length ≤ sizeLine ∧ ∃ (its : List Value) (n : Nat), Vals xs its ∧ s.heap.get? a = some { cls := .type "list", data := .seq its.toArray n } := I.hok a _ h
    exact ⟨_, e, (by show Value.type "list" ≠ .type "tuple"; decide +kernel)⟩
  | ins C dx fs =>
    have x := I.hok a _ h
    obtain ⟨_, _, _, e, _⟩ := x
    exact ⟨_, e, (by show Value.ref C ≠ .type "tuple"; exact fun z => by cases z)⟩
  | _ => exact absurd (show false = true from p) Bool.false_ne_true
theorem op_is_ref : OpR X (compareOp .Is) (fun x y H Q => ∃ a b oa ob, x = .ref a ∧ y = .ref b ∧ H a = some oa ∧ isObj oa = true ∧ H b = some ob ∧ isObj ob = true ∧ Q (.bl (decide (a = b))) H) := by
  intro pins s σ H x y v u Q I rx ry h
  obtain ⟨a, b, oa, ob, rfl, rfl, ha, pa, hb, pb, q⟩ := h
  cases rx
  cases ry
  obtain ⟨o1, e1, n1⟩ := obj_there I ha pa
  obtain ⟨o2, e2, _⟩ := obj_there I hb pb
  by_cases z : a = b
  · subst z
    exact wpAny_is_ref_self (fin_bl I q (by simp))
  · exact wpAny_is_ref_other z e1 e2 n1 (fin_bl I q (by simp [z]))
theorem op_isnot_ref : OpR X (compareOp .IsNot) (fun x y H Q => ∃ a b oa ob, x = .ref a ∧ y = .ref b ∧ H a = some oa ∧ isObj oa = true ∧ H b = some ob ∧ isObj ob = true ∧ Q (.bl (!decide (a = b))) H) := by
  intro pins s σ H x y v u Q I rx ry h
  obtain ⟨a, b, oa, ob, rfl, rfl, ha, pa, hb, pb, q⟩ := h
  cases rx
  cases ry
  obtain ⟨o1, e1, n1⟩ := obj_there I ha pa
  obtain ⟨o2, e2, _⟩ := obj_there I hb pb
  by_cases z : a = b
  · subst z
    exact wpAny_isNot_ref_self (fin_bl I q (by simp))
  · exact wpAny_isNot_ref_other z e1 e2 n1 (fin_bl I q (by simp [z]))

/-- two rules for one operation: by cases -/
theorem OpR.or {f : Value → Value → Sem Value} {r r' : R2} (h : OpR X f r) (h' : OpR X f r') : OpR X f (fun x y H Q => r x y H Q ∨ r' x y H Q) := by
  intro pins s σ H x y v u Q I rx ry q
  rcases q with q | q
  · exact h pins s σ H x y v u Q I rx ry q
  · exact h' pins s σ H x y v u Q I rx ry q

theorem nomark (b : Expr) {op : CmpOp} (h : op ≠ .In := by decide) (h2 : op ≠ .NotIn := by decide) : behindInMarks op b = false := by
  have e1 : (op == CmpOp.In) = false := by cases op <;> first | rfl | exact absurd rfl h
  have e2 : (op == CmpOp.NotIn) = false := by cases op <;> first | rfl | exact absurd rfl h2
  cases b <;> simp [behindInMarks, e1, e2]
/-- a comparison as a value; hm: nomark b, or (for in, not in) by with_unfolding_all rfl -/
theorem pe_cmpR {op : CmpOp} {r : R2} (ho : OpR X (compareOp op) r) (ha : PE X a ta) (hb : PE X b tb) (hm : behindInMarks op b = false) : PE X (.Compare a [op] [b] pos) (tOp r ta tb) := by
  intro pins s σ H Q I h
  exact wpAny_Compare1 (binT ha hb I h fun v u s2 x y H2 I2 rx ry q => ho pins s2 σ H2 x y v u Q I2 rx ry q) hm
/-- a reading of a value as a test -/
def tTest (t : TE) : TT := fun σ H Q => t σ H fun x H' => ∃ k, x = .bl k ∧ Q k H'
theorem pt_cmpR {op : CmpOp} {r : R2} (ho : OpR X (compareOp op) r) (ha : PE X a ta) (hb : PE X b tb) (hm : behindInMarks op b = false) : PT X (.Compare a [op] [b] pos) (tTest (tOp r ta tb)) := by
  intro pins s σ H Q I h
  refine wpAny_isTrue_Compare1 (thn (ha pins s σ H _ I h) fun v s1 ⟨x, H1, I1, r1, q1⟩ => thn (hb pins s1 σ H1 _ I1 q1) fun u s2 ⟨y, H2, I2, r2, q2⟩ =>
    thn (ho pins s2 σ H2 x y v u _ I2 r1 r2 q2) fun c s3 ⟨z, H3, I3, r3, k, e, q3⟩ => ?_) hm
  subst e
  cases r3
  exact wpAny_truthy_bool ⟨H3, I3, q3⟩
/-- a op1 b op2 c -/
def tChain (r r' : R2) (ta tb tc : TE) : TE := fun σ H Q => ta σ H fun x H1 => tb σ H1 fun y H2 => r x y H2 fun z H3 => ∃ k, z = .bl k ∧
  (if k = true then tc σ H3 fun w' H4 => r' y w' H4 Q else Q (.bl false) H3)
theorem pe_chain {op op' : CmpOp} {r r' : R2} (ho : OpR X (compareOp op) r) (ho' : OpR X (compareOp op') r') (ha : PE X a ta) (hb : PE X b tb) (hc : PE X c tc)
    (hm : lastMarks [op, op'] [b, c] = false := by with_unfolding_all rfl) : PE X (.Compare a [op, op'] [b, c] pos) (tChain r r' ta tb tc) := by
  intro pins s σ H Q I h
  refine Compare_chain (thn (ha pins s σ H _ I h) fun v s1 ⟨x, H1, I1, r1, q1⟩ => chain_link (thn (hb pins s1 σ H1 _ I1 q1) fun u s2 ⟨y, H2, I2, r2, q2⟩ =>
    thn (ho pins s2 σ H2 x y v u _ I2 r1 r2 q2) fun d s3 ⟨z, H3, I3, r3, k, e, q3⟩ => ?_)) hm
  subst e
  cases r3
  refine wpAny_truthy_bool ?_
  cases k with
  | false => exact ite_ff ⟨.bl false, H3, I3, rfl, q3⟩
  | true => exact ite_tt (chain_last (thn (hc pins s3 σ H3 _ I3 q3) fun w' s4 ⟨z', H4, I4, r4, q4⟩ => ho' pins s4 σ H4 y z' u w' Q I4 r2 r4 q4))
theorem pt_chain {op op' : CmpOp} {r r' : R2} (ho : OpR X (compareOp op) r) (ho' : OpR X (compareOp op') r') (ha : PE X a ta) (hb : PE X b tb) (hc : PE X c tc)
    (hm : lastMarks [op, op'] [b, c] = false := by with_unfolding_all rfl) : PT X (.Compare a [op, op'] [b, c] pos) (tTest (tChain r r' ta tb tc)) := by
  intro pins s σ H Q I h
  refine isTrue_chain (thn (ha pins s σ H _ I h) fun v s1 ⟨x, H1, I1, r1, q1⟩ => test_link (thn (hb pins s1 σ H1 _ I1 q1) fun u s2 ⟨y, H2, I2, r2, q2⟩ =>
    thn (ho pins s2 σ H2 x y v u _ I2 r1 r2 q2) fun d s3 ⟨z, H3, I3, r3, k, e, q3⟩ => ?_)) hm
  subst e
  cases r3
  refine wpAny_truthy_bool ?_
  cases k with
  | false =>
    obtain ⟨k', e', q'⟩ := q3
    cases e'
    exact ite_ff ⟨H3, I3, q'⟩
  | true =>
    refine ite_tt (test_last (thn (hc pins s3 σ H3 _ I3 q3) fun w' s4 ⟨z', H4, I4, r4, q4⟩ => thn (ho' pins s4 σ H4 y z' u w' _ I4 r2 r4 q4) fun d' s5 ⟨z2, H5, I5, r5, k2, e2, q5⟩ => ?_))
    subst e2
    cases r5
    exact wpAny_truthy_bool ⟨H5, I5, q5⟩

/-! ### truth -/
/-- a value's truth by the abstract heap -/
def TruV (K : PySem.W.Frag) (x : V) (H : Hp) (k : Bool) : Prop :=
  match x with
  | .non => k = false
  | .bl b => k = b
  | .int i => k = (i != 0)
  | .str y => y.length ≤ sizeLine ∧ k = ((y.length : Int) != 0)
  | .byt y => y.size ≤ sizeLine ∧ k = ((y.size : Int) != 0)
  | .ref p => (∃ xs, SqL K H p xs ∧ k = !xs.isEmpty) ∨ (∃ xs, SqT K H p xs ∧ k = !xs.isEmpty) ∨ ∃ kvs, H p = some (.dK kvs) ∧ k = !kvs.isEmpty
  | _ => False
theorem isEmpty_kv {κ : Type} {kvs : List (κ × V)} {vs : List (κ × Value)} (r : KV kvs vs) : (!vs.isEmpty) = !kvs.isEmpty := by
  cases r <;> rfl
theorem isEmpty_of {xs : List V} {its : List Value} (r : Vals xs its) : (!its.toArray.isEmpty) = !xs.isEmpty := by
  cases r <;> simp
theorem line63 : (sizeLine : Nat) < 2 ^ 63 := by rw [sizeLine_eq]; decide
theorem tru_ok : TruR X (fun x H Q => ∃ k, TruV X.K x H k ∧ Q k H) := by
  intro pins s σ H x v Q I rx h
  obtain ⟨k, e, q⟩ := h
  have hl := line63
  have hs : sizeLine = 16777216 := sizeLine_eq
  cases x with
  | non =>
    cases rx
    have e' : k = false := e
    subst e'
    exact truthy_none ⟨H, I, q⟩
  | bl b =>
    cases rx
    have e' : k = b := e
    subst e'
    exact wpAny_truthy_bool ⟨H, I, q⟩
  | int i =>
    obtain ⟨t, rfl⟩ := rx
    have e' : k = (i != 0) := e
    subst e'
    exact PySem.P.truthy_int ⟨H, I, q⟩
  | str y =>
    obtain ⟨t, rfl⟩ := rx
    obtain ⟨hy, e'⟩ : y.length ≤ sizeLine ∧ k = ((y.length : Int) != 0) := e
    subst e'
    exact PySem.P.truthy_str (by omega) ⟨H, I.tok _, q⟩
  | byt y =>
    obtain ⟨t, rfl⟩ := rx
    obtain ⟨hy, e'⟩ : y.size ≤ sizeLine ∧ k = ((y.size : Int) != 0) := e
    subst e'
    exact PySem.W.truthy_bytes (by omega) ⟨H, I.tok _, q⟩
  | ref p =>
    cases rx
    have e' : (∃ xs, SqL X.K H p xs ∧ k = !xs.isEmpty) ∨ (∃ xs, SqT X.K H p xs ∧ k = !xs.isEmpty) ∨ ∃ kvs, H p = some (.dK kvs) ∧ k = !kvs.isEmpty := e
    rcases e' with ⟨xs, hx, e'⟩ | ⟨xs, hx, e'⟩ | ⟨kvs, hx, e'⟩
    · subst e'
      obtain ⟨its, r, pl, hz⟩ := I.list hx
      have hlen := r.length
      exact wpAny_truthy_list pl.isList (by simp only [List.size_toArray]; omega) ⟨H, I.tok _, by rw [isEmpty_of r]; exact q⟩
    · subst e'
      obtain ⟨its, r, pl, hz⟩ := I.tuple hx
      have hlen := r.length
      exact truthy_tuple pl (by simp only [List.size_toArray]; omega) ⟨H, I.tok _, by rw [isEmpty_of r]; exact q⟩
    · subst e'
      obtain ⟨hz, hS, vs, r, m⟩ : kvs.length ≤ sizeLine ∧ (p == sysModules) = false ∧ ∃ vs, KV kvs vs ∧ s.heap.DictOf (mixKind X.prog X.w) p vs := I.hok p _ hx
      have hlen : kvs.length = vs.length := Paired.length r
      exact wpAny_truthy_dict hS m (by omega) ⟨H, I.tok _, by rw [isEmpty_kv r]; exact q⟩
  | _ => exact (show False from e).elim
/-- any expression whose test is its value's truth (a name, a call, a subscript, a field ..: he by fun _ => rfl) -/
theorem pt_truth (ha : PE X a ta) (he : ∀ whole, isTrue a X.env whole = (do let v ← whole; standAt a.pos; holding [v] (truthy v))) :
    PT X a (fun σ H Q => ta σ H fun x H' => ∃ k, TruV X.K x H' k ∧ Q k H') := by
  intro pins s σ H Q I h
  exact isTrue_plain (thn (ha pins s σ H _ I h) fun v s1 ⟨x, H1, I1, r1, q1⟩ => tru_ok pins s1 σ H1 x v Q I1 r1 q1) (he _)

/-! ### strs and bytes -/
theorem pe_byt {x : List UInt8} {k : Nat} : PE X (.Constant (.bytes x) k pos) (fun _ H Q => Q (.byt x.toArray) H) := fun _ _ _ H _ I h => PySem.W.Constant_bytes ⟨.byt x.toArray, H, I.tok _, ⟨_, rfl⟩, h⟩
theorem op_add_str : OpR X (binaryOp .Add) (fun x y H Q => ∃ i j, x = .str i ∧ y = .str j ∧ i.length + j.length ≤ sizeLine ∧ Q (.str (i ++ j)) H) := by
  intro pins s σ H x y v u Q I rx ry h
  obtain ⟨i, j, rfl, rfl, hz, q⟩ := h
  obtain ⟨t, rfl⟩ := rx
  obtain ⟨t', rfl⟩ := ry
  exact add_str (fun t' tk => ⟨.str (i ++ j), H, I.tok _, ⟨_, rfl⟩, q⟩) hz
theorem iop_add_str : OpR X (inplaceOp .Add) (fun x y H Q => ∃ i j, x = .str i ∧ y = .str j ∧ i.length + j.length ≤ sizeLine ∧ Q (.str (i ++ j)) H) := by
  intro pins s σ H x y v u Q I rx ry h
  obtain ⟨i, j, rfl, rfl, hz, q⟩ := h
  obtain ⟨t, rfl⟩ := rx
  obtain ⟨t', rfl⟩ := ry
  exact iadd_str (fun t' tk => ⟨.str (i ++ j), H, I.tok _, ⟨_, rfl⟩, q⟩) hz
theorem op_add_byt : OpR X (binaryOp .Add) (fun x y H Q => ∃ i j, x = .byt i ∧ y = .byt j ∧ i.size + j.size ≤ 16777216 ∧ Q (.byt (i ++ j)) H) := by
  intro pins s σ H x y v u Q I rx ry h
  obtain ⟨i, j, rfl, rfl, hz, q⟩ := h
  obtain ⟨t, rfl⟩ := rx
  obtain ⟨t', rfl⟩ := ry
  exact PySem.W.KBy.add_bytes hz (fun t' tk => ⟨.byt (i ++ j), H, I.tok _, ⟨_, rfl⟩, q⟩)

def PlainIxT (b : Expr) : Prop := ∀ o i, subscripted b false o i = operate [o, i] (getItem o i)
/-- s[i], 0 ≤ i < len -/
theorem pe_item_str (ha : PE X a ta) (hb : PE X b tb) (hs : PlainIxT b) :
    PE X (.Subscript a b pos) (tOp (fun x y H Q => ∃ z i c, x = .str z ∧ y = .int i ∧ 0 ≤ i ∧ i < 2 ^ 63 ∧ i < z.length ∧ z.cps[i.toNat]? = some c ∧ Q (.str ⟨#[c]⟩) H) ta tb) := by
  intro pins s σ H Q I h
  refine Subscript_ (binT ha hb I h fun v u s2 x y H2 I2 rx ry q => ?_)
  obtain ⟨z, i, c, rfl, rfl, h0, h63, h1, hc, q⟩ := q
  obtain ⟨t, rfl⟩ := rx
  obtain ⟨t', rfl⟩ := ry
  have e : seqIndex? i z.length = some i.toNat := PySem.StrLaws.seqIndex_nonneg h0 h1
  exact tail_any (typeIs_str s2 z t) slot_str_getitem.lookup (getItem_str (c := c) (by
    have e1 : decide (i < -(2 ^ 63 : Int)) = false := decide_eq_false (by omega)
    have e2 : decide (i ≥ 2 ^ 63) = false := decide_eq_false (by omega)
    rw [e1, e2] <;> rfl) (by rw [e]; exact hc) ⟨.str ⟨#[c]⟩, H2, I2.tok _, ⟨_, rfl⟩, q⟩) (hs _ _)
/-- b[i], 0 ≤ i < len -/
theorem pe_item_byt (ha : PE X a ta) (hb : PE X b tb) (hs : PlainIxT b) :
    PE X (.Subscript a b pos) (tOp (fun x y H Q => ∃ (z : List UInt8) (i : Int), x = .byt z.toArray ∧ y = .int i ∧ z.length ≤ sizeLine ∧ 0 ≤ i ∧ i < z.length ∧ Q (.int ((z.getD i.toNat 0).toNat : Nat)) H) ta tb) := by
  intro pins s σ H Q I h
  refine Subscript_ (binT ha hb I h fun v u s2 x y H2 I2 rx ry q => ?_)
  obtain ⟨z, i, rfl, rfl, hz, h0, h1, q⟩ := q
  obtain ⟨t, rfl⟩ := rx
  obtain ⟨t', rfl⟩ := ry
  have hl : sizeLine = 16777216 := sizeLine_eq
  exact tail_any (PySem.W.typeIs_bytes s2 z.toArray t) PySem.W.FB.slot_bytes_getitem.lookup (PySem.W.getItem_bytes (by omega) h0 h1 ⟨.int ((z.getD i.toNat 0).toNat : Nat), H2, I2.tok _, ⟨_, rfl⟩, q⟩) (hs _ _)

/-! ### scalar builtins, by CallR -/
theorem vals1 {x : V} {us : List Value} (r : Vals [x] us) : ∃ u, us = [u] ∧ RelV x u := by
  cases r with
  | cons r1 r2 => cases r2; exact ⟨_, rfl, r1⟩
theorem vals2 {x y : V} {us : List Value} (r : Vals [x, y] us) : ∃ u w', us = [u, w'] ∧ RelV x u ∧ RelV y w' := by
  cases r with
  | cons r1 r2 =>
    cases r2 with
    | cons r3 r4 => cases r4; exact ⟨_, _, rfl, r1, r3⟩
theorem call_abs : CallR X (.builtin "abs") (fun xs H Q => ∃ i, xs = [.int i] ∧ Q (.int (if i < 0 then -i else i)) H) := by
  intro pins s σ H xs us Q I r h
  obtain ⟨i, rfl, q⟩ := h
  obtain ⟨u, rfl, t, rfl⟩ := vals1 r
  exact call_abs_int fun u tk => ⟨.int (if i < 0 then -i else i), H, I.tok _, ⟨_, rfl⟩, q⟩
theorem call_max2 (hc : X.calm = true) : CallR X (.builtin "max") (fun xs H Q => ∃ i j, xs = [.int i, .int j] ∧ Q (.int (if j > i then j else i)) H) := by
  intro pins s σ H xs us Q I r h
  obtain ⟨i, j, rfl, q⟩ := h
  obtain ⟨u, w', rfl, ⟨t, rfl⟩, ⟨t', rfl⟩⟩ := vals2 r
  refine max_two_ints (I.ok.hd hc) fun h' tk k => ⟨_, H, I.kept k, ?_, q⟩
  by_cases hj : j > i
  · rw [if_pos hj, if_pos hj]; exact ⟨_, rfl⟩
  · rw [if_neg hj, if_neg hj]; exact ⟨_, rfl⟩
theorem call_min2 (hc : X.calm = true) : CallR X (.builtin "min") (fun xs H Q => ∃ i j, xs = [.int i, .int j] ∧ Q (.int (if j < i then j else i)) H) := by
  intro pins s σ H xs us Q I r h
  obtain ⟨i, j, rfl, q⟩ := h
  obtain ⟨u, w', rfl, ⟨t, rfl⟩, ⟨t', rfl⟩⟩ := vals2 r
  refine min_two_ints (I.ok.hd hc) fun h' tk k => ⟨_, H, I.kept k, ?_, q⟩
  by_cases hj : j < i
  · rw [if_pos hj, if_pos hj]; exact ⟨_, rfl⟩
  · rw [if_neg hj, if_neg hj]; exact ⟨_, rfl⟩
theorem call_int1 : CallR X (.type "int") (fun xs H Q => (∃ i, xs = [.int i] ∧ Q (.int i) H) ∨ ∃ k, xs = [.bl k] ∧ Q (.int (if k then 1 else 0)) H) := by
  intro pins s σ H xs us Q I r h
  rcases h with ⟨i, rfl, q⟩ | ⟨k, rfl, q⟩
  · obtain ⟨u, rfl, t, rfl⟩ := vals1 r
    exact call_int_int ⟨.int i, H, I, ⟨_, rfl⟩, q⟩
  · obtain ⟨u, rfl, r1⟩ := vals1 r
    cases r1
    exact call_int_bool ⟨.int (if k then 1 else 0), H, I.tok _, ⟨_, rfl⟩, q⟩
theorem call_bool1 : CallR X (.type "bool") (fun xs H Q => (∃ i, xs = [.int i] ∧ Q (.bl (i != 0)) H) ∨ ∃ k, xs = [.bl k] ∧ Q (.bl k) H) := by
  intro pins s σ H xs us Q I r h
  rcases h with ⟨i, rfl, q⟩ | ⟨k, rfl, q⟩
  · obtain ⟨u, rfl, t, rfl⟩ := vals1 r
    exact call_bool_int ⟨.bl (i != 0), H, I, rfl, q⟩
  · obtain ⟨u, rfl, r1⟩ := vals1 r
    cases r1
    exact call_bool_bool ⟨.bl k, H, I, rfl, q⟩
theorem call_str_int : CallR X (.type "str") (fun xs H Q => ∃ i, xs = [.int i] ∧ i.natAbs.log2 < 1920 ∧ Q (.str (toString i)) H) := by
  intro pins s σ H xs us Q I r h
  obtain ⟨i, rfl, hz, q⟩ := h
  obtain ⟨u, rfl, t, rfl⟩ := vals1 r
  exact PySem.P.str_of_int hz ⟨.str _, H, I.tok _, ⟨_, rfl⟩, q⟩
theorem call_ord : CallR X (.builtin "ord") (fun xs H Q => ∃ x, xs = [.str x] ∧ x.length = 1 ∧ Q (.int (x.cps.getD 0 0 : Nat)) H) := by
  intro pins s σ H xs us Q I r h
  obtain ⟨x, rfl, hz, q⟩ := h
  obtain ⟨u, rfl, t, rfl⟩ := vals1 r
  exact ord_of_one hz ⟨.int _, H, I.tok _, ⟨_, rfl⟩, q⟩
theorem call_chr : CallR X (.builtin "chr") (fun xs H Q => ∃ i, xs = [.int i] ∧ 0 ≤ i ∧ i ≤ 1114111 ∧ Q (.str ⟨#[i.toNat]⟩) H) := by
  intro pins s σ H xs us Q I r h
  obtain ⟨i, rfl, h0, h1, q⟩ := h
  obtain ⟨u, rfl, t, rfl⟩ := vals1 r
  exact chr_of_range h0 h1 ⟨.str _, H, I.tok _, ⟨_, rfl⟩, q⟩
/-- len of a str, a bytes, a list, a tuple -/
def LenV (K : PySem.W.Frag) (x : V) (H : Hp) (n : Nat) : Prop :=
  match x with
  | .str y => y.length ≤ sizeLine ∧ n = y.length
  | .byt y => y.size ≤ sizeLine ∧ n = y.size
  | .ref p => (∃ xs, SqL K H p xs ∧ n = xs.length) ∨ ∃ xs, SqT K H p xs ∧ n = xs.length
  | _ => False
theorem call_len : CallR X (.builtin "len") (fun xs H Q => ∃ x n, xs = [x] ∧ LenV X.K x H n ∧ Q (.int n) H) := by
  intro pins s σ H xs us Q I r h
  obtain ⟨x, n, rfl, e, q⟩ := h
  obtain ⟨u, rfl, rx⟩ := vals1 r
  have hl := line63
  have hs : sizeLine = 16777216 := sizeLine_eq
  cases x with
  | str y =>
    obtain ⟨t, rfl⟩ := rx
    obtain ⟨hy, e'⟩ : y.length ≤ sizeLine ∧ n = y.length := e
    subst e'
    exact len_str (by omega) ⟨.int _, H, I.tok _, ⟨_, rfl⟩, q⟩
  | byt y =>
    obtain ⟨t, rfl⟩ := rx
    obtain ⟨hy, e'⟩ : y.size ≤ sizeLine ∧ n = y.size := e
    subst e'
    exact PySem.W.len_bytes (by omega) ⟨.int _, H, I.tok _, ⟨_, rfl⟩, q⟩
  | ref p =>
    cases rx
    have e' : (∃ xs, SqL X.K H p xs ∧ n = xs.length) ∨ ∃ xs, SqT X.K H p xs ∧ n = xs.length := e
    rcases e' with ⟨xs, hx, e'⟩ | ⟨xs, hx, e'⟩
    · subst e'
      obtain ⟨its, r', pl, hz⟩ := I.list hx
      have hlen := r'.length
      exact Calls.call_len_list pl.isList (by simp only [List.size_toArray]; omega) ⟨.int xs.length, H, I.tok _, ⟨_, by simp only [List.size_toArray]; rw [hlen]⟩, q⟩
    · subst e'
      obtain ⟨its, r', pl, hz⟩ := I.tuple hx
      have hlen := r'.length
      exact len_tuple pl (by simp only [List.size_toArray]; omega) ⟨.int xs.length, H, I.tok _, ⟨_, by simp only [List.size_toArray]; rw [hlen]⟩, q⟩
  | _ => exact (show False from e).elim
/-- divmod: a new tuple -/
theorem call_divmod : CallR X (.builtin "divmod") (fun xs H Q => ∃ i j, xs = [.int i, .int j] ∧ CDiv i j ∧ ∀ p, H p = none → Q (.ref p) (upd H p (.tup [.int (i / j), .int (i % j)]))) := by
  intro pins s σ H xs us Q I r h
  obtain ⟨i, j, rfl, ⟨h1, h2⟩, q⟩ := h
  obtain ⟨u, w', rfl, ⟨t, rfl⟩, ⟨t', rfl⟩⟩ := vals2 r
  refine divmod_int (by omega) ?_ (.inl (PyProof.noPylong_small (by omega)))
  rw [Int.fdiv_eq_ediv_of_nonneg i (by omega), Int.fmod_eq_emod_of_nonneg i (by omega)]
  have hn : H s.heap.objs.size = none := I.hok.fresh (Nat.le_refl _)
  refine ⟨.ref s.heap.objs.size, _, ?_, rfl, q _ hn⟩
  refine I.laid (fun b o e => Heap.get?_push_of_some _ e) (Nat.le_refl _) ⟨by simp only [List.length_cons, List.length_nil]; rw [sizeLine_eq]; decide, [.int (i / j) s.toks, .int (i % j) (s.toks + 1)], .cons ⟨_, rfl⟩ (.cons ⟨_, rfl⟩ .nil), ?_⟩
  exact ⟨_, Heap.get?_push_size s.heap rfl, rfl, 0, rfl⟩
end
end L2

namespace L2
open PySem PySem.Spec PyProof.Rows

/-! ### an instance, its attributes a map -/
structure ObjM (h : Heap) (x dx C : Addr) (mA : Str → Option Value) : Prop where
  obj : h.get? x = some (PySem.W.instObj C dx)
  ns : h.Ns1 dx mA
  ne : dx ≠ x

theorem lookIn_ns {h : Heap} {dx : Addr} {mA : Str → Option Value} (n : h.Ns1 dx mA) : ∃ od, h.get? dx = some od ∧ ∀ name, PySem.W.lookIn name od = some (mA name) := by
  obtain ⟨o, es, ep, ho, hd, hk, _, hm⟩ := n
  refine ⟨o, ho, fun name => ?_⟩
  have e := hm name
  unfold nsFind findBy at e
  rw [← Array.find?_toList] at e
  unfold PySem.W.lookIn
  rw [hd]
  dsimp only
  split
  · rename_i y q
    rw [q] at e
    exact congrArg some e
  · rename_i q
    rw [q] at e
    have a : es.toList.any (·.refKey) = false := by
      rw [List.any_eq_false]
      intro y hy
      obtain ⟨z, t, hkey⟩ := hk y (Array.mem_toList_iff.mp hy)
      simp [DictEntry.refKey, hkey]
    have a' : ¬ es.toList.any (·.refKey) = true := by rw [a]; exact Bool.false_ne_true
    rw [if_neg a']
    exact congrArg some e

theorem ObjM.look {h : Heap} {x dx C : Addr} {mA : Str → Option Value} (I : ObjM h x dx C mA) : ∃ od, PySem.W.InstAt h x (PySem.W.instObj C dx) C (some od) ∧ ∀ name, PySem.W.lookIn name od = some (mA name) :=
  let ⟨od, ho, hl⟩ := lookIn_ns I.ns
  ⟨od, ⟨I.obj, rfl, rfl, ho⟩, hl⟩

section
variable {prog : Program} {w : World} {A : Around} {E : Value → Shared → Prop} {s : Shared} {K : PySem.W.Frag} {x dx C f : Addr} {mA : Str → Option Value} {name : Str} {v : Value}

theorem get_map {expr : Bool} {Q : Value → Shared → Prop} (X : K.In s.heap) (I : ObjM s.heap x dx C mA) (hg : PySem.W.plainGet K C name = true) (hh : PySem.W.hasDictIn K C = true)
    (ha : PySem.W.findIn K (.ref C) name = some none) (hv : mA name = some v) (hv' : PySem.W.handedIn v = true) (h : Q v { s with toks := s.toks + 1 }) :
    wpAny (model prog w) A (getAttr (.ref x) name expr) Q E s := by
  obtain ⟨od, J, hl⟩ := I.look
  exact PySem.W.get_value X J (PySem.W.plainGet_of hg).1 (PySem.W.findObj_own hh ha rfl (by rw [hl, hv])) hv' h

theorem get_const {expr : Bool} {a : Value} {Q : Value → Shared → Prop} (X : K.In s.heap) (I : ObjM s.heap x dx C mA) (hg : PySem.W.plainGet K C name = true) (hh : PySem.W.hasDictIn K C = true)
    (ha : PySem.W.findIn K (.ref C) name = some (some a)) (hn : PySem.W.specialIn K a "__get__" = some none) (hc : PySem.W.copiedNames.contains name = false) (hv : mA name = none) (hv' : PySem.W.handedIn a = true)
    (h : Q a { s with toks := s.toks + 1 }) : wpAny (model prog w) A (getAttr (.ref x) name expr) Q E s := by
  obtain ⟨od, J, hl⟩ := I.look
  exact PySem.W.get_value X J (PySem.W.plainGet_of hg).1 (PySem.W.findObj_cls hh ha hn hv' hc (by rw [hl, hv])) hv' h

theorem get_meth {pl : Sem Bool} {Q : Value × List Value → Shared → Prop} (X : K.In s.heap) (I : ObjM s.heap x dx C mA) (hg : PySem.W.plainGet K C name = true)
    (hf : PySem.W.findIn K (.ref C) name = some (some (.ref f))) (ht : PySem.W.isFn K (.ref f) = true) (hv : mA name = none) (h : Q (.ref f, [.ref x]) s) :
    wpAny (model prog w) A (getMethod (.ref x) name pl) Q E s := by
  obtain ⟨od, J, hl⟩ := I.look
  exact PySem.W.method_fn X J (PySem.W.plainGet_of hg).1 (PySem.W.plainGet_of hg).2 hf (beq_iff_eq.mp ht) (by show (PySem.W.lookIn name od).map (·.isSome) = some false; rw [hl, hv]; rfl) h

theorem set_map {ns : List Str} {Q : Unit → Shared → Prop} (X : K.In s.heap) (I : ObjM s.heap x dx C mA)
    (hs : PySem.W.findIn K (.ref C) "__setattr__" = some (some (.builtin "object.__setattr__"))) (hp : PySem.W.plainOver K C = true) (ht : PySem.W.takerIn K C name = some none) (hh : PySem.W.hasDictIn K C = true)
    (hw : PySem.Within mA ns) (hsz : ns.length ≤ sizeLine)
    (h : ∀ h', ObjM h' x dx C (fun y => if y = name then some v else mA y) → Heap.SameBut dx s.heap h' → Q () { s with heap := h', toks := s.toks + 2 }) :
    wpAny (model prog w) A (setAttr (.ref x) name v) Q E s := by
  obtain ⟨od, J, hl⟩ := I.look
  refine PySem.W.set_plain X J hs (PySem.W.osa_open (s := { s with toks := s.toks + 1 }) (r := none) X J hp ht fun b => ?_)
  obtain ⟨cd, hc, hd'⟩ := PySem.W.any_some hh
  have hx : s.heap.get? x = some ⟨.ref C, some dx, .plain, #[]⟩ := I.obj
  refine wpAny_bind (wpAny_pure (wpAny_bind (wpAny_bind (wpAny_loadPart hx (wpAny_bind (PySem.W.Looks.here (s := { s with toks := s.toks + 1 }) (PySem.W.looks_clsIn X hc) ?_))))))
  rw [hd']
  refine wpAny_pure (a := some dx) (wpAny_bind (wpAny_pure (wpAny_bind ?_)))
  refine wpAny_nsSet1 (s := { s with toks := s.toks + 1 }) I.ns fun h' hn2 hs2 => ?_
  obtain ⟨oD, esD, epD, hoD, hdD, hcD⟩ := hn2.count (PySem.Within.cons name v hw)
  refine wpAny_bind (wpAny_lookBehind hoD (by rw [hdD]; exact pastItsLine_dict (Nat.le_trans hcD (by rw [List.length_cons]; omega))) ?_)
  exact wpAny_pure (h _ ⟨(hs2.2 _ (Ne.symm I.ne)).trans I.obj, hn2, I.ne⟩ hs2)

/-- C(..): the dict at the heap's end, the instance behind it; then its __init__ -/
theorem make_map {R : Result → Shared → Prop} {vs : List Value} {kw : List (Str × Value)} (X : K.In s.heap) (hm : PySem.W.makesIn K C = true)
    (hi : PySem.W.findIn K (.ref C) "__init__" = some (some (.ref f))) (hf : PySem.W.typeIn K (.ref f) = some (.type "function"))
    (h : codeAny (model prog w) (A.under (.builtin "type.__call__" ⟨.ref C :: vs, kw⟩)) (.call (.ref f) ⟨.ref (s.heap.objs.size + 1) :: vs, kw⟩) (PySem.W.InitBack (s.heap.objs.size + 1) R)
      { s with heap := (s.heap.push PySem.W.emptyDict).push (PySem.W.instObj C s.heap.objs.size) }) :
    codeAny (model prog w) A (.call (.ref C) ⟨vs, kw⟩) R s := by
  obtain ⟨hh, g, d, t, os⟩ := s
  exact PySem.W.make_core (PySem.W.makes_of X hm) (PySem.W.looks_findIn X hi) (fun self => PySem.W.bind_fn X self hf) (.inl rfl) h
/-- C() where there is no __init__ but object's -/
theorem make_map0 {R : Result → Shared → Prop} (X : K.In s.heap) (hm : PySem.W.makesIn K C = true)
    (hi : PySem.W.findIn K (.ref C) "__init__" = some (some (.builtin "object.__init__")))
    (hb : ∀ self, PySem.W.Looks (model prog w) s.heap (bindSpecial (.builtin "object.__init__") self) (.builtin "object.__init__", [self]))
    (h : codeAny (model prog w) (A.under (.builtin "type.__call__" ⟨[.ref C], []⟩)) (.call (.builtin "object.__init__") ⟨[.ref (s.heap.objs.size + 1)], []⟩) (PySem.W.InitBack (s.heap.objs.size + 1) R)
      { s with heap := (s.heap.push PySem.W.emptyDict).push (PySem.W.instObj C s.heap.objs.size) }) :
    codeAny (model prog w) A (.call (.ref C) ⟨[], []⟩) R s := by
  obtain ⟨hh, g, d, t, os⟩ := s
  exact PySem.W.make_core (PySem.W.makes_of X hm) (PySem.W.looks_findIn X hi) hb (.inr ⟨rfl, rfl⟩) h
end

/-! ### the attributes as a list of pairs -/
def putF (f : Str) (v : V) : List (Str × V) → List (Str × V)
  | [] => [(f, v)]
  | (g, x) :: r => if g = f then (g, v) :: r else (g, x) :: putF f v r
theorem lookup_putF (f g : Str) (v : V) : ∀ fs : List (Str × V), (putF f v fs).lookup g = if g = f then some v else fs.lookup g
  | [] => by
    show List.lookup g [(f, v)] = _
    by_cases h : g = f
    · have hb : (g == f) = true := beq_iff_eq.mpr h
      simp only [List.lookup, hb, if_pos h]
    · have hb : (g == f) = false := beq_eq_false_iff_ne.mpr h
      simp only [List.lookup, hb, if_neg h]
  | (k, x) :: r => by
    have ih := lookup_putF f g v r
    rw [show putF f v ((k, x) :: r) = (if k = f then (k, v) :: r else (k, x) :: putF f v r) from rfl]
    by_cases hk : k = f
    · rw [if_pos hk]
      by_cases h : g = k
      · have hb : (g == k) = true := beq_iff_eq.mpr h
        simp only [List.lookup, hb, if_pos (h.trans hk)]
      · have hb : (g == k) = false := beq_eq_false_iff_ne.mpr h
        simp only [List.lookup, hb, if_neg (fun e : g = f => h (e.trans hk.symm))]
    · rw [if_neg hk]
      by_cases h : g = k
      · have hb : (g == k) = true := beq_iff_eq.mpr h
        simp only [List.lookup, hb, if_neg (fun e : g = f => hk (h.symm.trans e))]
      · have hb : (g == k) = false := beq_eq_false_iff_ne.mpr h
        simp only [List.lookup, hb]
        exact ih
theorem keys_putF (f : Str) (v : V) : ∀ fs : List (Str × V), f ∈ (putF f v fs).map (·.1) ∧ ∀ g, g ∈ fs.map (·.1) → g ∈ (putF f v fs).map (·.1)
  | [] => ⟨by simp [putF], fun g h => by simp at h⟩
  | (k, x) :: r => by
    obtain ⟨i1, i2⟩ := keys_putF f v r
    rw [show putF f v ((k, x) :: r) = (if k = f then (k, v) :: r else (k, x) :: putF f v r) from rfl]
    by_cases hk : k = f
    · rw [if_pos hk]
      subst hk
      exact ⟨by simp, fun g h => by simpa using h⟩
    · rw [if_neg hk]
      refine ⟨?_, fun g h => ?_⟩
      · rw [List.map_cons]
        exact List.mem_cons_of_mem _ i1
      · rw [List.map_cons] at h ⊢
        rcases List.mem_cons.mp h with e | e
        · exact List.mem_cons.mpr (.inl e)
        · exact List.mem_cons_of_mem _ (i2 g e)
theorem length_putF (f : Str) (v : V) : ∀ fs : List (Str × V), (putF f v fs).length ≤ fs.length + 1
  | [] => by simp [putF]
  | (k, x) :: r => by
    have ih := length_putF f v r
    rw [show putF f v ((k, x) :: r) = (if k = f then (k, v) :: r else (k, x) :: putF f v r) from rfl]
    by_cases hk : k = f
    · rw [if_pos hk, List.length_cons, List.length_cons]; omega
    · rw [if_neg hk, List.length_cons, List.length_cons]; omega

theorem RelO.some_of {v : V} {o : Option Value} (r : RelO (some v) o) : ∃ u, o = some u ∧ RelV v u := by
  cases o with
  | none => exact (show False from r).elim
  | some u => exact ⟨u, rfl, r⟩
theorem RelO.none_of {o : Option Value} (r : RelO none o) : o = none := by
  cases o with
  | none => rfl
  | some u => exact (show False from r).elim
theorem handed_of {v : V} {u : Value} (r : RelV v u) : PySem.W.handedIn u = true := by
  cases v with
  | non => cases (show u = Value.none from r); rfl
  | bl b => cases (show u = Value.bool b from r); rfl
  | int i => obtain ⟨t, e⟩ := (show ∃ t, u = Value.int i t from r); cases e; rfl
  | str x => obtain ⟨t, e⟩ := (show ∃ t, u = Value.str x t from r); cases e; rfl
  | byt b => obtain ⟨t, e⟩ := (show ∃ t, u = Value.bytes b t from r); cases e; rfl
  | flt b => obtain ⟨t, e⟩ := (show ∃ t, u = Value.float b t from r); cases e; rfl
  | ref a => cases (show u = Value.ref a from r); rfl
  | ty n => cases (show u = Value.type n from r); rfl

section
variable {P : Program} {w : World} {H H' : Hp} {h h' : Heap} {a C dx : Addr} {fs fs' : List (Str × V)}
theorem ins_get (hok : HOk P w H h) (e : H a = some (.ins C dx fs)) : ∃ mA, ObjM h a dx C mA ∧ (∀ f, RelO (fs.lookup f) (mA f)) ∧ PySem.Within mA (fs.map (·.1)) ∧ fs.length ≤ 1000 ∧ H dx = some (.own a) := by
  obtain ⟨d, z, ne, ob, mA, n, r, q⟩ := (show ObjOk P w H h a (.ins C dx fs) from hok a _ e)
  exact ⟨mA, ⟨ob, n, ne⟩, r, q, z, d⟩
end

/-! ### what of the text a class must have -/
structure Cls (K : PySem.W.Frag) (C : Addr) : Prop where
  pg : PySem.W.plainGet K C Str.empty = true
  hd : PySem.W.hasDictIn K C = true
  po : PySem.W.plainOver K C = true
  sa : PySem.W.findIn K (.ref C) "__setattr__" = some (some (.builtin "object.__setattr__"))
theorem Cls.get {K : PySem.W.Frag} {C : Addr} (c : Cls K C) (f : Str) : PySem.W.plainGet K C f = true := c.pg
/-- no class of it has the name -/
def NoAttr (K : PySem.W.Frag) (C : Addr) (f : Str) : Prop := PySem.W.findIn K (.ref C) f = some none
theorem NoAttr.taker {K : PySem.W.Frag} {C : Addr} {f : Str} (n : NoAttr K C f) : PySem.W.takerIn K C f = some none := by
  unfold PySem.W.takerIn
  rw [show PySem.W.findIn K (.ref C) f = some none from n]
  rfl
/-- a constant of the class -/
structure Con (K : PySem.W.Frag) (C : Addr) (f : Str) (v : V) (u : Value) : Prop where
  at_ : PySem.W.findIn K (.ref C) f = some (some u)
  rel : RelV v u
  get : PySem.W.specialIn K u "__get__" = some none
  cp : PySem.W.copiedNames.contains f = false
/-- a method: a plain def of the class or of one above it -/
structure Meth (K : PySem.W.Frag) (C : Addr) (m : Str) (f : Addr) : Prop where
  at_ : PySem.W.findIn K (.ref C) m = some (some (.ref f))
  fn : PySem.W.isFn K (.ref f) = true
  kp : PySem.W.keepIn K (.ref f) = true

section
variable {X : Cx} {pins : List (Addr × Obj)} {σ : St} {H : Hp} {s : Shared} {a C dx : Addr} {fs : List (Str × V)} {f : Str} {v : V} {A : Around} {E : Value → Shared → Prop}

theorem getattr_ok {b : Bool} {Q : Value → Shared → Prop} (I : Inv X pins σ H s) (e : H a = some (.ins C dx fs)) (c : Cls X.K C) (n : NoAttr X.K C f) (l : fs.lookup f = some v)
    (h : ∀ u s', Inv X pins σ H s' → RelV v u → Q u s') : wpAny (model X.prog X.w) A (getAttr (.ref a) f b) Q E s := by
  obtain ⟨mA, O, r, _, _, _⟩ := ins_get I.hok e
  obtain ⟨u, hu, ru⟩ := RelO.some_of (v := v) (o := mA f) (by rw [← l]; exact r f)
  exact get_map I.kIn O (c.get f) c.hd n hu (handed_of ru) (h u _ (I.tok _) ru)

theorem getcon_ok {b : Bool} {u : Value} {Q : Value → Shared → Prop} (I : Inv X pins σ H s) (e : H a = some (.ins C dx fs)) (c : Cls X.K C) (k : Con X.K C f v u) (l : fs.lookup f = none)
    (h : ∀ s', Inv X pins σ H s' → Q u s') : wpAny (model X.prog X.w) A (getAttr (.ref a) f b) Q E s := by
  obtain ⟨mA, O, r, _, _, _⟩ := ins_get I.hok e
  have hn : mA f = none := RelO.none_of (by rw [← l]; exact r f)
  exact get_const I.kIn O (c.get f) c.hd k.at_ k.get k.cp hn (handed_of k.rel) (h _ (I.tok _))

theorem getmeth_ok {m : Str} {g : Addr} {pl : Sem Bool} {Q : Value × List Value → Shared → Prop} (I : Inv X pins σ H s) (e : H a = some (.ins C dx fs)) (c : Cls X.K C) (k : Meth X.K C m g) (l : fs.lookup m = none)
    (h : Q (.ref g, [.ref a]) s) : wpAny (model X.prog X.w) A (getMethod (.ref a) m pl) Q E s := by
  obtain ⟨mA, O, r, _, _, _⟩ := ins_get I.hok e
  have hn : mA m = none := RelO.none_of (by rw [← l]; exact r m)
  exact get_meth I.kIn O (c.get m) k.at_ k.fn hn h

theorem setattr_ok {y : V} {u : Value} {Q : Unit → Shared → Prop} (I : Inv X pins σ H s) (e : H a = some (.ins C dx fs)) (c : Cls X.K C) (n : NoAttr X.K C f) (hl : fs.length < 1000) (ry : RelV y u)
    (h : ∀ s', Inv X pins σ (upd H a (.ins C dx (putF f y fs))) s' → Q () s') : wpAny (model X.prog X.w) A (setAttr (.ref a) f u) Q E s := by
  obtain ⟨mA, O, r, wi, _, ho⟩ := ins_get I.hok e
  have hz : (fs.map (·.1)).length ≤ sizeLine := by rw [List.length_map, sizeLine_eq]; omega
  refine set_map I.kIn O c.sa c.po n.taker c.hd wi hz fun h' O' sb => h _ ?_
  have hd : ∃ o, h'.get? dx = some o := let ⟨o, _, _, e', _⟩ := O'.ns; ⟨o, e'⟩
  refine I.write (x := a) (e := dx) (by rw [e]; exact True.intro) (.inr ho) (fun b q hb z => (sb.2 b hb).trans z) hd ?_
  refine ⟨by rw [upd_ne O.ne]; exact ho, ?_, O.ne, O'.obj, _, O'.ns, fun g => ?_, fun g hg => ?_⟩
  · have := length_putF f y fs; omega
  · show RelO ((putF f y fs).lookup g) (if g = f then some u else mA g)
    rw [lookup_putF]
    by_cases q : g = f
    · rw [if_pos q, if_pos q]; exact ry
    · rw [if_neg q, if_neg q]; exact r g
  · by_cases q : g = f
    · rw [q]; exact (keys_putF f y fs).1
    · refine (keys_putF f y fs).2 g (wi g fun z => hg ?_)
      show (if g = f then some u else mA g) = none
      rw [if_neg q]; exact z

/-- a new instance, tracked, without attributes -/
theorem Inv.made (I : Inv X pins σ H s) : Inv X pins σ (upd (upd H s.heap.objs.size (.own (s.heap.objs.size + 1))) (s.heap.objs.size + 1) (.ins C s.heap.objs.size []))
    { s with heap := (s.heap.push PySem.W.emptyDict).push (PySem.W.instObj C s.heap.objs.size) } := by
  have e1 : (s.heap.push PySem.W.emptyDict).get? s.heap.objs.size = some PySem.W.emptyDict := Heap.get?_push_size s.heap rfl
  have e2 : ((s.heap.push PySem.W.emptyDict).push (PySem.W.instObj C s.heap.objs.size)).get? (s.heap.objs.size + 1) = some (PySem.W.instObj C s.heap.objs.size) := by
    have := Heap.get?_push_size (s.heap.push PySem.W.emptyDict) (o := PySem.W.instObj C s.heap.objs.size) rfl
    rwa [Heap.size_push] at this
  have e3 : (s.heap.push PySem.W.emptyDict).Ns s.heap.objs.size (fun _ => none) := ⟨PySem.W.emptyDict, #[], _, e1, rfl, (fun e he => absurd he (by simp)), fun _ => rfl⟩
  have I1 := I.laid (a := s.heap.objs.size) (o := .own (s.heap.objs.size + 1)) (h' := s.heap.push PySem.W.emptyDict) (t' := s.toks) (fun b u q => Heap.get?_push_of_some _ q) (Nat.le_refl _) ⟨_, e1⟩
  refine I1.laid (a := s.heap.objs.size + 1) (o := .ins C s.heap.objs.size []) (t' := s.toks) (fun b u q => Heap.get?_push_of_some _ q) (Nat.le_of_eq (Heap.size_push _ _)) ?_
  have ne : s.heap.objs.size ≠ s.heap.objs.size + 1 := Nat.ne_of_lt (Nat.lt_succ_self _)
  refine ⟨by rw [upd_ne ne, upd_same], Nat.zero_le _, ne, e2, fun _ => none, (Heap.Ns1.of_empty e3).at fun o q => Heap.get?_push_of_some _ q, fun _ => True.intro, fun y hy => absurd rfl hy⟩

/-- e.f where nothing but the object is asked: through attributeBase (super) and the last hold -/
theorem attr_of {prog : Program} {w : World} {env : Env} {e : Expr} {f : Str} {pos : Pos} {s : Shared} {Q : Value → Shared → Prop} (hb : attributeBase e f env (eval e env) = eval e env)
    (h : wpAny (model prog w) A (eval e env) (fun o s₁ => wpAny (model prog w) A (getAttr o f true) Q E s₁) E s) : wpAny (model prog w) A (eval (.Attribute e f pos) env) Q E s :=
  Attribute_any_ h (by rw [arm_eval_Attribute, hb])
end

/-! ### readings and rules -/
/-- e.f, an attribute of the instance -/
def tFld (K : PySem.W.Frag) (ta : TE) (f : Str) : TE := fun σ H Q => ta σ H fun x H1 => ∃ a C dx fs v, x = .ref a ∧ H1 a = some (.ins C dx fs) ∧ Cls K C ∧ NoAttr K C f ∧ fs.lookup f = some v ∧ Q v H1
/-- e.f, a constant of the class -/
def tCon (K : PySem.W.Frag) (ta : TE) (f : Str) : TE := fun σ H Q => ta σ H fun x H1 => ∃ a C dx fs v u, x = .ref a ∧ H1 a = some (.ins C dx fs) ∧ Cls K C ∧ Con K C f v u ∧ fs.lookup f = none ∧ Q v H1
/-- e.f = value -/
def sFld (K : PySem.W.Frag) (ta tv : TE) (f : Str) : TS := fun D σ H => tv σ H fun y H1 => ta σ H1 fun x H2 => ∃ a C dx fs, x = .ref a ∧ H2 a = some (.ins C dx fs) ∧ Cls K C ∧ NoAttr K C f ∧ fs.length < 1000 ∧
  D.nx σ (upd H2 a (.ins C dx (putF f y fs)))
/-- an augmented operator on two values -/
def InOp (X : Cx) (op : Operator) (rd : V → V → Hp → VK → Prop) : Prop :=
  ∀ (pins : List (Addr × Obj)) (s : Shared) (σ : St) (H : Hp) (x y : V) (u v : Value) (Q : VK), Inv X pins σ H s → RelV x u → RelV y v → rd x y H Q → wpAny (model X.prog X.w) X.A (inplaceOp op u v) (EP X pins σ Q) X.xe s
/-- e.f op= value -/
def sFldAug (K : PySem.W.Frag) (ta tv : TE) (rd : V → V → Hp → VK → Prop) (f : Str) : TS := fun D σ H => ta σ H fun x H1 => ∃ a C dx fs v, x = .ref a ∧ H1 a = some (.ins C dx fs) ∧ Cls K C ∧ NoAttr K C f ∧ fs.lookup f = some v ∧
  tv σ H1 fun y H2 => rd v y H2 fun z H3 => ∃ dx' fs', H3 a = some (.ins C dx' fs') ∧ fs'.length < 1000 ∧ D.nx σ (upd H3 a (.ins C dx' (putF f z fs')))

section
variable {X : Cx} {o e value : Expr} {f : Str} {pos pos' tpos : Pos} {ta tv : TE}
theorem pe_fld (he : PE X e ta) (hb : attributeBase e f X.env (eval e X.env) = eval e X.env) : PE X (.Attribute e f pos) (tFld X.K ta f) := by
  intro pins s σ H Q I h
  refine attr_of hb (thn (he pins s σ H _ I h) fun u s1 ⟨x, H1, I1, rx, a, C, dx, fs, v, ex, ea, c, n, l, q⟩ => ?_)
  subst ex
  obtain rfl : u = Value.ref a := rx
  exact getattr_ok I1 ea c n l fun u' s2 I2 ru => ⟨v, H1, I2, ru, q⟩
theorem pe_con (he : PE X e ta) (hb : attributeBase e f X.env (eval e X.env) = eval e X.env) : PE X (.Attribute e f pos) (tCon X.K ta f) := by
  intro pins s σ H Q I h
  refine attr_of hb (thn (he pins s σ H _ I h) fun u s1 ⟨x, H1, I1, rx, a, C, dx, fs, v, u0, ex, ea, c, k, l, q⟩ => ?_)
  subst ex
  obtain rfl : u = Value.ref a := rx
  exact getcon_ok I1 ea c k l fun s2 I2 => ⟨v, H1, I2, k.rel, q⟩
theorem ps_fld (ha : PE X o ta) (hv : PE X value tv) (hs : swapsWith value (some (.Attribute o f pos')) pos.line X.env = pure false) : PS X (.Assign [.Attribute o f pos'] value pos) (sFld X.K ta tv f) := by
  intro pins s σ H D I h
  refine plainObj_wpAny_Assign_Attribute (thn (hv pins s σ H _ I h) fun u s1 ⟨y, H1, I1, ry, q⟩ => thn (ha pins s1 σ H1 _ I1 q) fun ov s2 ⟨x, H2, I2, rx, a, C, dx, fs, ex, ea, c, n, l, q2⟩ => ?_) hs
  subst ex
  obtain rfl : ov = Value.ref a := rx
  exact setattr_ok I2 ea c n l ry fun s3 I3 => ⟨σ, _, I3, q2⟩
theorem ps_fldaug {op : Operator} {rd : V → V → Hp → VK → Prop} (ha : PE X o ta) (hv : PE X value tv) (hop : InOp X op rd) : PS X (.AugAssign (.Attribute o f tpos) op value pos) (sFldAug X.K ta tv rd f) := by
  intro pins s σ H D I h
  refine wpAny_AugAssign_AttributeAny (thn (ha pins s σ H _ I h) fun ov s1 ⟨x, H1, I1, rx, a, C, dx, fs, v, ex, ea, c, n, l, q⟩ => ?_)
  subst ex
  obtain rfl : ov = Value.ref a := rx
  refine getattr_ok I1 ea c n l fun u s2 I2 ru => thn (hv pins s2 σ H1 _ I2 q) fun w3 s3 ⟨y, H2, I3, ry, q3⟩ => thn (hop pins s3 σ H2 v y u w3 _ I3 ru ry q3) fun w4 s4 ⟨z, H3, I4, rz, dx', fs', ea', l', q4⟩ => ?_
  exact setattr_ok I4 ea' c n l' rz fun s5 I5 => ⟨σ, _, I5, q4⟩
def rAdd : V → V → Hp → VK → Prop := fun x y H Q => ∃ i j, x = .int i ∧ y = .int j ∧ Q (.int (i + j)) H
def rSub : V → V → Hp → VK → Prop := fun x y H Q => ∃ i j, x = .int i ∧ y = .int j ∧ Q (.int (i - j)) H
theorem in_add : InOp X .Add rAdd := by
  rintro pins s σ H x y u v Q I rx ry ⟨i, j, rfl, rfl, q⟩
  obtain ⟨t, rfl⟩ := (show ∃ t, u = Value.int i t from rx)
  obtain ⟨t', rfl⟩ := (show ∃ t', v = Value.int j t' from ry)
  exact PyProof.Rows.iadd_int ⟨.int (i + j), H, I.tok _, ⟨_, rfl⟩, q⟩
theorem in_sub : InOp X .Sub rSub := by
  rintro pins s σ H x y u v Q I rx ry ⟨i, j, rfl, rfl, q⟩
  obtain ⟨t, rfl⟩ := (show ∃ t, u = Value.int i t from rx)
  obtain ⟨t', rfl⟩ := (show ∃ t', v = Value.int j t' from ry)
  exact PyProof.Rows.isub_int ⟨.int (i - j), H, I.tok _, ⟨_, rfl⟩, q⟩

/-- what is between an instance and its method: the tree of a method call -/
theorem methcall_of {pl : Sem Bool} {m : Str} {apos : Pos} {args : List Expr} {pins : List (Addr × Obj)} {s : Shared} {σ : St} {H : Hp} {Q : Value → Shared → Prop} {te : TE} (he : PE X e te) (I : Inv X pins σ H s)
    (h : te σ H fun x H1 => ∃ a C dx fs g, x = .ref a ∧ H1 a = some (.ins C dx fs) ∧ Cls X.K C ∧ Meth X.K C m g ∧ fs.lookup m = none ∧
      ∀ s1, Inv X pins σ H1 s1 → wpAny (model X.prog X.w) X.A (callWith pos (.ref g) [.ref a] (backTo pos (starEach args X.env)) (backToKw pos (keywordEach [] X.env))) Q X.xe s1)
    (ht : eval (.Call (.Attribute e m apos) args [] pos) X.env = (do
      let ov ← eval e X.env
      standAt apos.atName
      let (f, first) ← holding [ov] (getMethod ov m pl)
      callWith pos f first (backTo pos (starEach args X.env)) (backToKw pos (keywordEach [] X.env)))) :
    wpAny (model X.prog X.w) X.A (eval (.Call (.Attribute e m apos) args [] pos) X.env) Q X.xe s := by
  refine PySem.W.methodCall_KW (pl := pl) (thn (he pins s σ H _ I h) fun u s1 ⟨x, H1, I1, rx, a, C, dx, fs, g, ex, ea, c, k, l, q⟩ => ?_) ht
  subst ex
  obtain rfl : u = Value.ref a := rx
  exact getmeth_ok I1 ea c k l (q s1 I1)
end

/-! ### isinstance -/
section
variable {X : Cx} {pins : List (Addr × Obj)} {σ : St} {H : Hp} {s : Shared} {A : Around} {E : Value → Shared → Prop} {Q : Value → Shared → Prop} {c : Value} {b : Bool}
/-- the type of a value, as the fragment's deciders take it; for an instance its class -/
inductive TyOf (K : PySem.W.Frag) (H : Hp) : V → Value → Prop where
  | non : TyOf K H .non (.type "NoneType")
  | bl (x : Bool) : TyOf K H (.bl x) (.type "bool")
  | int (i : Int) : TyOf K H (.int i) (.type "int")
  | str (x : Str) : TyOf K H (.str x) (.type "str")
  | flt (x : UInt64) : TyOf K H (.flt x) (.type "float")
  | lst {a : Addr} {xs : List V} (e : H a = some (.lst xs)) : TyOf K H (.ref a) (.type "list")
  | frz {a : Addr} {o : Obj} {xs : List V} (e : H a = some (.frz o (.lst xs))) : TyOf K H (.ref a) (.type "list")
  | tup {a : Addr} {xs : List V} (e : H a = some (.tup xs)) : TyOf K H (.ref a) (.type "tuple")
  | dK {a : Addr} {kvs : List (Key × V)} (e : H a = some (.dK kvs)) : TyOf K H (.ref a) (.type "dict")
  | dT {a : Addr} {kvs : List (List Key × V)} (e : H a = some (.dT kvs)) : TyOf K H (.ref a) (.type "dict")
  | ins {a C dx : Addr} {fs : List (Str × V)} (e : H a = some (.ins C dx fs)) (cl : Cls K C) (ha : PySem.W.findIn K (.ref C) "__class__" = some (some (.builtin "object.__class__")))
      (hn : PySem.W.specialIn K (.builtin "object.__class__") "__get__" = some (some (.builtin "getset_descriptor.__get__"))) (htk : PySem.W.takesIn K (.builtin "object.__class__") = some true)
      (hm : PySem.W.mroIn K C (.type "object") = some true) : TyOf K H (.ref a) (.ref C)
/-- isinstance(x, c) for one class c, a built-in or an own one: kitOne's answer -/
theorem isinst_ok {x : V} {u t : Value} (I : Inv X pins σ H s) (rx : RelV x u) (ty : TyOf X.K H x t) (e : PySem.W.kitOne X.K t c = some b) (h : ∀ tk, Q (.bool b) { s with toks := tk }) :
    wpAny (model X.prog X.w) A (call (.builtin "isinstance") [u, c]) Q E s := by
  cases ty with
  | non => cases (show u = Value.none from rx); exact PySem.W.kia_one PySem.W.kitx_none I.kIn True.intro e (fun z => nomatch z) h
  | bl y => cases (show u = Value.bool y from rx); exact PySem.W.kia_one PySem.W.kitx_bool I.kIn True.intro e (fun z => nomatch z) h
  | int i => obtain ⟨t, q⟩ := (show ∃ t, u = Value.int i t from rx); cases q; exact PySem.W.kia_one PySem.W.kitx_int I.kIn True.intro e (fun z => nomatch z) h
  | str y => obtain ⟨t, q⟩ := (show ∃ t, u = Value.str y t from rx); cases q; exact PySem.W.kia_one PySem.W.kitx_str I.kIn True.intro e (fun z => nomatch z) h
  | flt y => obtain ⟨t, q⟩ := (show ∃ t, u = Value.float y t from rx); cases q; exact PySem.W.kia_one PySem.W.kitx_float I.kIn True.intro e (fun z => nomatch z) h
  | @lst a xs ea =>
    cases (show u = Value.ref a from rx)
    obtain ⟨_, _, n, _, h1⟩ := (show ObjOk X.prog X.w H s.heap a (.lst xs) from I.hok a _ ea)
    exact PySem.W.kia_one PySem.W.kitx_list I.kIn ⟨_, h1, rfl⟩ e (fun z => nomatch z) h
  | @frz a ob xs ea =>
    cases (show u = Value.ref a from rx)
    obtain ⟨_, _, _, n, _, h1⟩ := (show ObjOk X.prog X.w H s.heap a (.frz ob (.lst xs)) from I.hok a _ ea)
    exact PySem.W.kia_one PySem.W.kitx_list I.kIn ⟨_, h1, rfl⟩ e (fun z => nomatch z) h
  | @tup a xs ea =>
    cases (show u = Value.ref a from rx)
    obtain ⟨_, _, _, p⟩ := (show ObjOk X.prog X.w H s.heap a (.tup xs) from I.hok a _ ea)
    obtain ⟨o, h1, h2, _⟩ := p
    exact PySem.W.kia_one PySem.W.kitx_tuple I.kIn ⟨o, h1, h2⟩ e (fun z => nomatch z) h
  | @dK a kvs ea =>
    cases (show u = Value.ref a from rx)
    obtain ⟨_, _, vs, _, p⟩ := (show ObjOk X.prog X.w H s.heap a (.dK kvs) from I.hok a _ ea)
    obtain ⟨o, es, ep, h1, h2, _⟩ := p
    exact PySem.W.kia_one PySem.W.kitx_dict I.kIn ⟨o, h1, h2.1⟩ e (fun z => nomatch z) h
  | @dT a kvs ea =>
    cases (show u = Value.ref a from rx)
    obtain ⟨_, _, xs, _, o, es, ep, h1, h2, _⟩ := (show ObjOk X.prog X.w H s.heap a (.dT kvs) from I.hok a _ ea)
    exact PySem.W.kia_one PySem.W.kitx_dict I.kIn ⟨o, h1, h2.1⟩ e (fun z => nomatch z) h
  | @ins a C dx fs ea cl ha hn htk hm =>
    cases (show u = Value.ref a from rx)
    obtain ⟨mA, O, _⟩ := ins_get I.hok ea
    obtain ⟨od, J, _⟩ := O.look
    exact PySem.W.kia_one (PySem.W.kitx_own (cl.get _) cl.hd ha hn htk hm) I.kIn J e (fun z => nomatch z) h
end
end L2

namespace L2
open PySem PySem.Spec PyProof.Rows

/-! ### room -/
structure Room (k : Nat) (A : Around) : Prop where
  hd : A.handled = none
  dp : A.depth + 3 * k + 5 < recursionLimit
  un : A.units + 16 * k + 200 < cLine
  gd : A.guards = some []
theorem Room.mono {j k : Nat} {A : Around} (r : Room k A) (h : j ≤ k) : Room j A := ⟨r.hd, by have := r.dp; omega, by have := r.un; omega, r.gd⟩
theorem Room.deeper {k : Nat} {A : Around} (r : Room (k + 1) A) (env : Env) : Room k (A.deeper env) :=
  ⟨r.hd, by have := r.dp; show A.depth + 1 + 3 * k + 5 < _; omega, by have := r.un; show A.units + 3 + 16 * k + 200 < _; omega, r.gd⟩
theorem Room.in1 {k : Nat} {A : Around} (r : Room (k + 1) A) : Room k A.in1 :=
  ⟨r.hd, by have := r.dp; show A.depth + 3 * k + 5 < _; omega, by have := r.un; show A.units + 1 + 16 * k + 200 < _; omega, r.gd⟩
theorem make_depth {A : Around} {C : Addr} {us : List Value} {kw : List (Str × Value)} : (A.under (.builtin "type.__call__" ⟨.ref C :: us, kw⟩)).depth = A.depth + 1 := by
  first | rfl | simp [Around.under, Code.weight, Code.isCreation, Code.isGuard, Code.isCaller, Code.frames, Code.isFrame, guardIds]
theorem make_units {A : Around} {C : Addr} {us : List Value} {kw : List (Str × Value)} : (A.under (.builtin "type.__call__" ⟨.ref C :: us, kw⟩)).units = A.units + 1 := by
  first | rfl | simp [Around.under, Code.cUnits, Code.frames, Code.isFrame]
theorem Room.make {k : Nat} {A : Around} (r : Room (k + 1) A) (C : Addr) (us : List Value) (kw : List (Str × Value)) : Room k (A.under (.builtin "type.__call__" ⟨.ref C :: us, kw⟩)) :=
  ⟨r.hd, by have := r.dp; rw [make_depth]; omega, by have := r.un; rw [make_units]; omega, by first | exact r.gd | (have := r.gd; simpa [Around.under, Code.isGuard, guardIds] using this)⟩
theorem Room.depth {k : Nat} {A : Around} (r : Room k A) : A.depth < recursionLimit := by have := r.dp; omega
theorem Room.units {k : Nat} {A : Around} (r : Room k A) : A.units + 64 < cLine := by have := r.un; omega
theorem Room.units0 {k : Nat} {A : Around} (r : Room k A) : A.units < cLine := by have := r.un; omega

/-! ### argument lists and displays -/
def tNil : TA := fun _ H Q => Q [] H
def tCons (ta : TE) (tr : TA) : TA := fun σ H Q => ta σ H fun x H1 => tr σ H1 fun xs H2 => Q (x :: xs) H2
section
variable {X : Cx} {e : Expr} {es : List Expr} {te : TE} {t : TA} {pos : Pos}
theorem pa_nil : PA X [] tNil := fun _ _ _ _ H Q I h => Calls.spliced_nil ⟨[], H, I, .nil, h⟩
theorem pa_cons (ha : PE X e te) (hr : PA X es t) (hs : starEach (e :: es) X.env = (false, eval e X.env) :: starEach es X.env := by rfl) : PA X (e :: es) (tCons te t) := by
  intro pos pins s σ H Q I h
  rw [hs]
  show wpAny _ _ (spliced ((false, eval e X.env) :: backTo pos (starEach es X.env))) _ _ s
  refine Calls.spliced_cons (thn (ha pins s σ H _ I h) fun u s1 ⟨x, H1, I1, r1, q1⟩ => ?_)
  exact thn (hr pos pins s1 σ H1 _ I1 q1) fun us s2 ⟨xs, H2, I2, r2, q2⟩ => ⟨x :: xs, H2, I2, .cons r1 r2, q2⟩

/-- a tuple, a list of written items -/
def tTup (t : TA) : TE := fun σ H Q => t σ H fun xs H1 => xs.length ≤ sizeLine ∧ ∀ p, H1 p = none → Q (.ref p) (upd H1 p (.tup xs))
def tLst (t : TA) : TE := fun σ H Q => t σ H fun xs H1 => xs.length ≤ sizeLine ∧ ∀ p, H1 p = none → Q (.ref p) (upd H1 p (.lst xs))
theorem pe_tup {x1} (h : PA X es t) : PE X (.Tuple es x1 pos) (tTup t) := by
  intro pins s σ H Q I hq
  refine wpAny_Tuple_spliced (thn (h pos pins s σ H _ I hq) fun us s1 ⟨xs, H1, I1, r, z, q⟩ => ⟨by rw [← r.length]; exact z, ?_⟩)
  have hf : H1 s1.heap.objs.size = none := I1.hok.fresh (Nat.le_refl _)
  refine ⟨.ref s1.heap.objs.size, upd H1 s1.heap.objs.size (.tup xs), I1.laid (t' := s1.toks) (fun b u e => Heap.get?_push_of_some _ e) (Nat.le_refl _) ?_, rfl, q _ hf⟩
  exact ⟨z, us, r, ⟨_, Heap.get?_push_size _ rfl, rfl, _, rfl⟩⟩
theorem pe_lst (h : PA X es t) : PE X (.List es pos) (tLst t) := by
  intro pins s σ H Q I hq
  refine wpAny_List_spliced (thn (h pos pins s σ H _ I hq) fun us s1 ⟨xs, H1, I1, r, z, q⟩ => ⟨by rw [← r.length]; exact z, ?_⟩)
  have hf : H1 s1.heap.objs.size = none := I1.hok.fresh (Nat.le_refl _)
  refine ⟨.ref s1.heap.objs.size, upd H1 s1.heap.objs.size (.lst xs), I1.laid (t' := s1.toks) (fun b u e => Heap.get?_push_of_some _ e) (Nat.le_refl _) ?_, rfl, q _ hf⟩
  exact ⟨z, us, 0, r, Heap.get?_push_size _ rfl⟩
end

/-! ### what a def promises -/
/-- a def's promise: the bound arguments in the parameters' order, the heap, the wanted end, the wanted exception -/
abbrev Sp := List V → Hp → VK → XK → Prop
/-- how an exception lies behind a call (file 08 gives it): the callers' frames, abstract heap and state ahead of the call, the wish, the exception, the state -/
abbrev CXT := List Env → Hp → Shared → XK → Value → Shared → Prop

/-- the state at a call -/
structure Env0 (P : Program) (w : World) (K : PySem.W.Frag) (mg : Str → Option Value) (base : Heap) (A : Around) (outer : List Env) (s : Shared) (H : Hp) : Prop where
  frames : A.frames = some outer
  mod : Mod K mg base
  bs : ∀ b o, base.get? b = some o → s.heap.get? b = some o ∧ H b = none
  bsz : base.objs.size ≤ s.heap.objs.size
  funs : s.heap.FunFrames base outer
  frf : ∀ b ∈ frs outer, H b = none
  hok : HOk P w H s.heap
  bare : AllBare s.gens
/-- a call's end -/
def CE (outer : List Env) (P : Program) (w : World) (H : Hp) (s : Shared) (Q : VK) (u : Value) (s' : Shared) : Prop :=
  ∃ v H', s'.os = s.os ∧ AllBare s'.gens ∧ Un (frs outer) [] H H' s.heap s'.heap ∧ HOk P w H' s'.heap ∧ RelV v u ∧ Q v H'
def CR (CX : CXT) (outer : List Env) (P : Program) (w : World) (H : Hp) (s : Shared) (Q : VK) (E : XK) (r : Result) (s' : Shared) : Prop :=
  match r with
  | .ok (.ret u) => CE outer P w H s Q u s'
  | .ok _ => False
  | .error e => CX outer H s E e s'
structure FnOk (P : Program) (w : World) (K : PySem.W.Frag) (mg : Str → Option Value) (base : Heap) (CX : CXT) (k : Nat) (f : Addr) (fd : FuncData) (ps : List Str) (sp : Sp) : Prop where
  len : ∀ vs H Q E, sp vs H Q E → vs.length = ps.length
  run : ∀ (A : Around) (outer : List Env) (s : Shared) (H : Hp) (args : Args) (us : List Value) (vs : List V) (Q : VK) (E : XK), Room k A → Env0 P w K mg base A outer s H → BindsTo s fd args (ps.zip us) → Vals vs us → sp vs H Q E →
    codeAny (model P w) A (.call (.ref f) args) (CR CX outer P w H s Q E) s
theorem FnOk.mono {P : Program} {w : World} {K : PySem.W.Frag} {mg : Str → Option Value} {base : Heap} {CX : CXT} {j k : Nat} {f : Addr} {fd : FuncData} {ps : List Str} {sp : Sp} (F : FnOk P w K mg base CX j f fd ps sp) (h : j ≤ k) :
    FnOk P w K mg base CX k f fd ps sp := ⟨F.len, fun A outer s H args us vs Q E hr => F.run A outer s H args us vs Q E (hr.mono h)⟩
/-- a weaker promise -/
theorem FnOk.imp {P : Program} {w : World} {K : PySem.W.Frag} {mg : Str → Option Value} {base : Heap} {CX : CXT} {k : Nat} {f : Addr} {fd : FuncData} {ps : List Str} {sp sp' : Sp} (F : FnOk P w K mg base CX k f fd ps sp)
    (h : ∀ vs H Q E, sp' vs H Q E → sp vs H Q E) : FnOk P w K mg base CX k f fd ps sp' :=
  ⟨fun vs H Q E q => F.len vs H Q E (h _ _ _ _ q), fun A outer s H args us vs Q E hr he hb hv hs => F.run A outer s H args us vs Q E hr he hb hv (h _ _ _ _ hs)⟩

theorem Env0.make {P : Program} {w : World} {K : PySem.W.Frag} {mg : Str → Option Value} {base : Heap} {A : Around} {outer : List Env} {s : Shared} {H : Hp} (e : Env0 P w K mg base A outer s H) (C : Addr) (us : List Value) (kw : List (Str × Value)) :
    Env0 P w K mg base (A.under (.builtin "type.__call__" ⟨.ref C :: us, kw⟩)) outer s H := ⟨by first | exact e.frames | (simpa [Around.under, Code.envs, Code.isFrame, pushEnvs] using e.frames), e.mod, e.bs, e.bsz, e.funs, e.frf, e.hok, e.bare⟩
theorem Env0.in1 {P : Program} {w : World} {K : PySem.W.Frag} {mg : Str → Option Value} {base : Heap} {A : Around} {outer : List Env} {s : Shared} {H : Hp} (e : Env0 P w K mg base A outer s H) :
    Env0 P w K mg base A.in1 outer s H := ⟨e.frames, e.mod, e.bs, e.bsz, e.funs, e.frf, e.hok, e.bare⟩

section
variable {X : Cx} {pins : List (Addr × Obj)} {σ : St} {H : Hp} {s s' : Shared}
/-- from a body: what a callee wants -/
theorem Inv.env0 (I : Inv X pins σ H s) : Env0 X.prog X.w X.K X.mg X.base X.A X.stack s H :=
  ⟨I.ok.frames, I.ok.mod, I.bs, Nat.le_trans I.ok.bsz I.sz, I.stack, I.stkFree, I.hok, I.bare⟩
/-- behind a call -/
theorem Inv.after {Q : VK} {u : Value} (I : Inv X pins σ H s) (h : CE X.stack X.prog X.w H s Q u s') : EP X pins σ Q u s' := by
  obtain ⟨v, H', os, bare, un, hok, r, q⟩ := h
  obtain ⟨hh, g, d, t, os'⟩ := s'
  obtain rfl : os' = s.os := os
  exact ⟨v, H', I.call (h' := hh) (g' := g) (d' := d) (t' := t) (ch := []) un hok bare (fun b z => absurd z (by simp)), r, q⟩
end

/-! ### calls -/
/-- f(..): the written arguments, then the defaults dvs; E: what is wanted of an exception -/
def tCall (sp : Sp) (dvs : List V) (E : XK) (t : TA) : TE := fun σ H Q => t σ H fun vs H1 => sp (vs ++ dvs) H1 Q E
/-- o.m(..) of an instance of the class at C -/
def tMeth (C : Addr) (m : Str) (sp : Sp) (dvs : List V) (E : XK) (ta : TE) (t : TA) : TE := fun σ H Q => ta σ H fun x H1 => ∃ a dx fs, x = .ref a ∧ H1 a = some (.ins C dx fs) ∧ fs.lookup m = none ∧
  t σ H1 fun vs H2 => sp (x :: (vs ++ dvs)) H2 Q E
/-- C(..): a new instance and its dict, then __init__ -/
def tMake (C : Addr) (sp : Sp) (dvs : List V) (E : XK) (t : TA) : TE := fun σ H Q => t σ H fun vs H1 => ∀ x dx, H1 x = none → H1 dx = none → dx ≠ x →
  sp (.ref x :: (vs ++ dvs)) (upd (upd H1 dx (.own x)) x (.ins C dx [])) (fun v H2 => v = .non ∧ Q (.ref x) H2) E

/-- how the parameters are bound: us the positional arguments, kw the keywords' values by name, ds the defaults that fill up -/
def Binds (K : PySem.W.Frag) (fd : FuncData) (ps : List Str) (ds : List Value) : Prop :=
  ∀ (s : Shared) (us : List Value), K.In s.heap → (us ++ ds).length = ps.length → BindsTo s fd ⟨us, []⟩ (ps.zip (us ++ ds))
/-- every parameter is given -/
theorem Binds.all {K : PySem.W.Frag} {fd : FuncData} {ps : List Str} (h : ∀ us : List Value, us.length = ps.length → bindArgs fd ⟨us, []⟩ = pure (ps.zip us)) : Binds K fd ps [] := fun s us _ hl => by
  rw [List.append_nil] at hl ⊢
  exact .of_eq (h us hl)

/-- an exception of a callee reaches what this body wants of exceptions -/
def Passes (CX : CXT) (X : Cx) (E : XK) : Prop := ∀ (pins : List (Addr × Obj)) (σ : St) (H : Hp) (s : Shared) (e : Value) (s' : Shared), Inv X pins σ H s → CX X.stack H s E e s' → X.xe e s'

section
variable {X : Cx} {CX : CXT} {k : Nat} {f C : Addr} {fd : FuncData} {ps : List Str} {sp : Sp} {dvs : List V} {ds : List Value} {E : XK} {x m : Str} {p pos apos : Pos} {e o : Expr} {es : List Expr} {ta : TE} {t : TA}

/-- the callee runs -/
theorem run_fn {pins : List (Addr × Obj)} {σ : St} {H : Hp} {s : Shared} {Q : VK} {us : List Value} {vs : List V} (F : FnOk X.prog X.w X.K X.mg X.base CX k f fd ps sp) (hr : Room k X.A) (hb : Binds X.K fd ps ds) (hd : Vals dvs ds) (hx : Passes CX X E)
    (I : Inv X pins σ H s) (r : Vals vs us) (h : sp (vs ++ dvs) H Q E) : wpAny (model X.prog X.w) X.A (call (.ref f) us) (EP X pins σ Q) X.xe s := by
  have r2 : Vals (vs ++ dvs) (us ++ ds) := r.append hd
  have hl : (us ++ ds).length = ps.length := by rw [← r2.length]; exact F.len _ _ _ _ h
  refine wpAny_call (codeAny_mono (F.run X.A X.stack s H ⟨us, []⟩ (us ++ ds) (vs ++ dvs) Q E hr I.env0 (hb s us I.kIn hl) r2 h) fun r s' hq => ?_)
  cases r with
  | error e => exact hx pins σ H s e s' I hq
  | ok fl =>
    cases fl with
    | ret u => exact I.after hq
    | next => exact False.elim hq
    | brk => exact False.elim hq
    | cont => exact False.elim hq

theorem pe_call (F : FnOk X.prog X.w X.K X.mg X.base CX k f fd ps sp) (hr : Room k X.A) (hg : Gl X x) (hm : X.mg x = some (.ref f)) (hk : PySem.W.keepIn X.K (.ref f) = true) (hb : Binds X.K fd ps ds) (hd : Vals dvs ds) (hx : Passes CX X E)
    (ha : PA X (e :: es) t) (hdb : (x == ("__debug__" : Str)) = false := by decide) (he : starEach (e :: es) X.env = (false, eval e X.env) :: starEach es X.env := by rfl) (hpl : (backTo pos (starEach es X.env)).any (·.1) = false := by rfl) :
    PE X (.Call (.Name x p) (e :: es) [] pos) (tCall sp dvs E t) := by
  intro pins s σ H Q I h
  refine wpAny_Call_Name_kw (ld_glob I hg hm ?_ hdb)
  refine PySem.W.callWith_K (h₀ := X.base) I.ok.mod.kin hk (thn (ha pos pins s σ H _ I h) fun us s1 ⟨vs, H1, I1, r, q⟩ => ⟨I1.kIn, ?_⟩) he hpl
  exact run_fn F hr hb hd hx I1 r q
theorem pe_call0 (F : FnOk X.prog X.w X.K X.mg X.base CX k f fd ps sp) (hr : Room k X.A) (hg : Gl X x) (hm : X.mg x = some (.ref f)) (hk : PySem.W.keepIn X.K (.ref f) = true) (hb : Binds X.K fd ps ds) (hd : Vals dvs ds) (hx : Passes CX X E)
    (hdb : (x == ("__debug__" : Str)) = false := by decide) : PE X (.Call (.Name x p) [] [] pos) (tCall sp dvs E tNil) := by
  intro pins s σ H Q I h
  refine wpAny_Call_Name_kw (ld_glob I hg hm ?_ hdb)
  exact PySem.W.callWith_K0 I.kIn hk (run_fn (us := []) F hr hb hd hx I .nil h)

/-- o.m(e, ..) -/
theorem pe_meth {pl : Sem Bool} (he : PE X o ta) (c : Cls X.K C) (hm : Meth X.K C m f) (F : FnOk X.prog X.w X.K X.mg X.base CX k f fd ps sp) (hr : Room k X.A) (hb : Binds X.K fd ps ds) (hd : Vals dvs ds) (hx : Passes CX X E) (ha : PA X (e :: es) t)
    (hst : starEach (e :: es) X.env = (false, eval e X.env) :: starEach es X.env := by rfl) (hpl : (backTo pos (starEach es X.env)).any (·.1) = false := by rfl)
    (ht : eval (.Call (.Attribute o m apos) (e :: es) [] pos) X.env = (do
      let ov ← eval o X.env
      standAt apos.atName
      let (f, first) ← holding [ov] (getMethod ov m pl)
      callWith pos f first (backTo pos (starEach (e :: es) X.env)) (backToKw pos (keywordEach [] X.env))) := by rfl) :
    PE X (.Call (.Attribute o m apos) (e :: es) [] pos) (tMeth C m sp dvs E ta t) := by
  intro pins s σ H Q I h
  refine PySem.W.methodCall_KW (pl := pl) (thn (he pins s σ H _ I h) fun u s1 ⟨x, H1, I1, rx, a, dx, fs, ex, ea, l, q⟩ => ?_) ht
  subst ex
  obtain rfl : u = Value.ref a := rx
  refine getmeth_ok I1 ea c hm l ?_
  refine PySem.W.callWith_K (first := [.ref a]) (h₀ := X.base) I.ok.mod.kin hm.kp (thn (ha pos pins s1 σ H1 _ I1 q) fun us s2 ⟨vs, H2, I2, r, q2⟩ => ⟨I2.kIn, ?_⟩) hst hpl
  exact run_fn (us := .ref a :: us) (vs := .ref a :: vs) F hr hb hd hx I2 (.cons rfl r) q2
/-- o.m() -/
theorem pe_meth0 {pl : Sem Bool} (he : PE X o ta) (c : Cls X.K C) (hm : Meth X.K C m f) (F : FnOk X.prog X.w X.K X.mg X.base CX k f fd ps sp) (hr : Room k X.A) (hb : Binds X.K fd ps ds) (hd : Vals dvs ds) (hx : Passes CX X E)
    (ht : eval (.Call (.Attribute o m apos) [] [] pos) X.env = (do
      let ov ← eval o X.env
      standAt apos.atName
      let (f, first) ← holding [ov] (getMethod ov m pl)
      callWith pos f first (backTo pos (starEach [] X.env)) (backToKw pos (keywordEach [] X.env))) := by rfl) :
    PE X (.Call (.Attribute o m apos) [] [] pos) (tMeth C m sp dvs E ta tNil) := by
  intro pins s σ H Q I h
  refine PySem.W.methodCall_KW (pl := pl) (thn (he pins s σ H _ I h) fun u s1 ⟨x, H1, I1, rx, a, dx, fs, ex, ea, l, q⟩ => ?_) ht
  subst ex
  obtain rfl : u = Value.ref a := rx
  refine getmeth_ok I1 ea c hm l ?_
  exact PySem.W.callWith_K0 (first := [.ref a]) I1.kIn hm.kp (run_fn (us := [.ref a]) (vs := [.ref a]) F hr hb hd hx I1 (.cons rfl .nil) q)

/-- what a class must have to be made -/
structure Mk (K : PySem.W.Frag) (C f : Addr) : Prop where
  makes : PySem.W.makesIn K C = true
  init : PySem.W.findIn K (.ref C) "__init__" = some (some (.ref f))
  fn : PySem.W.isFn K (.ref f) = true
  kp : PySem.W.keepIn K (.ref C) = true

theorem run_make {pins : List (Addr × Obj)} {σ : St} {H : Hp} {s : Shared} {Q : VK} {us : List Value} {vs : List V} (M : Mk X.K C f) (F : FnOk X.prog X.w X.K X.mg X.base CX k f fd ps sp) (hr : Room (k + 1) X.A) (hb : Binds X.K fd ps ds) (hd : Vals dvs ds)
    (hx : Passes CX X E) (I : Inv X pins σ H s) (r : Vals vs us)
    (h : ∀ x dx, H x = none → H dx = none → dx ≠ x → sp (.ref x :: (vs ++ dvs)) (upd (upd H dx (.own x)) x (.ins C dx [])) (fun v H2 => v = .non ∧ Q (.ref x) H2) E) :
    wpAny (model X.prog X.w) X.A (call (.ref C) us) (EP X pins σ Q) X.xe s := by
  have hq := h (s.heap.objs.size + 1) s.heap.objs.size (I.hok.fresh (Nat.le_succ _)) (I.hok.fresh (Nat.le_refl _)) (Nat.ne_of_lt (Nat.lt_succ_self _))
  have I2 := Inv.made (C := C) I
  have r2 : Vals (V.ref (s.heap.objs.size + 1) :: (vs ++ dvs)) (Value.ref (s.heap.objs.size + 1) :: (us ++ ds)) := .cons rfl (r.append hd)
  have hl : (Value.ref (s.heap.objs.size + 1) :: us ++ ds).length = ps.length := by
    have e := r2.length
    rw [F.len _ _ _ _ hq] at e
    exact e.symm
  refine wpAny_call (make_map (f := f) I.kIn M.makes M.init (beq_iff_eq.mp M.fn) (codeAny_mono (F.run _ X.stack _ _ ⟨Value.ref (s.heap.objs.size + 1) :: us, []⟩ (Value.ref (s.heap.objs.size + 1) :: (us ++ ds)) _ _ E (hr.make C us [])
    (I2.env0.make C us []) (hb _ (Value.ref (s.heap.objs.size + 1) :: us) I2.kIn hl) r2 hq) fun r s' hq' => ?_))
  cases r with
  | error e => exact hx pins σ _ _ e s' I2 hq'
  | ok fl =>
    cases fl with
    | ret u =>
      obtain ⟨v, H', I3, rv, ev, q3⟩ := I2.after hq'
      subst ev
      exact ⟨rv, ⟨V.ref (s.heap.objs.size + 1), H', I3, rfl, q3⟩⟩
    | next => exact False.elim hq'
    | brk => exact False.elim hq'
    | cont => exact False.elim hq'
theorem pe_make (M : Mk X.K C f) (F : FnOk X.prog X.w X.K X.mg X.base CX k f fd ps sp) (hr : Room (k + 1) X.A) (hg : Gl X x) (hm : X.mg x = some (.ref C)) (hb : Binds X.K fd ps ds) (hd : Vals dvs ds) (hx : Passes CX X E)
    (ha : PA X (e :: es) t) (hdb : (x == ("__debug__" : Str)) = false := by decide) (he : starEach (e :: es) X.env = (false, eval e X.env) :: starEach es X.env := by rfl) (hpl : (backTo pos (starEach es X.env)).any (·.1) = false := by rfl) :
    PE X (.Call (.Name x p) (e :: es) [] pos) (tMake C sp dvs E t) := by
  intro pins s σ H Q I h
  refine wpAny_Call_Name_kw (ld_glob I hg hm ?_ hdb)
  refine PySem.W.callWith_K (h₀ := X.base) I.ok.mod.kin M.kp (thn (ha pos pins s σ H _ I h) fun us s1 ⟨vs, H1, I1, r, q⟩ => ⟨I1.kIn, ?_⟩) he hpl
  exact run_make M F hr hb hd hx I1 r q
theorem pe_make0 (M : Mk X.K C f) (F : FnOk X.prog X.w X.K X.mg X.base CX k f fd ps sp) (hr : Room (k + 1) X.A) (hg : Gl X x) (hm : X.mg x = some (.ref C)) (hb : Binds X.K fd ps ds) (hd : Vals dvs ds) (hx : Passes CX X E)
    (hdb : (x == ("__debug__" : Str)) = false := by decide) : PE X (.Call (.Name x p) [] [] pos) (tMake C sp dvs E tNil) := by
  intro pins s σ H Q I h
  refine wpAny_Call_Name_kw (ld_glob I hg hm ?_ hdb)
  exact PySem.W.callWith_K0 I.kIn M.kp (run_make (us := []) M F hr hb hd hx I .nil h)
end

/-! ### keywords -/
/-- the values of the keywords, from the left -/
def PK (X : Cx) (kws : List Keyword) (t : TA) : Prop :=
  ∀ (pos : Pos) (pins : List (Addr × Obj)) (s : Shared) (σ : St) (H : Hp) (Q : List V → Hp → Prop), Inv X pins σ H s → t σ H Q → wpAny (model X.prog X.w) X.A (evalAll ((backToKw pos (keywordEach kws X.env)).map (·.2))) (AP X pins σ Q) X.xe s
section
variable {X : Cx} {CX : CXT} {k : Nat} {f C : Addr} {fd : FuncData} {ps ks : List Str} {sp : Sp} {E : XK} {x m : Str} {p pos apos kpos : Pos} {e o : Expr} {es : List Expr} {kws : List Keyword} {te ta : TE} {t tk : TA} {nm : Option Str}
theorem pk_nil : PK X [] tNil := fun _ _ _ _ H Q I h => wpAny_evalAll_nil ⟨[], H, I, .nil, h⟩
theorem pk_cons (ha : PE X e te) (hr : PK X kws t) : PK X (⟨nm, e, kpos⟩ :: kws) (tCons te t) := by
  intro pos pins s σ H Q I h
  show wpAny _ _ (evalAll ((do let v ← eval e X.env; standAt pos; pure v) :: (backToKw pos (keywordEach kws X.env)).map (·.2))) _ _ s
  refine wpAny_evalAll_cons (wpAny_bind (thn (ha pins s σ H _ I h) fun u s1 ⟨x, H1, I1, r1, q1⟩ => wpAny_bind (wpAny_standAt (wpAny_pure ?_))))
  exact thn (hr pos pins s1 σ H1 _ I1 q1) fun us s2 ⟨xs, H2, I2, r2, q2⟩ => ⟨x :: xs, H2, I2, .cons r1 r2, q2⟩

/-- how a call with keywords binds: g puts the positional values us and the keywords' values ws (names ks) in the parameters' order, defaults among them -/
structure KBinds (K : PySem.W.Frag) (fd : FuncData) (ps ks : List Str) (g : List Value → List Value → List Value) (gV : List V → List V → List V) : Prop where
  to : ∀ (s : Shared) (us ws : List Value), K.In s.heap → (g us ws).length = ps.length → BindsTo s fd ⟨us, ks.zip ws⟩ (ps.zip (g us ws))
  rel : ∀ {vs : List V} {us : List Value} {zs : List V} {ws : List Value}, Vals vs us → Vals zs ws → Vals (gV vs zs) (g us ws)
def tCallK (sp : Sp) (gV : List V → List V → List V) (E : XK) (t tk : TA) : TE := fun σ H Q => t σ H fun vs H1 => tk σ H1 fun zs H2 => sp (gV vs zs) H2 Q E
variable {g : List Value → List Value → List Value} {gV : List V → List V → List V}
theorem run_fnk {pins : List (Addr × Obj)} {σ : St} {H : Hp} {s : Shared} {Q : VK} {us ws : List Value} {vs zs : List V} (F : FnOk X.prog X.w X.K X.mg X.base CX k f fd ps sp) (hr : Room k X.A) (hb : KBinds X.K fd ps ks g gV) (hx : Passes CX X E)
    (I : Inv X pins σ H s) (r : Vals vs us) (rz : Vals zs ws) (h : sp (gV vs zs) H Q E) : wpAny (model X.prog X.w) X.A (call (.ref f) us (ks.zip ws)) (EP X pins σ Q) X.xe s := by
  have r2 := hb.rel r rz
  have hl : (g us ws).length = ps.length := by rw [← r2.length]; exact F.len _ _ _ _ h
  refine wpAny_call (codeAny_mono (F.run X.A X.stack s H ⟨us, ks.zip ws⟩ (g us ws) (gV vs zs) Q E hr I.env0 (hb.to s us ws I.kIn hl) r2 h) fun r s' hq => ?_)
  cases r with
  | error e => exact hx pins σ H s e s' I hq
  | ok fl =>
    cases fl with
    | ret u => exact I.after hq
    | next => exact False.elim hq
    | brk => exact False.elim hq
    | cont => exact False.elim hq
/-- f(e, .., k = v, ..) -/
theorem pe_callK (F : FnOk X.prog X.w X.K X.mg X.base CX k f fd ps sp) (hr : Room k X.A) (hg : Gl X x) (hm : X.mg x = some (.ref f)) (hk : PySem.W.keepIn X.K (.ref f) = true) (hb : KBinds X.K fd ps ks g gV) (hx : Passes CX X E)
    (ha : PA X (e :: es) t) (hkw : PK X kws tk) (hall : (backToKw pos (keywordEach kws X.env)).all (·.1.isSome) = true := by rfl) (hks : (backToKw pos (keywordEach kws X.env)).filterMap (·.1) = ks := by rfl)
    (hdb : (x == ("__debug__" : Str)) = false := by decide) (he : starEach (e :: es) X.env = (false, eval e X.env) :: starEach es X.env := by rfl)
    (hpl : ((backTo pos (starEach (e :: es) X.env)).any (·.1) || (backToKw pos (keywordEach kws X.env)).any (·.1.isNone)) = false := by rfl) :
    PE X (.Call (.Name x p) (e :: es) kws pos) (tCallK sp gV E t tk) := by
  intro pins s σ H Q I h
  refine wpAny_Call_Name_kw (ld_glob I hg hm ?_ hdb)
  refine PySem.W.callWith_KW (h₀ := X.base) I.ok.mod.kin hk hall (thn (ha pos pins s σ H _ I h) fun us s1 ⟨vs, H1, I1, r, q⟩ => ?_) hpl he
  refine thn (hkw pos pins s1 σ H1 _ I1 q) fun ws s2 ⟨zs, H2, I2, rz, q2⟩ => ⟨I2.kIn, ?_⟩
  rw [hks]
  exact run_fnk F hr hb hx I2 r rz q2
end

/-! ### a def's body keeps its promise -/
/-- names: the parameters first -/
structure FnScope (N P : List Str) (sc : Scope) : Prop where
  kind : sc.kind = .function
  co : sc.isCoroutine = false
  gen : sc.isGenerator = false
  nd : N.Nodup
  pre : N.take P.length = P
  par : ∀ x ∈ P, sc.names.lookup x = some .local ∨ sc.names.lookup x = some .cell
  nofree : ∀ y ∈ sc.names, y.2 ≠ .free

theorem bindL_out {kindOf : Str → Option NameKind} {x : Str} : ∀ {binds : List (Str × Value)} {m : Str → Option Value}, (∀ v, (x, v) ∉ binds) → bindL kindOf binds m x = m x
  | [], _, _ => rfl
  | (n, v) :: r, m, h => by
    unfold bindL
    rw [bindL_out fun w hw => h w (List.mem_cons_of_mem _ hw)]
    split
    · have : x ≠ n := by rintro rfl; exact h v List.mem_cons_self
      simp [this]
    · rfl
theorem bindC_out {kindOf : Str → Option NameKind} {x : Str} : ∀ {binds : List (Str × Value)} {m : Str → Option Value}, (∀ v, (x, v) ∉ binds) → bindC kindOf binds m x = m x
  | [], _, _ => rfl
  | (n, v) :: r, m, h => by
    unfold bindC
    rw [bindC_out fun w hw => h w (List.mem_cons_of_mem _ hw)]
    split
    · rfl
    · have : x ≠ n := by rintro rfl; exact h v List.mem_cons_self
      simp [this]
theorem bindL_get {kindOf : Str → Option NameKind} {x : Str} {v : Value} : ∀ {P : List Str} {vs : List Value} {i : Nat} {m : Str → Option Value}, P.Nodup → P[i]? = some x → vs[i]? = some v → kindOf x = some .local →
    bindL kindOf (P.zip vs) m x = some v
  | [], _, _, _, _, h, _, _ => by simp at h
  | _ :: _, [], _, _, _, _, h, _ => by simp at h
  | p :: P, w :: vs, 0, m, nd, h1, h2, hk => by
    simp at h1 h2; subst h1; subst h2
    show bindL kindOf ((p, w) :: P.zip vs) m p = _
    unfold bindL
    rw [bindL_out fun v hv => (List.nodup_cons.mp nd).1 (List.of_mem_zip hv).1, if_pos hk]
    simp
  | p :: P, w :: vs, i + 1, m, nd, h1, h2, hk => by
    show bindL kindOf ((p, w) :: P.zip vs) m x = _
    unfold bindL
    exact bindL_get (i := i) (List.nodup_cons.mp nd).2 (by simpa using h1) (by simpa using h2) hk
theorem bindC_get {kindOf : Str → Option NameKind} {x : Str} {v : Value} : ∀ {P : List Str} {vs : List Value} {i : Nat} {m : Str → Option Value}, P.Nodup → P[i]? = some x → vs[i]? = some v → kindOf x ≠ some .local →
    bindC kindOf (P.zip vs) m x = some v
  | [], _, _, _, _, h, _, _ => by simp at h
  | _ :: _, [], _, _, _, _, h, _ => by simp at h
  | p :: P, w :: vs, 0, m, nd, h1, h2, hk => by
    simp at h1 h2; subst h1; subst h2
    show bindC kindOf ((p, w) :: P.zip vs) m p = _
    unfold bindC
    rw [bindC_out fun v hv => (List.nodup_cons.mp nd).1 (List.of_mem_zip hv).1, if_neg hk]
    simp
  | p :: P, w :: vs, i + 1, m, nd, h1, h2, hk => by
    show bindC kindOf ((p, w) :: P.zip vs) m x = _
    unfold bindC
    exact bindC_get (i := i) (List.nodup_cons.mp nd).2 (by simpa using h1) (by simpa using h2) hk

/-- the names' values at the entry -/
def start (N : List Str) (vs : List V) : St := vs.map some ++ List.replicate (N.length - vs.length) none

/-- the context of a def's body, at its entry; an exception leaves the frame, then lies as CX says -/
def cxOf (CX : CXT) (P : Program) (w : World) (K : PySem.W.Frag) (mg : Str → Option Value) (base : Heap) (N : List Str) (qual : Str) (scope : Scope) (f : Addr) (cd : Value) (A : Around) (outer : List Env) (s : Shared) (H : Hp) (E : XK) : Cx where
  prog := P
  w := w
  K := K
  mg := mg
  base := base
  A := A.deeper (envOfC qual scope s.heap.objs.size f cd)
  N := N
  s₀ := s
  H₀ := H
  env := envOfC qual scope s.heap.objs.size f cd
  outer := outer
  stack := envOfC qual scope s.heap.objs.size f cd :: outer
  ex := []
  calm := true
  fn := fun _ => true
  pn := []
  xe := fun e s' => wpAny (model P w) (A.deeper (envOfC qual scope s.heap.objs.size f cd)) (leaving (envOfC qual scope s.heap.objs.size f cd) e) (fun _ s'' => CX outer H s E e s'') (fun e' s'' => CX outer H s E e' s'') s'

theorem cell_has {sc : Scope} {n : Nat} {x : Str} (h : sc.names.lookup x = some .cell) : ∃ c, (cellsFrom n sc.names []).lookup x = some c := by
  have q := PySem.W.cellsFrom_some sc.names n [] (.inl h)
  exact Option.isSome_iff_exists.mp q

theorem inv_start {CX : CXT} {P : Program} {w : World} {K : PySem.W.Frag} {mg : Str → Option Value} {base : Heap} {N ps : List Str} {qual : Str} {scope : Scope} {f : Addr} {cd : Value} {A : Around} {outer : List Env} {s s1 : Shared} {H : Hp} {E : XK} {us : List Value} {vs : List V}
    (S : FnScope N ps scope) (hd : A.handled = none) (e0 : Env0 P w K mg base A outer s H) (hl : vs.length = ps.length) (r : Vals vs us)
    (x : InCallC s s.heap.objs.size (bindL (envOfC qual scope s.heap.objs.size f cd).kindOf (ps.zip us) fun _ => none) (cellsFrom (s.heap.objs.size + 1) scope.names []) (bindC (envOfC qual scope s.heap.objs.size f cd).kindOf (ps.zip us) fun _ => none) s1) :
    Inv (cxOf CX P w K mg base N qual scope f cd A outer s H E) [] (start N vs) H s1 := by
  have hpl : ps.length ≤ N.length := by have := congrArg List.length S.pre; rw [List.length_take] at this; omega
  obtain ⟨h1, tk, rfl, hk⟩ := x.done
  have noA : ∀ b : Addr, b ∉ (cxOf CX P w K mg base N qual scope f cd A outer s H E).ex := fun b z => absurd (show b ∈ ([] : List Addr) from z) (by simp)
  refine ⟨⟨e0.mod, S.kind, rfl, rfl, Nat.le_refl _, fun y z c h1 h2 => ?_, fun y hy => ?_, fun y c _ h => ?_, fun _ => hd, Around.frames_deeper e0.frames, .inr ⟨rfl, rfl⟩, fun b z => absurd z (noA b), e0.bs, e0.bsz, fun b _ _ => noA b, fun b z => absurd z (noA b), e0.funs, e0.frf⟩,
    rfl, e0.bare, Un.kept hk, ⟨_, x.toInCall.ns, fun i y v h1 h2 h3 => ?_⟩, fun y c h => ⟨_, x.cell y c h⟩, e0.hok.fresh (Nat.le_refl _), fun y c h => ?_, fun p hp => absurd (show p ∈ ([] : List (Addr × Obj)) from hp) (by simp), e0.hok.kept hk, ?_⟩
  · exact name_of_addr x.apart (PySem.mem_of_lookup h1) (PySem.mem_of_lookup h2)
  · have hy : scope.names.lookup y = some .cell ∨ scope.names.lookup y = some .free := hy
    rcases hy with hy | hy
    · exact cell_has hy
    · exact absurd rfl (S.nofree _ (PySem.mem_of_lookup hy))
  · exact Nat.le_of_lt (x.above y c (PySem.mem_of_lookup h))
  · have hi : i < vs.length := by
      unfold start at h2
      by_cases hi : i < vs.length
      · exact hi
      · rw [List.getElem?_append_right (by simpa using hi)] at h2
        rw [List.getElem?_replicate] at h2
        split at h2 <;> cases h2
    have ha : vs[i]? = some v := by
      unfold start at h2
      rw [List.getElem?_append_left (by simpa using hi), List.getElem?_map] at h2
      cases e : vs[i]? with
      | none => rw [e] at h2; cases h2
      | some a => rw [e] at h2; cases h2; rfl
    obtain ⟨u, hu, rv⟩ := r.get ha
    have hp : ps[i]? = some y := by
      rw [← S.pre, List.getElem?_take_of_lt (by omega)]; exact h1
    have ndP : ps.Nodup := by rw [← S.pre]; exact S.nd.sublist (List.take_sublist _ _)
    refine ⟨u, rv, ?_⟩
    rcases S.par y (List.mem_of_getElem? hp) with k | k
    · exact .inl ⟨k, bindL_get ndP hp hu k⟩
    · obtain ⟨c, e⟩ := cell_has (n := s.heap.objs.size + 1) k
      refine .inr ⟨.inl k, c, e, ?_⟩
      have q := x.cell y c e
      rw [bindC_get ndP hp hu (by show scope.names.lookup y ≠ _; rw [k]; decide)] at q
      exact q
  · exact e0.hok.fresh (Nat.le_of_lt (x.above y c (PySem.mem_of_lookup h)))
  · unfold start
    show _ = N.length
    rw [List.length_append, List.length_map, List.length_replicate]
    omega

/-- THE RULE: a def (or a method) of the text, by its body. The body's reading t is chosen for each entry; it is run at the parameters' values -/
theorem fn_of {CX : CXT} {P : Program} {w : World} {K : PySem.W.Frag} {mg : Str → Option Value} {base : Heap} {k : Nat} {f : Addr} {name qual : Str} {params : Arguments} {body : List Stmt} {scope : Scope} {dV kV doc pm cdv ct oc : Value} {an od : Option Addr}
    {osl : Array (Option Value)} {N ps : List Str} {sp : Sp} (lk : K.lookup f = some ⟨oc, od, .func (PySem.W.fnOf name qual params body scope dV kV doc pm an cdv ct), osl⟩) (hcd : PySem.W.codeIn K cdv qual = true) (S : FnScope N ps scope)
    (len : ∀ vs H Q E, sp vs H Q E → vs.length = ps.length)
    (hbody : ∀ (A : Around) (outer : List Env) (s : Shared) (H : Hp) (vs : List V) (Q : VK) (E : XK), Room k (A.deeper (envOfC qual scope s.heap.objs.size f cdv)) → sp vs H Q E →
      ∃ t, PSs (cxOf CX P w K mg base N qual scope f cdv A outer s H E) body t ∧ t { nx := fun _ H' => Q .non H', rt := Q } (start N vs) H) :
    FnOk P w K mg base CX (k + 1) f (PySem.W.fnOf name qual params body scope dV kV doc pm an cdv ct) ps sp := by
  refine ⟨len, fun A outer s H args us vs Q E hr e0 hb r hsp => ?_⟩
  have hl := len _ _ _ _ hsp
  have KX : K.In s.heap := e0.mod.kin.keeps fun b o e => (e0.bs b o e).1
  have lim : s.heap.NoLimit := e0.mod.nolimit.keeps fun b o e => (e0.bs b o e).1
  have hkind : ∀ y ∈ ps.zip us, scope.names.lookup y.1 = some .local ∨ (scope.names.lookup y.1 = some .cell ∧ ((cellsFrom (s.heap.objs.size + 1) scope.names []).lookup y.1).isSome = true) := fun ⟨n, v⟩ hy => by
    rcases S.par n (List.of_mem_zip hy).1 with q | q
    · exact .inl q
    · exact .inr ⟨q, PySem.W.cellsFrom_some _ _ _ (.inl q)⟩
  refine codeAny_call_function hr.depth (KX _ _ lk) rfl S.co S.gen rfl (PySem.W.codeRec_of KX hcd) (hb _ _ _ _ ?_)
  refine wpAny_newFunctionEnv_cells S.kind hkind fun env he s1 x => ?_
  subst he
  refine ⟨lim.keeps x.toInCall.keep, codeAny_func ?_⟩
  obtain ⟨t, ht, hq⟩ := hbody A outer s H vs Q E (hr.deeper _) hsp
  have I : Inv (cxOf CX P w K mg base N qual scope f cdv A outer s H E) [] (start N vs) H s1 := inv_start S hr.hd e0 hl r x
  refine wpAny_mono (ht [] s1 (start N vs) H _ I hq) (fun fl s' hs => ?_) fun e s' hs => hs
  have fin : ∀ {σ' : St} {H' : Hp} {v : V} {u : Value}, Inv (cxOf CX P w K mg base N qual scope f cdv A outer s H E) [] σ' H' s' → RelV v u → Q v H' → CE outer P w H s Q u s' :=
    fun {σ' H' v u} J rv q => ⟨v, H', J.os, J.bare, J.base, J.hok, rv, q⟩
  cases fl with
  | ret u =>
    obtain ⟨v, σ', H', J, rv, q⟩ := hs
    exact fin J rv q
  | next =>
    obtain ⟨σ', H', J, q⟩ := hs
    exact fin (v := V.non) (u := Value.none) J rfl q
  | brk =>
    obtain ⟨_, _, _, q⟩ := hs
    exact False.elim q
  | cont =>
    obtain ⟨_, _, _, q⟩ := hs
    exact False.elim q
end L2

namespace L2
open PySem PySem.Spec PyProof.Rows
section
variable {X : Cx} {x : Str} {p pos : Pos} {e : Expr} {es : List Expr} {t : TA} {id T : String} {r : List V → Hp → VK → Prop}

def tCB (r : List V → Hp → VK → Prop) (t : TA) : TE := fun σ H Q => t σ H fun vs H1 => r vs H1 Q
/-- f(e, ..), f a built-in function -/
theorem pe_callB (hc : CallR X (.builtin id) r) (hg : Gl X x) (hm : X.mg x = none) (hv : bootBuiltins x = some (.builtin id)) (ha : PA X (e :: es) t) (hn : x ≠ "__name__" := by decide) (hdb : (x == ("__debug__" : Str)) = false := by decide)
    (he : starEach (e :: es) X.env = (false, eval e X.env) :: starEach es X.env := by rfl) (hpl : (backTo pos (starEach es X.env)).any (·.1) = false := by rfl) : PE X (.Call (.Name x p) (e :: es) [] pos) (tCB r t) := by
  intro pins s σ H Q I h
  refine wpAny_Call_Name_kw (ld_blt I hg hm hv ?_ hn hdb)
  exact PyProof.Rows.callWith_builtin1 (thn (ha pos pins s σ H _ I h) fun us s1 ⟨vs, H1, I1, r1, q1⟩ => hc pins s1 σ H1 vs us Q I1 r1 q1) he hpl
/-- T(e, ..), T a built-in type -/
theorem pe_callTy (hc : CallR X (.type T) r) (hg : Gl X x) (hm : X.mg x = none) (hv : bootBuiltins x = some (.type T)) (ha : PA X (e :: es) t) (hn : x ≠ "__name__" := by decide) (hdb : (x == ("__debug__" : Str)) = false := by decide)
    (he : starEach (e :: es) X.env = (false, eval e X.env) :: starEach es X.env := by rfl) (hpl : (backTo pos (starEach es X.env)).any (·.1) = false := by rfl) : PE X (.Call (.Name x p) (e :: es) [] pos) (tCB r t) := by
  intro pins s σ H Q I h
  refine wpAny_Call_Name_kw (ld_blt I hg hm hv ?_ hn hdb)
  exact PyProof.Rows.callWith_type1 (thn (ha pos pins s σ H _ I h) fun us s1 ⟨vs, H1, I1, r1, q1⟩ => hc pins s1 σ H1 vs us Q I1 r1 q1) he hpl
/-- T() -/
theorem pe_callTy0 (hc : CallR X (.type T) r) (hg : Gl X x) (hm : X.mg x = none) (hv : bootBuiltins x = some (.type T)) (hn : x ≠ "__name__" := by decide) (hdb : (x == ("__debug__" : Str)) = false := by decide) :
    PE X (.Call (.Name x p) [] [] pos) (tCB r tNil) := by
  intro pins s σ H Q I h
  refine wpAny_Call_Name_kw (ld_blt I hg hm hv ?_ hn hdb)
  exact PyProof.Rows.callWith_type0 (hc pins s σ H [] [] Q I .nil h)
end
end L2

namespace HT
open PySem PyProof.Rows

/-- t < u of tuples of ints -/
def lexLt : List Int → List Int → Bool
  | [], [] => false
  | [], _ :: _ => true
  | _ :: _, [] => false
  | x :: xs, y :: ys => if x = y then lexLt xs ys else decide (x < y)
theorem lexLt_cons (x y : Int) (xs ys : List Int) : lexLt (x :: xs) (y :: ys) = if x = y then lexLt xs ys else decide (x < y) := rfl
theorem lexLt_nil_nil : lexLt [] [] = false := rfl
theorem lexLt_nil_cons (y : Int) (ys : List Int) : lexLt [] (y :: ys) = true := rfl
theorem lexLt_cons_nil (x : Int) (xs : List Int) : lexLt (x :: xs) [] = false := rfl

theorem eqAt_int (A : Around) (s : Shared) (a : Int) (t : Tok) (c : Int) (u : Tok) : ∃ e, SeqAt.EqAt A s (.int a t) (.int c u) e ∧ (e = true ↔ a = c) :=
  ⟨(a == c), SeqAt.EqAt.int_int a t c u, by simp⟩
theorem rcLt_int (A : Around) (s : Shared) (a : Int) (t : Tok) (c : Int) (u : Tok) (prog : Program) (w : World) (E : Value → Shared → Prop) (Q : Value → Shared → Prop) (h : Q (.bool (decide (a < c))) s) :
    wpAny (model prog w) A (richCompare .Lt (.int a t) (.int c u)) Q E s :=
  (PyProof.Rows.lt_int h : wpAny (model prog w) A (compareOp .Lt (.int a t) (.int c u)) Q E s)

section
open PySem.SeqAt
open PySem.AutoSeq1 (wpAny_loadPart')
open PySem.MeetsSeq PySem.MeetsSeq2 PySem.MeetsSeq3

theorem tuple_lt_ints (l b : Addr) (items items2 : Array Value) (n n2 : Nat) (dd dd2 : Option Addr) (sl sl2 : Array (Option Value)) (ns ms : List Int) (hi : IntsAre items.toList ns) (hj : IntsAre items2.toList ms) :
    Meets (Builtin.«tuple.__lt__» ⟨[.ref l, .ref b], []⟩)
      (fun _ R s => s.heap.get? l = some { cls := .type "tuple", dict := dd, data := .seq items n, slots := sl } ∧ s.heap.get? b = some { cls := .type "tuple", dict := dd2, data := .seq items2 n2, slots := sl2 } ∧
        R (.ok (.ret (.bool (lexLt ns ms)))) s) :=
  .of_wp fun prog w A R s h => by
    obtain ⟨hp, g, d, tk, os⟩ := s; obtain ⟨hl, hb, h⟩ := h
    have f2 := AutoSeq1.sub_tuple_tuple
    have z1 : items.size = ns.length := by rw [← hi.length]; simp
    have z2 : items2.size = ms.length := by rw [← hj.length]; simp
    wp_walk using wpAny_loadPart' hl, wpAny_loadPart' hb, wpAny_forIn_list _ (fun rest b s' => b.1 = none ∧ s' = ⟨hp, g, d, tk, os⟩ ∧ ∃ (vs ws : List Value) (ns' ms' : List Int), rest = vs.zip ws ∧
      IntsAre vs ns' ∧ IntsAre ws ms' ∧ ns'.length + items2.size = ms'.length + items.size ∧ R (.ok (.ret (.bool (lexLt ns' ms')))) ⟨hp, g, d, tk, os⟩) _
    case turn =>
      rintro ⟨y, x⟩ rest b s' ⟨hb', rfl, vs, ws, ns', ms', hz, hvi, hwi, hlen, hR⟩
      cases hvi with
      | nil => rw [List.zip_nil_left] at hz; cases hz
      | cons a t hvi' =>
        cases hwi with
        | nil => rw [List.zip_nil_right] at hz; cases hz
        | cons c u hwi' =>
          rw [List.zip_cons_cons] at hz
          injection hz with hyx hrest
          injection hyx with hy hx
          subst hy hx
          rw [lexLt_cons] at hR
          simp only [List.length_cons] at hlen
          obtain ⟨e, he, hiff⟩ := eqAt_int A.in1 ⟨hp, g, d, tk, os⟩ a t c u
          refine wpAny_bind (he prog w _ _ ?_)
          cases e with
          | true =>
            rw [if_pos (hiff.mp rfl)] at hR
            wp_walk
            exact ⟨rfl, rfl, _, _, _, _, hrest, hvi', hwi', by omega, hR⟩
          | false =>
            rw [if_neg (fun q => absurd (hiff.mpr q) Bool.false_ne_true)] at hR
            have hri := rcLt_int A.in1 ⟨hp, g, d, tk, os⟩ a t c u prog w
            wp_walk using hri
            exact ⟨_, rfl, by simpa using hR⟩
    case fin =>
      rintro ⟨b1, b2⟩ s' ⟨hb', rfl, vs, ws, ns', ms', hz, hvi, hwi, hlen, hR⟩
      simp only at hb'
      subst hb'
      have hv : lexLt ns' ms' = decide (items.size < items2.size) := by
        cases hvi with
        | nil =>
          cases hwi with
          | nil =>
            simp only [List.length_nil] at hlen
            rw [lexLt_nil_nil]
            exact (decide_eq_false (by omega)).symm
          | cons c u hw =>
            simp only [List.length_nil, List.length_cons] at hlen
            rw [lexLt_nil_cons]
            exact (decide_eq_true (by omega)).symm
        | cons a t hv =>
          cases hwi with
          | nil =>
            simp only [List.length_nil, List.length_cons] at hlen
            rw [lexLt_cons_nil]
            exact (decide_eq_false (by omega)).symm
          | cons c u hw =>
            rw [List.zip_cons_cons] at hz
            cases hz
      rw [hv] at hR
      wp_walk
      exact ⟨_, rfl, by simpa [Builtin.Tuple.tupleCompareSizes] using hR⟩
    case h =>
      exact ⟨rfl, rfl, items.toList, items2.toList, ns, ms, rfl, hi, hj, by omega, h⟩
end

section
variable {prog : Program} {w : World} {A : Around} {E : Value → Shared → Prop} {s : Shared}

theorem lt_tupInts {l b : Addr} {items items2 : Array Value} {ns ms : List Int} {Q : Value → Shared → Prop} (hl : IsTup s.heap l items) (hb : IsTup s.heap b items2) (hi : IntsAre items.toList ns) (hj : IntsAre items2.toList ms)
    (hu : A.units < cLine) (h : Q (.bool (lexLt ns ms)) s) : wpAny (model prog w) A (compareOp .Lt (.ref l) (.ref b)) Q E s := by
  obtain ⟨⟨cls, dd, data, sl⟩, ho, hc, n, hd⟩ := id hl
  obtain ⟨⟨cls2, dd2, data2, sl2⟩, ho2, hc2, n2, hd2⟩ := id hb
  simp only at hc hd hc2 hd2
  subst hc hd hc2 hd2
  exact richCompare_meets_room (op := .Lt) ⟨_, ho, rfl⟩ ⟨_, ho2, rfl⟩ PySem.F.slot_tuple_lt PySem.F.entry_tuple_lt (PySem.F.args_tuple_lt_2 _ _) (tuple_lt_ints l b items items2 n n2 dd dd2 sl sl2 ns ms hi hj)
    ⟨ho, ho2, show Value.bool (lexLt ns ms) ≠ Value.notImplemented ∧ Q (.bool (lexLt ns ms)) s from ⟨(fun x => nomatch x), h⟩⟩ hu

/-- t + u, t not empty -/
theorem cat_tup {t b : Addr} {vs ws : List Value} {Q : Value → Shared → Prop} (ht : IsTup s.heap t vs.toArray) (hb : IsTup s.heap b ws.toArray) (hv : vs ≠ [])
    (h1 : ws = [] → Q (.ref t) s) (h2 : ws ≠ [] → Q (.ref s.heap.objs.size) { s with heap := s.heap.push { cls := .type "tuple", data := .seq (vs ++ ws).toArray } })
    (hsz : vs.length + ws.length ≤ sizeLine) : wpAny (model prog w) A (binaryOp .Add (.ref t) (.ref b)) Q E s := by
  obtain ⟨⟨cls, dd, data, sl⟩, ho, hc, n, hd⟩ := id ht
  obtain ⟨⟨cls2, dd2, data2, sl2⟩, ho2, hc2, n2, hd2⟩ := id hb
  simp only at hc hd hc2 hd2
  subst hc hd hc2 hd2
  have e : vs.toArray ++ ws.toArray = (vs ++ ws).toArray := by simp
  by_cases hw : ws = []
  · exact concat_meets ⟨_, ho, rfl⟩ ⟨_, ho2, rfl⟩ noFill_tuple_add seq_tuple_add PySem.F.slot_tuple_add PySem.F.entry_tuple_add (PySem.F.args_tuple_add_2 _ _)
      (tuple_addW1 t b vs.toArray ws.toArray n n2 dd dd2 sl sl2 (by simpa using hv) (by simp [hw])) ⟨ho, ho2, h1 hw⟩
  · refine concat_meets ⟨_, ho, rfl⟩ ⟨_, ho2, rfl⟩ noFill_tuple_add seq_tuple_add PySem.F.slot_tuple_add PySem.F.entry_tuple_add (PySem.F.args_tuple_add_2 _ _)
      (tuple_addW2 t b vs.toArray ws.toArray n n2 dd dd2 sl sl2 (by simpa using hv) (by simpa using hw) (by rw [List.size_toArray, List.size_toArray]; exact hsz)) ⟨ho, ho2, ?_⟩
    rw [e]
    exact h2 hw

/-! ### t[a:b], not the whole -/
/-- a slice's bound as a place among n (d where it is left out) -/
def sIx (n d : Nat) : Option Int → Nat
  | none => d
  | some v => if v < 0 then (v + (n : Int)).toNat else min v.toNat n
theorem sIx_none (n d : Nat) : sIx n d none = d := rfl
theorem sIx_nat (n d k : Nat) : sIx n d (some (k : Int)) = min k n := by
  show (if (k : Int) < 0 then ((k : Int) + (n : Int)).toNat else min (k : Int).toNat n) = min k n
  rw [if_neg (by omega), Int.toNat_natCast]
theorem sIx_le (n d : Nat) (hd : d ≤ n) (o : Option Int) : sIx n d o ≤ n := by
  cases o with
  | none => exact hd
  | some v =>
    show (if v < 0 then (v + (n : Int)).toNat else min v.toNat n) ≤ n
    by_cases hv : v < 0
    · rw [if_pos hv]; omega
    · rw [if_neg hv]; exact Nat.min_le_right _ _
theorem clip_eq (v : Int) (n d : Nat) : (if v < 0 then max (v + (n : Int)) 0 else min v (n : Int)) = ((sIx n d (some v) : Nat) : Int) := by
  show (if v < 0 then max (v + (n : Int)) 0 else min v (n : Int)) = (((if v < 0 then (v + (n : Int)).toNat else min v.toNat n) : Nat) : Int)
  by_cases hv : v < 0
  · simp only [if_pos hv]; omega
  · simp only [if_neg hv]; omega
theorem adjust_gen (lo hi : Option Int) (n : Nat) : Builtin.Slice.sliceAdjust lo hi 1 (n : Int) = (((sIx n 0 lo : Nat) : Int), ((sIx n n hi : Nat) : Int)) := by
  have h1 : ¬ ((1 : Int) < 0) := by omega
  unfold Builtin.Slice.sliceAdjust
  simp only [h1, if_false]
  refine Prod.ext ?_ ?_
  · cases lo with
    | none => rfl
    | some v => exact clip_eq v n 0
  · cases hi with
    | none => rfl
    | some v => exact clip_eq v n n
theorem places_gen (i j : Nat) : Builtin.Slice.slicePlaces (i : Int) (j : Int) 1 = j - i := by
  unfold Builtin.Slice.slicePlaces
  have h1 : (1 : Int) > 0 := by omega
  simp only [h1, if_true, Int.ediv_one]
  split <;> omega
theorem slicePart_ {v : Value} {o : Option Int} {Q : Option Int → Shared → Prop} (p : IsPart v o) (h : Q o s) : wpAny (model prog w) A (Builtin.Slice.slicePartIndex v) Q E s := by
  cases p with
  | none => exact slicePart_none h
  | int i t => exact slicePart_int h
theorem sliceApplied_gen {sl : Addr} {vl vu : Value} {lo hi : Option Int} {n : Nat} {Q : Int × Int × Nat → Shared → Prop} (hs : s.heap.IsSliceOf sl vl vu .none) (pl : IsPart vl lo) (pu : IsPart vu hi)
    (h : Q (((sIx n 0 lo : Nat) : Int), 1, sIx n n hi - sIx n 0 lo) s) : wpAny (model prog w) A (Builtin.Slice.sliceApplied (.ref sl) (pure (n : Int))) Q E s := by
  obtain ⟨os, hos, hcs, hds⟩ := id hs
  unfold Builtin.Slice.sliceApplied Builtin.Slice.sliceFields
  refine wpAny_bind (wpAny_bind (wpAny_field hos hds (x := vl) rfl (wpAny_bind (wpAny_field hos hds (x := vu) rfl (wpAny_bind (wpAny_field hos hds (x := .none) rfl (wpAny_pure ?_)))))))
  refine wpAny_bind (slicePart_none ?_)
  show wpAny _ _ (if ((1 : Int) == 0) = true then _ else _) _ _ s
  rw [if_neg (by decide)]
  refine wpAny_bind (slicePart_ pl (wpAny_bind (slicePart_ pu (wpAny_bind (wpAny_pure ?_)))))
  show wpAny _ _ (match Builtin.Slice.sliceAdjust lo hi 1 (n : Int) with | (lo, hi) => pure (lo, (1 : Int), Builtin.Slice.slicePlaces lo hi 1)) _ _ s
  rw [adjust_gen lo hi n]
  show wpAny _ _ (pure (((sIx n 0 lo : Nat) : Int), (1 : Int), Builtin.Slice.slicePlaces ((sIx n 0 lo : Nat) : Int) ((sIx n n hi : Nat) : Int) 1)) _ _ s
  rw [places_gen]
  exact wpAny_pure h
theorem pick_gen (xs : Array Value) (i k : Nat) : ((List.range k).filterMap fun (m : Nat) => xs[((i : Int) + (m : Int) * 1).toNat]?).toArray = ((xs.toList.drop i).take k).toArray := by
  have e : (fun (m : Nat) => xs[((i : Int) + (m : Int) * 1).toNat]?) = fun m => xs[i + m]? := by
    funext m
    have : ((i : Int) + (m : Int) * 1).toNat = i + m := by omega
    rw [this]
  rw [e]
  have := pick_run xs i k
  rw [List.filterMap_map] at this
  have e2 : ((fun x => xs[x]?) ∘ fun x => i + x) = fun m => xs[i + m]? := rfl
  rw [e2] at this
  rw [this]

theorem getItem_tuple_cut {t sl : Addr} {items : Array Value} {vl vu : Value} {lo hi : Option Int} {Q : Value → Shared → Prop} (ht : IsTup s.heap t items) (hs : s.heap.IsSliceOf sl vl vu .none) (pl : IsPart vl lo) (pu : IsPart vu hi)
    (hw : ¬ (sIx items.size 0 lo = 0 ∧ sIx items.size items.size hi = items.size))
    (h : Q (.ref s.heap.objs.size) { s with heap := s.heap.push { cls := .type "tuple", data := .seq ((items.toList.drop (sIx items.size 0 lo)).take (sIx items.size items.size hi - sIx items.size 0 lo)).toArray } })
    (hsz : items.size ≤ sizeLine) : wpAny (model prog w) A (getItem (.ref t) (.ref sl)) Q E s := by
  have htake : sizeOk (.seq ((items.toList.drop (sIx items.size 0 lo)).take (sIx items.size items.size hi - sIx items.size 0 lo)).toArray) := by
    show ((items.toList.drop (sIx items.size 0 lo)).take (sIx items.size items.size hi - sIx items.size 0 lo)).toArray.size ≤ sizeLine
    rw [List.size_toArray, List.length_take, List.length_drop, Array.length_toList]
    omega
  have hj : sIx items.size items.size hi ≤ items.size := sIx_le _ _ (Nat.le_refl _) hi
  obtain ⟨os, hos, hcs, hds⟩ := id hs
  have hTs : s.TypeIs (.ref sl) "slice" := ⟨os, hos, hcs⟩
  unfold getItem
  try with_reducible refine wpAny_holding ?_
  first | refine wpAny_bind (wpAny_pure ?_) | skip
  refine wpAny_bind (wpAny_sequenceKey ht.typeIs (by decide) ?_)
  refine wpAny_bind (wpAny_callSpecial?_slot (name := Str.ofString "__getitem__") ht.typeIs PyProof.Rows.slot_tuple_getitem
    (wpAny_call_entry PyProof.Rows.slot_tuple_getitem ht.typeIs entry_tuple_getitem ?_ (args_tuple_getitem _ _)))
  show wpAny _ _ (Builtin.Tuple.tupleItemsOf (.ref t) >>= _) _ _ s
  refine wpAny_bind (tupleItemsOf_ ht ?_)
  refine wpAny_bind (wpAny_typeOf hTs ?_)
  rw [if_pos (by decide)]
  refine wpAny_bind (sliceApplied_gen hs pl pu ?_)
  have hno : ¬ ((((sIx items.size 0 lo : Nat) : Int) == 0 && (1 : Int) == 1 && (sIx items.size items.size hi - sIx items.size 0 lo) == items.size) = true) := by
    intro q
    rw [Bool.and_eq_true, Bool.and_eq_true] at q
    have q1 : ((sIx items.size 0 lo : Nat) : Int) = 0 := eq_of_beq q.1.1
    have q2 : sIx items.size items.size hi - sIx items.size 0 lo = items.size := eq_of_beq q.2
    exact hw ⟨by omega, by omega⟩
  show wpAny _ _ (if (((sIx items.size 0 lo : Nat) : Int) == 0 && (1 : Int) == 1 && (sIx items.size items.size hi - sIx items.size 0 lo) == items.size) = true then _ else _) _ _ s
  rw [if_neg hno, pick_gen]
  first
    | exact wpAny_bind (m := Builtin.Tuple.tupleExact _) (wpAny_newObj_type (wpAny_pure ⟨_, rfl, wpAny_pure h⟩) htake)
    | exact wpAny_bind (m := Builtin.Tuple.tupleExact _) (wpAny_newObj_type (wpAny_bind (wpAny_pure (wpAny_pure ⟨_, rfl, wpAny_pure h⟩))) htake)
    | exact wpAny_bind (wpAny_bind (m := Builtin.Tuple.tupleExact _) (wpAny_newObj_type (wpAny_pure (wpAny_pure ⟨_, rfl, wpAny_pure h⟩)) htake))
    | exact wpAny_bind (wpAny_bind (m := Builtin.Tuple.tupleExact _) (wpAny_newObj_type (wpAny_pure ⟨_, rfl, wpAny_pure h⟩) htake))
end
end HT

namespace L2
open PySem PySem.Spec PyProof.Rows

/-! ### the parts of a slice -/
abbrev TO := St → Hp → (Option Int → Hp → Prop) → Prop
/-- a slice's part (left out, or an int) -/
def PO (X : Cx) (e : Option Expr) (t : TO) : Prop :=
  ∀ (pins : List (Addr × Obj)) (s : Shared) (σ : St) (H : Hp) (Q : Option Int → Hp → Prop), Inv X pins σ H s → t σ H Q →
    wpAny (model X.prog X.w) X.A (evalPart e X.env) (fun u s' => ∃ o H', Inv X pins σ H' s' ∧ IsPart u o ∧ Q o H') X.xe s
def tNoPart : TO := fun _ H Q => Q none H
def tPart (t : TE) : TO := fun σ H Q => t σ H fun x H1 => ∃ i, x = .int i ∧ Q (some i) H1

theorem intsAre_of {ns : List Int} : ∀ {us : List Value}, Vals (ns.map V.int) us → IntsAre us ns := by
  induction ns with
  | nil => intro us r; rw [List.map_nil] at r; cases r; exact .nil
  | cons n ns ih =>
    intro us r
    rw [List.map_cons] at r
    cases r with
    | cons r1 r2 =>
      obtain ⟨t, e⟩ := r1
      subst e
      exact .cons n t (ih r2)

section
variable {X : Cx} {e : Expr} {te : TE} {lo hi : Option Expr} {tl th : TO} {pos p2 : Pos}

theorem po_none : PO X none tNoPart := by
  intro pins s σ H Q I h
  rw [evalPart_none]
  exact wpAny_pure ⟨none, H, I, .none, h⟩
theorem po_some (h : PE X e te) : PO X (some e) (tPart te) := by
  intro pins s σ H Q I hw
  rw [evalPart_some]
  refine thn (h pins s σ H _ I hw) fun u s1 ⟨x, H1, I1, r1, q1⟩ => ?_
  obtain ⟨i, rfl, q⟩ := q1
  obtain ⟨t, rfl⟩ := r1
  exact ⟨some i, H1, I1, .int i t, q⟩

/-- what a slice of a value is, by values: the slice object stands at sl -/
def SlR (X : Cx) (r : V → Option Int → Option Int → Hp → VK → Prop) : Prop :=
  ∀ (pins : List (Addr × Obj)) (s : Shared) (σ : St) (H : Hp) (x : V) (v vl vu : Value) (lo hi : Option Int) (sl : Addr) (Q : VK), Inv X pins σ H s → RelV x v → s.heap.IsSliceOf sl vl vu .none → IsPart vl lo → IsPart vu hi → r x lo hi H Q →
    ∃ T id, typeLookup (.type T) "__getitem__" = pure (some (.builtin id)) ∧ s.TypeIs v T ∧ wpAny (model X.prog X.w) X.A (getItem v (.ref sl)) (EP X pins σ Q) X.xe s
theorem SlR.or {r r' : V → Option Int → Option Int → Hp → VK → Prop} (h : SlR X r) (h' : SlR X r') : SlR X (fun x lo hi H Q => r x lo hi H Q ∨ r' x lo hi H Q) := by
  intro pins s σ H x v vl vu lo hi sl Q I rx hs pl pu q
  rcases q with q | q
  · exact h pins s σ H x v vl vu lo hi sl Q I rx hs pl pu q
  · exact h' pins s σ H x v vl vu lo hi sl Q I rx hs pl pu q
def tSl (r : V → Option Int → Option Int → Hp → VK → Prop) (te : TE) (tl th : TO) : TE := fun σ H Q => te σ H fun x H1 => tl σ H1 fun l H2 => th σ H2 fun u H3 => r x l u H3 Q
/-- a[lo:hi], any a -/
theorem pe_slice {r : V → Option Int → Option Int → Hp → VK → Prop} (hr : SlR X r) (he : PE X e te) (hl : PO X lo tl) (hu : PO X hi th) : PE X (.Subscript e (.Slice lo hi none p2) pos) (tSl r te tl th) := by
  intro pins s σ H Q I h
  refine Subscript_ (thn (he pins s σ H _ I h) fun v s1 ⟨x, H1, I1, r1, q1⟩ => ?_)
  refine wpAny_Slice (thn (hl pins s1 σ H1 _ I1 q1) fun vl s2 ⟨l, H2, I2, pl, q2⟩ => thn (hu pins s2 σ H2 _ I2 q2) fun vu s3 ⟨u, H3, I3, pu, q3⟩ => ?_)
  rw [evalPart_none]
  refine wpAny_pure ?_
  have I4 : Inv X pins σ H3 { s3 with heap := s3.heap.push { cls := .type "slice", data := .fields #[vl, vu, .none] } } := I3.kept (t' := s3.toks) fun b ob q => Heap.get?_push_of_some _ q
  obtain ⟨T, id, hT, ht, hg⟩ := hr pins { s3 with heap := s3.heap.push { cls := .type "slice", data := .fields #[vl, vu, .none] } } σ H3 x v vl vu l u s3.heap.objs.size Q I4 r1 (Heap.IsSliceOf.new ..) pl pu q3
  show wpAny (model X.prog X.w) X.A (subscriptTail e (.Slice lo hi none p2) v (.ref s3.heap.objs.size)) (EP X pins σ Q) X.xe { s3 with heap := s3.heap.push { cls := .type "slice", data := .fields #[vl, vu, .none] } }
  exact tail_any (ops := [.ref s3.heap.objs.size, v]) ht hT hg (by with_unfolding_all rfl)

/-- the items of xs[lo:hi] -/
def cutV (xs : List V) (lo hi : Option Int) : List V := (xs.drop (HT.sIx xs.length 0 lo)).take (HT.sIx xs.length xs.length hi - HT.sIx xs.length 0 lo)
theorem cutV_length (xs : List V) (lo hi : Option Int) : (cutV xs lo hi).length ≤ xs.length := by
  unfold cutV
  rw [List.length_take, List.length_drop]
  omega
/-- t[lo:hi], not the whole of it (the whole would be t itself) -/
def rSlT (K : PySem.W.Frag) : V → Option Int → Option Int → Hp → VK → Prop := fun x lo hi H Q => ∃ a xs, x = .ref a ∧ SqT K H a xs ∧
  ¬ (HT.sIx xs.length 0 lo = 0 ∧ HT.sIx xs.length xs.length hi = xs.length) ∧ ∀ p, H p = none → Q (.ref p) (upd H p (.tup (cutV xs lo hi)))
theorem sl_tup : SlR X (rSlT X.K) := by
  intro pins s σ H x v vl vu lo hi sl Q I rx hs pl pu h
  obtain ⟨a, xs, rfl, hx, hw, q⟩ := h
  cases rx
  obtain ⟨its, r, ht, hz⟩ := I.tuple hx
  have hlen : its.toArray.size = xs.length := by rw [List.size_toArray]; exact r.length.symm
  refine ⟨"tuple", _, PyProof.Rows.slot_tuple_getitem.lookup, ht.typeIs, ?_⟩
  refine HT.getItem_tuple_cut ht hs pl pu (by rw [hlen]; exact hw) ?_ (by rw [hlen]; exact hz)
  rw [hlen]
  refine ⟨.ref s.heap.objs.size, _, I.laid (t' := s.toks) (o := .tup (cutV xs lo hi)) (fun b ob q => Heap.get?_push_of_some _ q) (Nat.le_refl _) ?_, rfl, q _ (I.hok.fresh (Nat.le_refl _))⟩
  exact ⟨Nat.le_trans (cutV_length xs lo hi) hz, _, (r.drop (HT.sIx xs.length 0 lo)).take (HT.sIx xs.length xs.length hi - HT.sIx xs.length 0 lo), IsTup.new _ _⟩

/-! ### t < u, t + u -/
def rLtT (K : PySem.W.Frag) : R2 := fun x y H Q => ∃ a b ns ms, x = .ref a ∧ y = .ref b ∧ SqT K H a (ns.map V.int) ∧ SqT K H b (ms.map V.int) ∧ Q (.bl (HT.lexLt ns ms)) H
theorem op_ltT (hu : X.A.units < cLine) : OpR X (compareOp .Lt) (rLtT X.K) := by
  intro pins s σ H x y v u Q I rx ry h
  obtain ⟨a, b, ns, ms, rfl, rfl, ha, hb, q⟩ := h
  cases rx
  cases ry
  obtain ⟨its, r1, p1, _⟩ := I.tuple ha
  obtain ⟨its2, r2, p2, _⟩ := I.tuple hb
  have i1 : IntsAre its.toArray.toList ns := intsAre_of r1
  have i2 : IntsAre its2.toArray.toList ms := intsAre_of r2
  exact HT.lt_tupInts p1 p2 i1 i2 hu ⟨.bl (HT.lexLt ns ms), H, I, rfl, q⟩
/-- t + u, t not empty: u empty gives t itself -/
def rCatT (K : PySem.W.Frag) : R2 := fun x y H Q => ∃ a b xs ys, x = .ref a ∧ y = .ref b ∧ SqT K H a xs ∧ SqT K H b ys ∧ xs ≠ [] ∧ xs.length + ys.length ≤ sizeLine ∧
  (ys = [] → Q (.ref a) H) ∧ (ys ≠ [] → ∀ p, H p = none → Q (.ref p) (upd H p (.tup (xs ++ ys))))
theorem Vals.nil_iff {xs : List V} {us : List Value} (r : Vals xs us) : us = [] ↔ xs = [] := by
  cases r with
  | nil => simp
  | cons _ _ => simp
theorem op_catT : OpR X (binaryOp .Add) (rCatT X.K) := by
  intro pins s σ H x y v u Q I rx ry h
  obtain ⟨a, b, xs, ys, rfl, rfl, ha, hb, hx, hz, q1, q2⟩ := h
  cases rx
  cases ry
  obtain ⟨its, r1, p1, _⟩ := I.tuple ha
  obtain ⟨its2, r2, p2, _⟩ := I.tuple hb
  refine HT.cat_tup p1 p2 (fun z => hx (r1.nil_iff.mp z)) (fun z => ⟨.ref a, H, I, rfl, q1 (r2.nil_iff.mp z)⟩) (fun z => ?_) (by rw [← r1.length, ← r2.length]; exact hz)
  refine ⟨.ref s.heap.objs.size, _, I.laid (t' := s.toks) (o := .tup (xs ++ ys)) (fun b ob q => Heap.get?_push_of_some _ q) (Nat.le_refl _) ?_, rfl, q2 (fun w => z (r2.nil_iff.mpr w)) _ (I.hok.fresh (Nat.le_refl _))⟩
  exact ⟨by rw [List.length_append]; exact hz, _, r1.append r2, IsTup.new _ _⟩
/-- tuple(t) -/
theorem call_tupleT : CallR X (.type "tuple") (fun xs H Q => ∃ a ys, xs = [.ref a] ∧ SqT X.K H a ys ∧ Q (.ref a) H) := by
  intro pins s σ H xs us Q I r h
  obtain ⟨a, ys, rfl, ha, q⟩ := h
  obtain ⟨u, rfl, ru⟩ := vals1 r
  cases ru
  obtain ⟨its, _, p1, _⟩ := I.tuple ha
  exact call_tuple_same (items := its.toArray) p1 ⟨.ref a, H, I, rfl, q⟩
end
end L2

namespace L2
open PySem PySem.Spec PyProof.Rows

/-! ### places -/
/-- the place that an index of any sign means -/
def ixN (n : Nat) (i : Int) : Option Nat := if 0 ≤ i then (if i < n then some i.toNat else none) else if -(n : Int) ≤ i then some (i + n).toNat else none
def atI {α : Type} (xs : List α) (i : Int) : Option α := (ixN xs.length i).bind fun j => xs[j]?
theorem ixN_seq {n : Nat} {i : Int} {j : Nat} (h : ixN n i = some j) : seqIndex? i n = some j ∧ j < n ∧ -(n : Int) ≤ i ∧ i < n := by
  unfold ixN at h
  by_cases h0 : 0 ≤ i
  · rw [if_pos h0] at h
    by_cases h1 : i < n
    · rw [if_pos h1] at h
      have e : i.toNat = j := Option.some.inj h
      exact ⟨by rw [seqIndex_of h0 h1, e], by omega, by omega, h1⟩
    · rw [if_neg h1] at h; cases h
  · rw [if_neg h0] at h
    by_cases h1 : -(n : Int) ≤ i
    · rw [if_pos h1] at h
      have e : (i + n).toNat = j := Option.some.inj h
      exact ⟨by rw [seqIndex_neg (by omega) h1, e], by omega, h1, by omega⟩
    · rw [if_neg h1] at h; cases h
theorem atI_get {α : Type} {xs : List α} {i : Int} {v : α} (h : atI xs i = some v) : ∃ j, seqIndex? i xs.length = some j ∧ xs[j]? = some v ∧ j < xs.length ∧ -(xs.length : Int) ≤ i ∧ i < xs.length := by
  unfold atI at h
  cases e : ixN xs.length i with
  | none => rw [e] at h; cases h
  | some j =>
    rw [e] at h
    obtain ⟨h1, h2, h3, h4⟩ := ixN_seq e
    exact ⟨j, h1, h, h2, h3, h4⟩
theorem atI_nat {α : Type} {xs : List α} {j : Nat} {v : α} (h : xs[j]? = some v) : atI xs (j : Int) = some v := by
  have hj : j < xs.length := (List.getElem?_eq_some_iff.mp h).1
  have e : ixN xs.length (j : Int) = some j := by
    unfold ixN
    rw [if_pos (by omega), if_pos (by omega)]; simp
  unfold atI; rw [e]; exact h
theorem atI_last {α : Type} (xs : List α) (v : α) : atI (xs ++ [v]) (-1) = some v := by
  have hl : (xs ++ [v]).length = xs.length + 1 := by simp
  have e : ixN (xs ++ [v]).length (-1) = some xs.length := by
    unfold ixN
    rw [hl, if_neg (by decide), if_pos (by omega)]
    congr 1
    omega
  unfold atI
  rw [e]
  show (xs ++ [v])[xs.length]? = some v
  simp

/-! ### what may be subscripted -/
/-- what stands as an index of a plain subscript -/
def PlainIx (b : Expr) : Prop := ∀ o i, subscripted b false o i = operate [o, i] (getItem o i)
/-- a subscript by values -/
def IxR (X : Cx) (r : R2) : Prop :=
  ∀ (value slice : Expr) (pins : List (Addr × Obj)) (s : Shared) (σ : St) (H : Hp) (x y : V) (v u : Value) (Q : VK), Inv X pins σ H s → RelV x v → RelV y u → r x y H Q →
    subscripted slice false v u = operate [v, u] (getItem v u) → wpAny (model X.prog X.w) X.A (subscriptTail value slice v u) (EP X pins σ Q) X.xe s
/-- a call of a builtin's method by values: the receiver, the arguments -/
def MtR (X : Cx) (id : String) (r : V → List V → Hp → VK → Prop) : Prop :=
  ∀ (pins : List (Addr × Obj)) (s : Shared) (σ : St) (H : Hp) (x : V) (xs : List V) (v : Value) (us : List Value) (Q : VK), Inv X pins σ H s → RelV x v → Vals xs us → r x xs H Q →
    wpAny (model X.prog X.w) X.A (call (.builtin id) (v :: us)) (EP X pins σ Q) X.xe s
section
variable {X : Cx} {a b : Expr} {ta tb : TE} {pos : Pos}
theorem IxR.or {r r' : R2} (h : IxR X r) (h' : IxR X r') : IxR X (fun x y H Q => r x y H Q ∨ r' x y H Q) := by
  intro value slice pins s σ H x y v u Q I rx ry q hs
  rcases q with q | q
  · exact h value slice pins s σ H x y v u Q I rx ry q hs
  · exact h' value slice pins s σ H x y v u Q I rx ry q hs
theorem MtR.or {id : String} {r r' : V → List V → Hp → VK → Prop} (h : MtR X id r) (h' : MtR X id r') : MtR X id (fun x xs H Q => r x xs H Q ∨ r' x xs H Q) := by
  intro pins s σ H x xs v us Q I rx rs q
  rcases q with q | q
  · exact h pins s σ H x xs v us Q I rx rs q
  · exact h' pins s σ H x xs v us Q I rx rs q
/-- a[b] -/
theorem pe_ix {r : R2} (hr : IxR X r) (ha : PE X a ta) (hb : PE X b tb) (hs : PlainIx b) : PE X (.Subscript a b pos) (tOp r ta tb) := by
  intro pins s σ H Q I h
  exact Subscript_ (binT ha hb I h fun v u s2 x y H2 I2 rx ry q => hr a b pins s2 σ H2 x y v u Q I2 rx ry q (hs _ _))

def rIxL (K : PySem.W.Frag) : R2 := fun x y H Q => ∃ p xs i v, x = .ref p ∧ y = .int i ∧ SqL K H p xs ∧ atI xs i = some v ∧ Q v H
def rIxT (K : PySem.W.Frag) : R2 := fun x y H Q => ∃ p xs i v, x = .ref p ∧ y = .int i ∧ SqT K H p xs ∧ atI xs i = some v ∧ Q v H
def rIxS : R2 := fun x y H Q => ∃ z i c, x = .str z ∧ y = .int i ∧ z.length ≤ sizeLine ∧ atI z.cps.toList i = some c ∧ Q (.str ⟨#[c]⟩) H
theorem ix_list : IxR X (rIxL X.K) := by
  intro value slice pins s σ H x y v u Q I rx ry h hs
  obtain ⟨p, xs, i, z, rfl, rfl, hq, he, q⟩ := h
  cases rx
  obtain ⟨t, rfl⟩ := ry
  obtain ⟨its, r, pl, hz⟩ := I.list hq
  obtain ⟨j, h1, h2, h3, h4, h5⟩ := atI_get he
  obtain ⟨w, ew, rw'⟩ := r.get h2
  have hl := r.length
  have hn := line63
  have fin : EP X pins σ Q w s := ⟨z, H, I, rw', q⟩
  by_cases h0 : 0 ≤ i
  · have hj : i.toNat = j := by
      rw [seqIndex_of h0 h5] at h1
      exact Option.some.inj h1
    exact item_listR pl.isList h0 (by omega) (by rw [hj]; simpa using ew) fin hs
  · have hj : (i + (its.toArray.size : Int)).toNat = j := by
      rw [seqIndex_neg (by omega) h4] at h1
      rw [List.size_toArray, ← hl]
      exact Option.some.inj h1
    exact subscriptTail_builtinR (x := w) pl.isList.typeIs slot_list_getitem.lookup
      (wpAny_getItem_list_neg (Q := fun r s' => r = w ∧ EP X pins σ Q r s') pl.isList (by omega) (by rw [List.size_toArray] <;> omega) (by omega) (by rw [hj]; simpa using ew) ⟨rfl, fin⟩) hs
theorem ix_tup : IxR X (rIxT X.K) := by
  intro value slice pins s σ H x y v u Q I rx ry h hs
  obtain ⟨p, xs, i, z, rfl, rfl, hq, he, q⟩ := h
  cases rx
  obtain ⟨t, rfl⟩ := ry
  obtain ⟨its, r, pl, hz⟩ := I.tuple hq
  obtain ⟨j, h1, h2, h3, h4, h5⟩ := atI_get he
  obtain ⟨w, ew, rw'⟩ := r.get h2
  have hl := r.length
  have hn := line63
  have fin : EP X pins σ Q w s := ⟨z, H, I, rw', q⟩
  exact subscriptTail_builtinR (x := w) pl.typeIs slot_tuple_getitem.lookup
    (getItem_tuple (j := j) (Q := fun r s' => r = w ∧ EP X pins σ Q r s') pl (by omega) (by omega) (by rw [List.size_toArray, ← hl]; exact h1) (by simpa using ew) ⟨rfl, fin⟩) hs
theorem ix_str : IxR X rIxS := by
  intro value slice pins s σ H x y v u Q I rx ry h hs
  obtain ⟨z, i, c, rfl, rfl, hz, he, q⟩ := h
  obtain ⟨t, rfl⟩ := rx
  obtain ⟨t', rfl⟩ := ry
  obtain ⟨j, h1, h2, h3, h4, h5⟩ := atI_get he
  have hl : z.cps.toList.length = z.length := by simp [Str.length]
  rw [hl] at h1 h4 h5
  have hn := line63
  exact tail_any (typeIs_str s z t) slot_str_getitem.lookup (getItem_str (c := c) (by
    have e1 : decide (i < -(2 ^ 63 : Int)) = false := decide_eq_false (by omega)
    have e2 : decide (i ≥ 2 ^ 63) = false := decide_eq_false (by omega)
    rw [e1, e2, Bool.or_false]) (by rw [h1]; simpa using h2) ⟨.str ⟨#[c]⟩, H, I.tok _, ⟨_, rfl⟩, q⟩) hs
/-- list, tuple or str -/
def rIx (K : PySem.W.Frag) : R2 := fun x y H Q => rIxL K x y H Q ∨ rIxT K x y H Q ∨ rIxS x y H Q
theorem ix_seq : IxR X (rIx X.K) := ix_list.or (ix_tup.or ix_str)

/-! ### xs[i] = v, any sign -/
/-- the list's object behind a store -/
theorem mapSeq_set (its : List Value) (n j : Nat) (u : Value) : Obj.mapSeq (·.setIfInBounds j u) { cls := .type "list", data := .seq its.toArray n } = { cls := .type "list", data := .seq (its.set j u).toArray n } := by
  simp [Obj.mapSeq]
theorem Inv.lst {pins : List (Addr × Obj)} {σ : St} {H : Hp} {s : Shared} {p : Addr} {xs : List V} (I : Inv X pins σ H s) (h : H p = some (.lst xs)) :
    ∃ (its : List Value) (n : Nat), Vals xs its ∧ s.heap.get? p = some { cls := .type "list", data := .seq its.toArray n } ∧ xs.length ≤ sizeLine := by
  obtain ⟨z, its, n, r, e⟩ := I.hok p _ h
  exact ⟨its, n, r, e, z⟩
/-- the list at p is written by an update of its object -/
theorem Inv.lstUpd {pins : List (Addr × Obj)} {σ : St} {H : Hp} {s : Shared} {p : Addr} {xs ys : List V} {its its' : List Value} {n n' : Nat} {f : Obj → Obj} (I : Inv X pins σ H s) (h : H p = some (.lst xs))
    (ho : s.heap.get? p = some { cls := .type "list", data := .seq its.toArray n }) (hf : f { cls := .type "list", data := .seq its.toArray n } = { cls := .type "list", data := .seq its'.toArray n' }) (r : Vals ys its') (hz : ys.length ≤ sizeLine) (t : Nat) :
    Inv X pins σ (upd H p (.lst ys)) { s with heap := s.heap.update p f, toks := t } := by
  have e : (s.heap.update p f).get? p = some { cls := .type "list", data := .seq its'.toArray n' } := by
    rw [Heap.get?_update_self f ho (by rw [hf] <;> rfl), hf]
  refine I.write (x := p) (e := p) (by rw [h]; trivial) (.inl rfl) (fun b u hb q => (Heap.get?_update_other _ _ (Ne.symm hb)).trans q) ⟨_, e⟩ ?_
  exact ⟨hz, its', n', r, e⟩
def rSetL : V → V → V → Hp → (Hp → Prop) → Prop := fun o i v H Q => ∃ p xs k j, o = .ref p ∧ i = .int k ∧ H p = some (.lst xs) ∧ ixN xs.length k = some j ∧ Q (upd H p (.lst (xs.set j v)))
theorem set_list : PSet X rSetL := by
  intro pins s σ H o i v ov iv u Q I ro ri rv h
  obtain ⟨p, xs, k, j, rfl, rfl, hp, hj, q⟩ := h
  cases ro
  obtain ⟨t, rfl⟩ := ri
  obtain ⟨its, n, r, ho, hz⟩ := I.lst hp
  obtain ⟨h1, h2, h3, h4⟩ := ixN_seq hj
  have hl := r.length
  have hn := line63
  have I' : Inv X pins σ (upd H p (.lst (xs.set j v))) { s with heap := s.heap.update p (Obj.mapSeq (·.setIfInBounds j u)) } :=
    I.lstUpd hp ho (mapSeq_set its n j u) (r.set rv j) (by rw [List.length_set]; exact hz) s.toks
  by_cases h0 : 0 ≤ k
  · have hk : k.toNat = j := by
      rw [seqIndex_of h0 h4] at h1
      exact Option.some.inj h1
    exact PySem.W.ki_setAt ho h0 (by omega) (by rw [List.size_toArray, ← hl]; exact h4) (by rw [hk]; exact ⟨_, I', q⟩)
  · have hk : (k + (its.toArray.size : Int)).toNat = j := by
      rw [seqIndex_neg (by omega) h3] at h1
      rw [List.size_toArray, ← hl]
      exact Option.some.inj h1
    exact PySem.W.ki_setBack ho (by omega) (by rw [List.size_toArray, ← hl]; exact h3) (by omega) (by rw [hk]; exact ⟨_, I', q⟩)

/-! ### slices -/
theorem slice_bounds (lo hi : Option Int) (n : Nat) : (sliceBounds lo hi none n).1 = ((HT.sIx n 0 lo : Nat) : Int) ∧ (sliceBounds lo hi none n).2.1 = ((HT.sIx n n hi : Nat) : Int) ∧ (sliceBounds lo hi none n).2.2 = 1 := by
  refine ⟨?_, ?_, rfl⟩
  · cases lo with
    | none => simp [sliceBounds, HT.sIx]
    | some i =>
      simp only [sliceBounds, HT.sIx, Option.getD_none, show (1 : Int) > 0 by decide, if_true]
      by_cases h : i < 0
      · simp only [h, if_true] <;> omega
      · simp only [h, if_false] <;> omega
  · cases hi with
    | none => simp [sliceBounds, HT.sIx]
    | some i =>
      simp only [sliceBounds, HT.sIx, Option.getD_none, show (1 : Int) > 0 by decide, if_true]
      by_cases h : i < 0
      · simp only [h, if_true] <;> omega
      · simp only [h, if_false] <;> omega
theorem slicePick_cut (its : List Value) (lo hi : Option Int) : slicePick its.toArray lo hi none = ((its.drop (HT.sIx its.length 0 lo)).take (HT.sIx its.length its.length hi - HT.sIx its.length 0 lo)).toArray := by
  obtain ⟨h1, h2, h3⟩ := slice_bounds lo hi its.toArray.size
  unfold slicePick
  rw [h1, h2, h3]
  simp only [sliceRange_one, pick_run, List.size_toArray] <;> rfl
/-- xs[lo:hi] of a list: a new list -/
def rSlL (K : PySem.W.Frag) : V → Option Int → Option Int → Hp → VK → Prop := fun x lo hi H Q => ∃ a xs, x = .ref a ∧ SqL K H a xs ∧ ∀ p, H p = none → Q (.ref p) (upd H p (.lst (cutV xs lo hi)))
theorem sl_list : SlR X (rSlL X.K) := by
  intro pins s σ H x v vl vu lo hi sl Q I rx hs pl pu h
  obtain ⟨a, xs, rfl, hx, q⟩ := h
  cases rx
  obtain ⟨its, r, ht, hz⟩ := I.list hx
  have hlen := r.length
  refine ⟨"list", _, slot_list_getitem.lookup, ht.isList.typeIs, ?_⟩
  refine wpAny_getItem_list_slice ht.isList hs pl pu .none (by simp) ?_ (by rw [List.size_toArray] <;> omega)
  rw [slicePick_cut, ← hlen]
  refine ⟨.ref s.heap.objs.size, _, I.laid (t' := s.toks) (o := .lst (cutV xs lo hi)) (fun b ob q => Heap.get?_push_of_some _ q) (Nat.le_refl _) ?_, rfl, q _ (I.hok.fresh (Nat.le_refl _))⟩
  exact ⟨Nat.le_trans (cutV_length xs lo hi) hz, _, 0, (r.drop (HT.sIx xs.length 0 lo)).take (HT.sIx xs.length xs.length hi - HT.sIx xs.length 0 lo), Heap.get?_push_size _ rfl⟩

/-! ### in, not in: flat items -/
def flatV : V → Bool
  | .non => true
  | .bl _ => true
  | .int _ => true
  | .str _ => true
  | _ => false
/-- == of flat values -/
def eqV : V → V → Bool
  | .non, .non => true
  | .bl a, .bl b => a == b
  | .bl a, .int b => (if a then 1 else 0) == b
  | .int a, .bl b => a == (if b then 1 else 0)
  | .int a, .int b => a == b
  | .str a, .str b => a == b
  | _, _ => false
theorem eqAt_V {A : Around} {s : Shared} {y x : V} {u v : Value} (ry : RelV y u) (rx : RelV x v) (fy : flatV y = true) (fx : flatV x = true) : SeqAt.EqAt A s u v (eqV y x) := by
  cases y with
  | non =>
    cases ry
    cases x with
    | non => cases rx; exact SeqAt.EqAt.same _
    | bl b => cases rx; exact SeqAt.EqAt.none_bool b
    | int b => obtain ⟨t, rfl⟩ := rx; exact SeqAt.EqAt.none_int b t
    | str b => obtain ⟨t, rfl⟩ := rx; exact SeqAt.EqAt.none_str b t
    | _ => exact absurd (show false = true from fx) Bool.false_ne_true
  | bl a =>
    cases ry
    cases x with
    | non => cases rx; exact SeqAt.EqAt.bool_none a
    | bl b => cases rx; exact SeqAt.EqAt.bool_bool a b
    | int b => obtain ⟨t, rfl⟩ := rx; exact SeqAt.EqAt.bool_int a b t
    | str b => obtain ⟨t, rfl⟩ := rx; exact SeqAt.EqAt.bool_str a b t
    | _ => exact absurd (show false = true from fx) Bool.false_ne_true
  | int a =>
    obtain ⟨t', rfl⟩ := ry
    cases x with
    | non => cases rx; exact SeqAt.EqAt.int_none a t'
    | bl b => cases rx; exact SeqAt.EqAt.int_bool a t' b
    | int b => obtain ⟨t, rfl⟩ := rx; exact SeqAt.EqAt.int_int a t' b t
    | str b => obtain ⟨t, rfl⟩ := rx; exact SeqAt.EqAt.int_str a t' b t
    | _ => exact absurd (show false = true from fx) Bool.false_ne_true
  | str a =>
    obtain ⟨t', rfl⟩ := ry
    cases x with
    | non => cases rx; exact SeqAt.EqAt.str_none a t'
    | bl b => cases rx; exact SeqAt.EqAt.str_bool a t' b
    | int b => obtain ⟨t, rfl⟩ := rx; exact SeqAt.EqAt.str_int a t' b t
    | str b => obtain ⟨t, rfl⟩ := rx; exact SeqAt.EqAt.str_str a t' b t
    | _ => exact absurd (show false = true from fx) Bool.false_ne_true
  | _ => exact absurd (show false = true from fy) Bool.false_ne_true
/-- the items' answers, read off the values (a value's own answer does not lean on its token) -/
def eqU (x : V) (u : Value) : Bool := match u with
  | .none => eqV .non x
  | .bool b => eqV (.bl b) x
  | .int i _ => eqV (.int i) x
  | .str z _ => eqV (.str z) x
  | _ => false
theorem eqU_of {x y : V} {u : Value} (r : RelV y u) (f : flatV y = true) : eqU x u = eqV y x := by
  cases y with
  | non => cases r; rfl
  | bl b => cases r; rfl
  | int i => obtain ⟨t, rfl⟩ := r; rfl
  | str z => obtain ⟨t, rfl⟩ := r; rfl
  | _ => exact absurd (show false = true from f) Bool.false_ne_true
theorem any_eqU {x : V} : ∀ {xs : List V} {us : List Value}, Vals xs us → xs.all flatV = true → us.any (eqU x) = xs.any fun y => eqV y x
  | _, _, .nil, _ => rfl
  | y :: xs, u :: us, .cons r t, f => by
    rw [List.all_cons, Bool.and_eq_true] at f
    rw [List.any_cons, List.any_cons, eqU_of r f.1, any_eqU t f.2]
theorem mem_eqAt {A : Around} {s : Shared} {x : V} {v : Value} (rx : RelV x v) (fx : flatV x = true) : ∀ {xs : List V} {us : List Value}, Vals xs us → xs.all flatV = true → ∀ u ∈ us, SeqAt.EqAt A s u v (eqU x u)
  | _, _, .nil, _ => fun u hu => by cases hu
  | y :: xs, u :: us, .cons r t, f => fun u' hu => by
    rw [List.all_cons, Bool.and_eq_true] at f
    rcases List.mem_cons.mp hu with rfl | hu
    · rw [eqU_of r f.1]; exact eqAt_V r rx f.1 fx
    · exact mem_eqAt rx fx t f.2 u' hu
def inV (x : V) (xs : List V) : Bool := xs.any fun y => eqV y x
/-- x in a list or tuple of flat items -/
def rIn (K : PySem.W.Frag) (neg : Bool) : R2 := fun x y H Q => ∃ p xs, y = .ref p ∧ (SqL K H p xs ∨ SqT K H p xs) ∧ flatV x = true ∧ xs.all flatV = true ∧ Q (.bl (if neg then !inV x xs else inV x xs)) H
theorem op_in_seq : OpR X (compareOp .In) (rIn X.K false) := by
  intro pins s σ H x y v u Q I rx ry h
  obtain ⟨p, xs, rfl, hq, fx, fs, q⟩ := h
  cases ry
  rcases hq with hq | hq
  · obtain ⟨its, r, pl, hz⟩ := I.list hq
    refine SeqAt.in_listAt (eqU x) pl.isList (fun w hw => mem_eqAt rx fx r fs w (by simpa using hw)) ⟨.bl _, H, I, rfl, ?_⟩
    rw [show its.toArray.any (eqU x) = its.any (eqU x) by simp, any_eqU r fs]
    exact q
  · obtain ⟨its, r, pl, hz⟩ := I.tuple hq
    refine SeqAt.in_tupleAt (eqU x) pl (fun w hw => mem_eqAt rx fx r fs w (by simpa using hw)) ⟨.bl _, H, I, rfl, ?_⟩
    rw [show its.toArray.any (eqU x) = its.any (eqU x) by simp, any_eqU r fs]
    exact q
theorem op_notIn_seq : OpR X (compareOp .NotIn) (rIn X.K true) := by
  intro pins s σ H x y v u Q I rx ry h
  obtain ⟨p, xs, rfl, hq, fx, fs, q⟩ := h
  cases ry
  rcases hq with hq | hq
  · obtain ⟨its, r, pl, hz⟩ := I.list hq
    refine SeqAt.notIn_listAt (eqU x) pl.isList (fun w hw => mem_eqAt rx fx r fs w (by simpa using hw)) ⟨.bl _, H, I, rfl, ?_⟩
    rw [show its.toArray.any (eqU x) = its.any (eqU x) by simp, any_eqU r fs]
    exact q
  · obtain ⟨its, r, pl, hz⟩ := I.tuple hq
    refine SeqAt.notIn_tupleAt (eqU x) pl (fun w hw => mem_eqAt rx fx r fs w (by simpa using hw)) ⟨.bl _, H, I, rfl, ?_⟩
    rw [show its.toArray.any (eqU x) = its.any (eqU x) by simp, any_eqU r fs]
    exact q
theorem op_notIn_str : OpR X (compareOp .NotIn) (fun x y H Q => ∃ i j, x = .str i ∧ y = .str j ∧ Q (.bl (!(!(Builtin.Str.occurrences j i 0 j.length 1).isEmpty))) H) := by
  intro pins s σ H x y v u Q I rx ry h
  obtain ⟨i, j, rfl, rfl, q⟩ := h
  obtain ⟨t, rfl⟩ := rx
  obtain ⟨t', rfl⟩ := ry
  exact notIn_str ⟨.bl _, H, I, rfl, q⟩

/-! ### len, list(x), tuple(x) of any list or tuple that is read -/
theorem call_len_seq : CallR X (.builtin "len") (fun xs H Q => ∃ p ys, xs = [.ref p] ∧ (SqL X.K H p ys ∨ SqT X.K H p ys) ∧ Q (.int ys.length) H) := by
  intro pins s σ H xs us Q I r h
  obtain ⟨p, ys, rfl, hq, q⟩ := h
  obtain ⟨u, rfl, rx⟩ := vals1 r
  cases rx
  have hn := line63
  rcases hq with hq | hq
  · obtain ⟨its, r', pl, hz⟩ := I.list hq
    have hlen := r'.length
    exact Calls.call_len_list pl.isList (by simp only [List.size_toArray] <;> omega) ⟨.int ys.length, H, I.tok _, ⟨s.toks + 1, by rw [List.size_toArray, hlen]⟩, q⟩
  · obtain ⟨its, r', pl, hz⟩ := I.tuple hq
    have hlen := r'.length
    exact len_tuple pl (by simp only [List.size_toArray] <;> omega) ⟨.int ys.length, H, I.tok _, ⟨s.toks + 1, by rw [List.size_toArray, hlen]⟩, q⟩
theorem call_len_str : CallR X (.builtin "len") (fun xs H Q => ∃ z, xs = [.str z] ∧ z.length ≤ sizeLine ∧ Q (.int z.length) H) := by
  intro pins s σ H xs us Q I r h
  obtain ⟨z, rfl, hz, q⟩ := h
  obtain ⟨u, rfl, t, rfl⟩ := vals1 r
  have hn := line63
  exact len_str (by omega) ⟨.int z.length, H, I.tok _, ⟨_, rfl⟩, q⟩
theorem CallR.or {f : Value} {r r' : List V → Hp → VK → Prop} (h : CallR X f r) (h' : CallR X f r') : CallR X f (fun xs H Q => r xs H Q ∨ r' xs H Q) := by
  intro pins s σ H xs us Q I rs q
  rcases q with q | q
  · exact h pins s σ H xs us Q I rs q
  · exact h' pins s σ H xs us Q I rs q
theorem call_list_of : CallR X (.type "list") (fun xs H Q => ∃ p ys, xs = [.ref p] ∧ (SqL X.K H p ys ∨ SqT X.K H p ys) ∧ ∀ l, H l = none → Q (.ref l) (upd H l (.lst ys))) := by
  intro pins s σ H xs us Q I r h
  obtain ⟨p, ys, rfl, hq, q⟩ := h
  obtain ⟨u, rfl, rx⟩ := vals1 r
  cases rx
  have fin : ∀ (its : List Value), Vals ys its → ys.length ≤ sizeLine → ∀ (h' : Heap) (c' : Nat), (∀ b o', s.heap.get? b = some o' → h'.get? b = some o') →
      h'.get? s.heap.objs.size = some { cls := .type "list", dict := none, data := .seq its.toArray c', slots := #[] } → EP X pins σ Q (.ref s.heap.objs.size) { s with heap := h' } := fun its r' hz h' c' kp e =>
    ⟨.ref s.heap.objs.size, _, I.laid (t' := s.toks) kp (Nat.le_refl _) (show ObjOk X.prog X.w _ h' _ (.lst ys) from ⟨hz, its, c', r', e⟩), rfl, q _ (I.hok.fresh (Nat.le_refl _))⟩
  rcases hq with hq | hq
  · obtain ⟨its, r', pl, hz⟩ := I.list hq
    have hlen := r'.length
    obtain ⟨o, ho, hc, n, hd⟩ := pl.isList
    exact call_list_seq p (.inl rfl) ho hc hd (fun h' c' kp e => fin its r' hz h' c' kp e) (by simp only [List.size_toArray] <;> omega)
  · obtain ⟨its, r', pl, hz⟩ := I.tuple hq
    have hlen := r'.length
    obtain ⟨o, ho, hc, n, hd⟩ := pl
    exact call_list_seq p (.inr rfl) ho hc hd (fun h' c' kp e => fin its r' hz h' c' kp e) (by simp only [List.size_toArray] <;> omega)
theorem call_tuple_of : CallR X (.type "tuple") (fun xs H Q => ∃ p ys, xs = [.ref p] ∧ ((SqL X.K H p ys ∧ ∀ l, H l = none → Q (.ref l) (upd H l (.tup ys))) ∨ (SqT X.K H p ys ∧ Q (.ref p) H))) := by
  intro pins s σ H xs us Q I r h
  obtain ⟨p, ys, rfl, h⟩ := h
  obtain ⟨u, rfl, rx⟩ := vals1 r
  cases rx
  rcases h with ⟨hq, q⟩ | ⟨hq, q⟩
  · obtain ⟨its, r', pl, hz⟩ := I.list hq
    have hlen := r'.length
    refine call_tuple_list pl.isList (fun h' kp => ?_) (by simp only [List.size_toArray] <;> omega)
    have I1 : Inv X pins σ H { s with heap := h' } := I.kept (t' := s.toks) kp
    have I2 : Inv X pins σ (upd H h'.objs.size (.tup ys)) { s with heap := h'.push { cls := .type "tuple", data := .seq its.toArray } } :=
      I1.laid (t' := s.toks) (fun b o e => Heap.get?_push_of_some _ e) (Nat.le_refl _) (show ObjOk X.prog X.w _ _ _ (.tup ys) from ⟨hz, its, r', IsTup.new _ _⟩)
    exact ⟨.ref h'.objs.size, _, I2, rfl, q _ (I1.hok.fresh (Nat.le_refl _))⟩
  · obtain ⟨its, r', pl, hz⟩ := I.tuple hq
    exact call_tuple_same pl ⟨.ref p, H, I, rfl, q⟩

/-! ### the call of a builtin's method: o.m(..) -/
/-- the value is of that builtin type -/
def tyV (K : PySem.W.Frag) (T : String) (x : V) (H : Hp) : Prop := match x with
  | .str _ => T = "str"
  | .int _ => T = "int"
  | .ref p => (T = "list" ∧ ∃ xs, SqL K H p xs) ∨ (T = "tuple" ∧ ∃ o, K.lookup p = some o ∧ o.cls = .type "tuple" ∧ o.dict = none) ∨
      (T = "dict" ∧ ((∃ kvs, H p = some (.dK kvs)) ∨ ∃ kvs, H p = some (.dT kvs))) ∨ (T = "set" ∧ ∃ S n, H p = some (.set S n))
  | _ => False
theorem tyV_is {pins : List (Addr × Obj)} {σ : St} {H : Hp} {s : Shared} {T : String} {x : V} {v : Value} (I : Inv X pins σ H s) (r : RelV x v) (ty : tyV X.K T x H) :
    s.TypeIs v T ∧ ∀ a, v = .ref a → ∃ ob, s.heap.get? a = some ob ∧ ob.dict = none := by
  cases x with
  | str z =>
    obtain ⟨t, rfl⟩ := r
    cases (show T = "str" from ty)
    exact ⟨typeIs_str s z t, fun _ e => nomatch e⟩
  | int i =>
    obtain ⟨t, rfl⟩ := r
    cases (show T = "int" from ty)
    exact ⟨typeIs_int s i t, fun _ e => nomatch e⟩
  | ref p =>
    cases r
    rcases ty with ⟨rfl, xs, hq⟩ | ⟨rfl, o, hk, hc, hd⟩ | ⟨rfl, hk⟩ | ⟨rfl, S, n, hk⟩
    · obtain ⟨its, _, pl, _⟩ := I.list hq
      refine ⟨pl.isList.typeIs, fun a e => ?_⟩
      cases e
      obtain ⟨o, n, e, c, hd, _⟩ := pl
      exact ⟨o, e, hd⟩
    · refine ⟨⟨o, I.kIn p o hk, hc⟩, fun a e => ?_⟩
      cases e
      exact ⟨o, I.kIn _ o hk, hd⟩
    · have z : ∃ o, s.heap.get? p = some o ∧ o.ExactDict := by
        rcases hk with ⟨kvs, hk⟩ | ⟨kvs, hk⟩
        · obtain ⟨_, _, _, _, o, _, _, e, ex, _⟩ := I.hok p _ hk
          exact ⟨o, e, ex⟩
        · obtain ⟨_, _, _, _, o, _, _, e, ex, _⟩ := I.hok p _ hk
          exact ⟨o, e, ex⟩
      obtain ⟨o, e, ex⟩ := z
      refine ⟨⟨o, e, ex.1⟩, fun a e2 => ?_⟩
      cases e2
      exact ⟨o, e, ex.2.1⟩
    · obtain ⟨o, _, _, _, e, ex, _⟩ := I.hok p _ hk
      refine ⟨⟨o, e, ex.1⟩, fun a e2 => ?_⟩
      cases e2
      exact ⟨o, e, ex.2.1⟩
  | _ => exact False.elim ty
def tBM0 (K : PySem.W.Frag) (T : String) (r : V → List V → Hp → VK → Prop) (to : TE) : TE := fun σ H Q => to σ H fun x H1 => tyV K T x H1 ∧ r x [] H1 Q
def tBM (K : PySem.W.Frag) (T : String) (r : V → List V → Hp → VK → Prop) (to : TE) (t : TA) : TE := fun σ H Q => to σ H fun x H1 => tyV K T x H1 ∧ t σ H1 fun xs H2 => r x xs H2 Q
variable {o e : Expr} {es : List Expr} {to : TE} {t : TA} {name : Str} {apos cpos : Pos} {T id : String} {r : V → List V → Hp → VK → Prop}
theorem pe_bm0 (pa : PlainAttrs T) (slot : Slot T name id) (hty : typeOf (.builtin id) = pure (.type "method_descriptor")) (hm : MtR X id r) (ho : PE X o to)
    (hbase : attributeBase o name X.env (eval o X.env) = eval o X.env := by rfl) (hline : (apos.endLine == cpos.line) = true := by rfl) : PE X (.Call (.Attribute o name apos) [] [] cpos) (tBM0 X.K T r to) := by
  intro pins s σ H Q I h
  refine wpAny_Call_method0_late hbase hline (thn (ho pins s σ H _ I h) fun v s1 ⟨x, H1, I1, r1, ty, q1⟩ => ?_)
  obtain ⟨h1, h2⟩ := tyV_is I1 r1 ty
  exact ⟨T, id, pa, slot, hty, h1, h2, Calls.callWith_builtin rfl (PySem.evalArgs_none (hm pins s1 σ H1 x [] v [] Q I1 r1 .nil q1))⟩
theorem pe_bm (pa : PlainAttrs T) (slot : Slot T name id) (hty : typeOf (.builtin id) = pure (.type "method_descriptor")) (hm : MtR X id r) (ho : PE X o to) (ha : PA X (e :: es) t)
    (hbase : attributeBase o name X.env (eval o X.env) = eval o X.env := by rfl)
    (hfew : ((backTo cpos (starEach (e :: es) X.env)).all (fun x => !x.1) && (backToKw cpos (keywordEach [] X.env)).all (fun x => x.1.isSome)
      && decide ((e :: es).length + ([] : List Keyword).length + (if ([] : List Keyword).isEmpty then 0 else 1) < 30)) = true := by rfl)
    (hline : (apos.endLine == cpos.line) = true := by rfl) (hs : starEach (e :: es) X.env = (false, eval e X.env) :: starEach es X.env := by rfl) (hplain : (backTo cpos (starEach es X.env)).any (·.1) = false := by rfl) :
    PE X (.Call (.Attribute o name apos) (e :: es) [] cpos) (tBM X.K T r to t) := by
  intro pins s σ H Q I h
  refine wpAny_Call_method_late hbase hfew hline rfl (thn (ho pins s σ H _ I h) fun v s1 ⟨x, H1, I1, r1, ty, q1⟩ => ?_)
  obtain ⟨h1, h2⟩ := tyV_is I1 r1 ty
  refine ⟨T, id, pa, slot, hty, h1, h2, ?_⟩
  have hA := ha cpos pins s1 σ H1 _ I1 q1
  rw [hs] at hA ⊢
  refine Calls.callWith_builtin (by show (false || (backTo cpos (starEach es X.env)).any (·.1)) = false; rw [hplain] <;> rfl) (Calls.evalArgs_plain ?_)
  exact thn hA fun us s2 ⟨vs, H2, I2, r2, q2⟩ => hm pins s2 σ H2 x vs v us Q I2 r1 r2 q2
/- xs.append(e), list.index on a module's tuple .. are MtR facts of 06m -/
end
end L2

namespace L2
open PySem PySem.Spec PyProof.Rows

def MtM (X : Cx) (id : String) (r : V → List V → Hp → VK → Prop) : Prop :=
  ∀ (pins : List (Addr × Obj)) (s : Shared) (σ : St) (H : Hp) (x : V) (xs : List V) (v : Value) (us : List Value) (Q : VK), Inv X pins σ H s → RelV x v → Vals xs us → r x xs H Q →
    wpAny (model X.prog X.w) X.A (call (.builtin id) (v :: us)) (EP X pins σ Q) X.xe s

/-! ### lists of values -/
theorem Vals.one : ∀ {x : V} {us : List Value}, Vals [x] us → ∃ u, us = [u] ∧ RelV x u
  | _, _, .cons r .nil => ⟨_, rfl, r⟩
theorem Vals.two : ∀ {x y : V} {us : List Value}, Vals [x, y] us → ∃ u v, us = [u, v] ∧ RelV x u ∧ RelV y v
  | _, _, _, .cons r (.cons q .nil) => ⟨_, _, rfl, r, q⟩
theorem Vals.zero : ∀ {us : List Value}, Vals [] us → us = []
  | _, .nil => rfl
theorem Vals.dropLast {xs : List V} {us : List Value} (h : Vals xs us) : Vals xs.dropLast us.dropLast := by
  induction h with
  | nil => exact .nil
  | cons r t ih =>
    cases t with
    | nil => exact .nil
    | cons q t' => exact .cons r ih
theorem Vals.eraseIdx : ∀ {xs : List V} {us : List Value} (i : Nat), Vals xs us → Vals (xs.eraseIdx i) (us.eraseIdx i)
  | _, _, _, .nil => .nil
  | _, _, 0, .cons _ t => t
  | _, _, i + 1, .cons r t => .cons r (Vals.eraseIdx i t)
theorem Vals.reverse {xs : List V} {us : List Value} (h : Vals xs us) : Vals xs.reverse us.reverse := by
  induction h with
  | nil => exact .nil
  | cons r t ih => rw [List.reverse_cons, List.reverse_cons]; exact Vals.append ih (.cons r .nil)
theorem Vals.rep {xs : List V} {us : List Value} (h : Vals xs us) : ∀ k : Nat, Vals (List.replicate k xs).flatten (List.replicate k us).flatten
  | 0 => .nil
  | k + 1 => by
    rw [List.replicate_succ, List.replicate_succ, List.flatten_cons, List.flatten_cons]
    exact Vals.append h (Vals.rep h k)
theorem erase_last {α : Type} (l : List α) : l.eraseIdx (l.length - 1) = l.dropLast := by
  induction l with
  | nil => rfl
  | cons a r ih =>
    cases r with
    | nil => rfl
    | cons b r =>
      have e : (a :: b :: r).length - 1 = ((b :: r).length - 1) + 1 := by
        have h1 : (a :: b :: r).length = r.length + 2 := rfl
        have h2 : (b :: r).length = r.length + 1 := rfl
        omega
      rw [e, List.eraseIdx_cons_succ, ih]
      all_goals rfl
theorem len_erase {α : Type} : ∀ (l : List α) (i : Nat), (l.eraseIdx i).length ≤ l.length
  | [], _ => Nat.le_refl _
  | _ :: _, 0 => Nat.le_succ _
  | _ :: r, i + 1 => Nat.succ_le_succ (len_erase r i)
theorem foldl_rep (its : List Value) : ∀ (k : Nat) (acc : List Value),
    List.foldl (fun x1 x2 => x1 ++ x2) acc.toArray (List.replicate k its.toArray) = (acc ++ (List.replicate k its).flatten).toArray
  | 0, acc => by simp
  | k + 1, acc => by
    have e : acc.toArray ++ its.toArray = (acc ++ its).toArray := by simp
    have e2 : (acc ++ its) ++ (List.replicate k its).flatten = acc ++ (List.replicate (k + 1) its).flatten := by
      rw [List.replicate_succ, List.flatten_cons, List.append_assoc]
    rw [← e2, ← foldl_rep its k (acc ++ its), ← e, List.replicate_succ, List.foldl_cons]

section
variable {X : Cx} {pins : List (Addr × Obj)} {σ : St} {H : Hp} {s : Shared} {l b : Addr} {xs ys zs : List V}

/-! ### the two steps: a tracked list is rewritten, a new list is laid -/
theorem Inv.lset {its its' : List Value} {n : Nat} {f : Array Value → Array Value} {t' : Nat} (I : Inv X pins σ H s) (hH : H l = some (.lst xs))
    (e : s.heap.get? l = some { cls := .type "list", data := .seq its.toArray n }) (hf : f its.toArray = its'.toArray) (hv : Vals ys its') (hz : ys.length ≤ sizeLine) :
    Inv X pins σ (upd H l (.lst ys)) { s with heap := s.heap.update l (Obj.mapSeq f), toks := t' } := by
  have q := PySem.IsL.update e f
  rw [hf] at q
  refine I.write (x := l) (e := l) (by rw [hH]; exact trivial) (.inl rfl) (fun b' u hb hu => (Heap.get?_update_other s.heap (Obj.mapSeq f) (Ne.symm hb)).trans hu) ⟨_, q⟩ ?_
  exact ⟨hz, its', _, hv, q⟩
theorem Inv.lnew {its : List Value} {t' : Nat} (I : Inv X pins σ H s) (hv : Vals ys its) (hz : ys.length ≤ sizeLine) :
    Inv X pins σ (upd H s.heap.objs.size (.lst ys)) { s with heap := s.heap.push { cls := .type "list", data := .seq its.toArray }, toks := t' } :=
  I.laid (fun _ _ q => Heap.get?_push_of_some _ q) (Nat.le_refl _) ⟨hz, its, 0, hv, Heap.get?_push_size _ rfl⟩
theorem Inv.fresh (I : Inv X pins σ H s) : H s.heap.objs.size = none := I.hok.fresh (Nat.le_refl _)
theorem Inv.lstM (I : Inv X pins σ H s) (hH : H l = some (.lst xs)) : xs.length ≤ sizeLine ∧ ∃ (its : List Value) (n : Nat), Vals xs its ∧ xs.length = its.length ∧ s.heap.get? l = some { cls := .type "list", data := .seq its.toArray n } := by
  obtain ⟨z, its, n, r, e⟩ := I.hok l _ hH
  exact ⟨z, its, n, r, r.length, e⟩

theorem notLongL {n : Nat} (h : n ≤ sizeLine) : Builtin.List.listTooLong n = false := by
  unfold Builtin.List.listTooLong
  exact decide_eq_false (by omega)
end

section
variable {X : Cx}

/-! ### methods -/
def rAppend : V → List V → Hp → VK → Prop := fun x vs H Q => ∃ l xs y, x = .ref l ∧ vs = [y] ∧ H l = some (.lst xs) ∧ xs.length < sizeLine ∧ Q .non (upd H l (.lst (xs ++ [y])))
theorem mt_append : MtM X "list.append" rAppend := by
  intro pins s σ H x vs v us Q I rx rv h
  obtain ⟨l, xs, y, rfl, rfl, hH, hz, q⟩ := h
  cases rx
  obtain ⟨u, rfl, ru⟩ := rv.one
  obtain ⟨z, its, n, r, hl, e⟩ := I.lstM hH
  refine call_meets F.slot_list_append ⟨_, e, rfl⟩ F.entry_list_append (F.args_list_append_2 _ _) (PySem.list_append l its.toArray n u (by rw [List.size_toArray]; omega)) ⟨e, ?_⟩
  refine ⟨.non, _, I.lset (its' := its ++ [u]) hH e (by simp) (r.append (.cons ru .nil)) ?_, rfl, q⟩
  rw [List.length_append, List.length_singleton]
  omega

def rExtend : V → List V → Hp → VK → Prop := fun x vs H Q => ∃ l b xs zs, x = .ref l ∧ vs = [.ref b] ∧ H l = some (.lst xs) ∧ H b = some (.lst zs) ∧ xs.length + zs.length ≤ sizeLine ∧ Q .non (upd H l (.lst (xs ++ zs)))
theorem mt_extend : MtM X "list.extend" rExtend := by
  intro pins s σ H x vs v us Q I rx rv h
  obtain ⟨l, b, xs, zs, rfl, rfl, hH, hB, hz, q⟩ := h
  cases rx
  obtain ⟨u, rfl, ru⟩ := rv.one
  cases ru
  obtain ⟨z, its, n, r, hl, e⟩ := I.lstM hH
  obtain ⟨z2, its2, n2, r2, hl2, e2⟩ := I.lstM hB
  have hsz : its.toArray.size + its2.toArray.size ≤ sizeLine := by rw [List.size_toArray, List.size_toArray]; omega
  have hlong : ¬ (!its.toArray.isEmpty && Builtin.List.listTooLong (its.toArray.size + its2.toArray.size)) = true := by
    rw [notLongL hsz, Bool.and_false]
    exact Bool.false_ne_true
  refine call_meets F.slot_list_extend ⟨_, e, rfl⟩ F.entry_list_extend (F.args_list_extend_2 _ _)
    (AutoSeq1.list_extend_list_list_0 l its.toArray n b its2.toArray n2 hlong (by rw [List.size_toArray]; omega) (by omega)) ⟨e, e2, ?_⟩
  refine ⟨.non, _, I.lset (its' := its ++ its2) hH e (by simp) (r.append r2) ?_, rfl, q⟩
  rw [List.length_append]
  omega

def rPop : V → List V → Hp → VK → Prop := fun x vs H Q => ∃ l xs y, x = .ref l ∧ vs = [] ∧ H l = some (.lst xs) ∧ xs[xs.length - 1]? = some y ∧ Q y (upd H l (.lst xs.dropLast))
theorem mt_pop : MtM X "list.pop" rPop := by
  intro pins s σ H x vs v us Q I rx rv h
  obtain ⟨l, xs, y, rfl, rfl, hH, hy, q⟩ := h
  cases rx
  have hus := rv.zero
  subst hus
  obtain ⟨z, its, n, r, hl, e⟩ := I.lstM hH
  obtain ⟨u, hu, ru⟩ := r.get hy
  have hy' : its.toArray[its.toArray.size - 1]? = some u := by
    show its.toArray[its.length - 1]? = some u
    rw [← Array.getElem?_toList, ← hl]
    exact hu
  refine call_meets F.slot_list_pop ⟨_, e, rfl⟩ F.entry_list_pop (F.args_list_pop_1 _) (MeetsSeq.list_pop_last l its.toArray n u hy' (by rw [List.size_toArray]; omega)) ⟨e, ?_⟩
  refine ⟨y, _, I.lset (its' := its.dropLast) hH e ?_ r.dropLast ?_, ru, q⟩
  · show its.toArray.eraseIdxIfInBounds (its.toArray.size - 1) = its.dropLast.toArray
    rw [List.size_toArray, List.eraseIdxIfInBounds_toArray, erase_last]
  · rw [List.length_dropLast]
    omega

def rPopAt : V → List V → Hp → VK → Prop := fun x vs H Q => ∃ l xs i k y, x = .ref l ∧ vs = [.int i] ∧ H l = some (.lst xs) ∧ -(2 ^ 63) ≤ i ∧ i < 2 ^ 63 ∧ seqIndex? i xs.length = some k ∧ xs[k]? = some y ∧ Q y (upd H l (.lst (xs.eraseIdx k)))
theorem mt_popAt : MtM X "list.pop" rPopAt := by
  intro pins s σ H x vs v us Q I rx rv h
  obtain ⟨l, xs, i, k, y, rfl, rfl, hH, h1, h2, hk, hy, q⟩ := h
  cases rx
  obtain ⟨u, rfl, ru⟩ := rv.one
  obtain ⟨t, rfl⟩ := ru
  obtain ⟨z, its, n, r, hl, e⟩ := I.lstM hH
  obtain ⟨w, hw, rw'⟩ := r.get hy
  refine call_meets F.slot_list_pop ⟨_, e, rfl⟩ F.entry_list_pop (F.args_list_pop_2 _ _)
    (MeetsSeq.list_pop_at l its.toArray n i t k w (fitsIndex_both h1 h2) (by rw [List.size_toArray, ← hl]; exact hk) (by rw [← Array.getElem?_toList]; exact hw) (by rw [List.size_toArray]; omega)) ⟨e, ?_⟩
  refine ⟨y, _, I.lset (its' := its.eraseIdx k) hH e ?_ (r.eraseIdx k) ?_, rw', q⟩
  · show its.toArray.eraseIdxIfInBounds k = (its.eraseIdx k).toArray
    rw [List.eraseIdxIfInBounds_toArray]
  · have := len_erase xs k
    omega

def rReverse : V → List V → Hp → VK → Prop := fun x vs H Q => ∃ l xs, x = .ref l ∧ vs = [] ∧ H l = some (.lst xs) ∧ Q .non (upd H l (.lst xs.reverse))
theorem mt_reverse : MtM X "list.reverse" rReverse := by
  intro pins s σ H x vs v us Q I rx rv h
  obtain ⟨l, xs, rfl, rfl, hH, q⟩ := h
  cases rx
  have hus := rv.zero
  subst hus
  obtain ⟨z, its, n, r, hl, e⟩ := I.lstM hH
  refine call_meets F.slot_list_reverse ⟨_, e, rfl⟩ F.entry_list_reverse (F.args_list_reverse_1 _) (AutoSeq1.list_reverse_list_0 l its.toArray n (by rw [List.size_toArray]; omega)) ⟨e, ?_⟩
  refine ⟨.non, _, I.lset (its' := its.reverse) hH e (by simp) r.reverse ?_, rfl, q⟩
  rw [List.length_reverse]
  omega

def rClear : V → List V → Hp → VK → Prop := fun x vs H Q => ∃ l xs, x = .ref l ∧ vs = [] ∧ H l = some (.lst xs) ∧ Q .non (upd H l (.lst []))
theorem mt_clear : MtM X "list.clear" rClear := by
  intro pins s σ H x vs v us Q I rx rv h
  obtain ⟨l, xs, rfl, rfl, hH, q⟩ := h
  cases rx
  have hus := rv.zero
  subst hus
  obtain ⟨z, its, n, r, hl, e⟩ := I.lstM hH
  refine call_meets F.slot_list_clear ⟨_, e, rfl⟩ F.entry_list_clear (F.args_list_clear_1 _) (AutoSeq1.list_clear_list_0 l its.toArray n (by rw [List.size_toArray]; omega)) ⟨e, ?_⟩
  exact ⟨.non, _, I.lset (its' := []) (ys := []) hH e rfl .nil (Nat.zero_le _), rfl, q⟩

/-! ### list + list, list += list, list * int -/
def rCat : R2 := fun x y H Q => ∃ l b xs zs, x = .ref l ∧ y = .ref b ∧ H l = some (.lst xs) ∧ H b = some (.lst zs) ∧ xs.length + zs.length ≤ sizeLine ∧ ∀ p, H p = none → Q (.ref p) (upd H p (.lst (xs ++ zs)))
theorem op_cat : OpR X (binaryOp .Add) rCat := by
  intro pins s σ H x y v u Q I rx ry h
  obtain ⟨l, b, xs, zs, rfl, rfl, hH, hB, hz, q⟩ := h
  cases rx
  cases ry
  obtain ⟨z, its, n, r, hl, e⟩ := I.lstM hH
  obtain ⟨z2, its2, n2, r2, hl2, e2⟩ := I.lstM hB
  refine PySem.P.add_list e e2 ?_ (by rw [List.size_toArray, List.size_toArray]; omega)
  have ea : its.toArray ++ its2.toArray = (its ++ its2).toArray := by simp
  rw [ea]
  exact ⟨.ref _, _, I.lnew (t' := s.toks) (r.append r2) (by rw [List.length_append]; omega), rfl, q _ I.fresh⟩
/-- a list times an int (a negative one is nothing) -/
def rRep : R2 := fun x y H Q => ∃ l k xs, x = .ref l ∧ y = .int k ∧ H l = some (.lst xs) ∧ -(2 ^ 63) ≤ k ∧ k < 2 ^ 63 ∧ xs.length * k.toNat ≤ sizeLine ∧
  ∀ p, H p = none → Q (.ref p) (upd H p (.lst (List.replicate k.toNat xs).flatten))
theorem len_rep {α : Type} (xs : List α) (k : Nat) : (List.replicate k xs).flatten.length = k * xs.length := by
  induction k with
  | zero => simp
  | succ k ih => rw [List.replicate_succ, List.flatten_cons, List.length_append, ih, Nat.succ_mul, Nat.add_comm]
theorem op_rep : OpR X (binaryOp .Mult) rRep := by
  intro pins s σ H x y v u Q I rx ry h
  obtain ⟨l, k, xs, rfl, rfl, hH, h1, h2, hz, q⟩ := h
  cases rx
  obtain ⟨t, rfl⟩ := ry
  obtain ⟨z, its, n, r, hl, e⟩ := I.lstM hH
  have hlen : its.toArray.size * k.toNat ≤ sizeLine := by rw [List.size_toArray, ← hl]; exact hz
  have hcap : ¬ its.toArray.size * k.toNat > (2 ^ 63 - 1) / 8 := by
    have : (sizeLine : Nat) ≤ (2 ^ 63 - 1) / 8 := by decide
    omega
  have hfit : ¬ (!Builtin.List.listFitsIndex k) = true := by
    rw [fitsIndex_both h1 h2]
    exact Bool.false_ne_true
  have hlong : ¬ Builtin.List.listTooLong (its.toArray.size * k.toNat) = true := by
    rw [notLongL hlen]
    exact Bool.false_ne_true
  have hnew : List.foldl (fun x1 x2 => x1 ++ x2) #[] (List.replicate (if its.toArray.isEmpty = true then 0 else k.toNat) its.toArray) = (List.replicate k.toNat its).flatten.toArray := by
    have f0 : ∀ m : Nat, List.foldl (fun x1 x2 => x1 ++ x2) #[] (List.replicate m its.toArray) = (List.replicate m its).flatten.toArray := fun m => by
      have := foldl_rep its m []
      rw [List.nil_append] at this
      exact this
    rw [f0]
    cases its with
    | nil => simp
    | cons a r' => rw [if_neg (by simp)]
  refine wpAny_binaryOp_repeat_ref (T := "list") (U := "int") (by decide) ⟨_, e, rfl⟩ (fun s' => typeIs_int s' k t) noFill_list_mul F.fills_int_mul F.slot_int_rmul repeat_list F.slot_int_index.lookup
    (call_meets F.slot_int_rmul (typeIs_int s k t) F.entry_int_rmul (F.args_int_rmul_2 _ _) (int___rmul___int_list k t l its.toArray n)
      ⟨e, rfl, ⟨_, e, rfl⟩, call_meets F.slot_list_mul ⟨_, e, rfl⟩ F.entry_list_mul (F.args_list_mul_2 _ _) (AutoListH.list___mul___list_int_3 l its.toArray n k t hfit hcap hlong) ⟨e, ?_⟩⟩)
  rw [hnew]
  exact ⟨.ref _, _, I.lnew (t' := s.toks) (r.rep k.toNat) (by rw [len_rep, Nat.mul_comm]; exact hz), rfl, q _ I.fresh⟩

/-! ### del xs[i] -/
theorem del_list {pins : List (Addr × Obj)} {s : Shared} {σ : St} {H : Hp} {l : Addr} {xs : List V} {i : Int} {t : Tok} {k : Nat} {Q : Unit → Shared → Prop} (I : Inv X pins σ H s) (hH : H l = some (.lst xs))
    (h1 : -(2 ^ 63) ≤ i) (h2 : i < 2 ^ 63) (hk : seqIndex? i xs.length = some k) (h : ∀ s', Inv X pins σ (upd H l (.lst (xs.eraseIdx k))) s' → Q () s') :
    wpAny (model X.prog X.w) X.A (delItem (.ref l) (.int i t)) Q X.xe s := by
  obtain ⟨z, its, n, r, hl, e⟩ := I.lstM hH
  refine PySem.P.delItem_list (k := k) e (fitsIndex_both h1 h2) (by rw [List.size_toArray, ← hl]; exact hk) (h _ ?_) (by rw [List.size_toArray]; omega)
  refine I.lset (its' := its.eraseIdx k) (t' := s.toks) hH e ?_ (r.eraseIdx k) ?_
  · show its.toArray.eraseIdxIfInBounds k = (its.eraseIdx k).toArray
    rw [List.eraseIdxIfInBounds_toArray]
  · have := len_erase xs k
    omega
end

/-! ### xs[a:b] = ys -/
section
variable {prog : Program} {w : World} {A : Around} {E : Value → Shared → Prop} {s : Shared}
theorem splice_eq (its its2 : List Value) (a c : Nat) : its.toArray.extract 0 a ++ its2.toArray ++ its.toArray.extract c its.toArray.size = (its.take a ++ its2 ++ its.drop c).toArray := by
  apply Array.toList_inj.mp
  first
    | (simp
       exact List.take_of_length_le (by simp))
    | simp [List.take_of_length_le]
    | simp
theorem bounds_run {a c n : Nat} (hac : a ≤ c) (hc : c ≤ n) : sliceBounds (some (a : Int)) (some (c : Int)) none n = ((a : Int), (c : Int), 1) := by
  simp only [sliceBounds, Option.getD_none]
  have h1 : ¬ ((a : Int) < 0) := by omega
  have h2 : ¬ ((c : Int) < 0) := by omega
  simp only [h1, h2, if_false, show (1 : Int) > 0 by decide, if_true]
  congr 1
  · omega
  · congr 1; omega
set_option maxRecDepth 100000 in
/-- list.__setitem__ with a slice of step one and another list -/
theorem setItem_slice {l b sl : Addr} {items new : Array Value} {n n2 : Nat} {vl vu : Value} {a c : Nat} {Q : Unit → Shared → Prop}
    (e : s.heap.get? l = some { cls := .type "list", data := .seq items n }) (e2 : s.heap.get? b = some { cls := .type "list", data := .seq new n2 }) (hne : l ≠ b)
    (hs : s.heap.IsSliceOf sl vl vu .none) (pl : IsPart vl (some (a : Int))) (pu : IsPart vu (some (c : Int))) (hac : a ≤ c) (hc : c ≤ items.size)
    (hsz : items.size + new.size ≤ sizeLine) (h : Q () { s with heap := s.heap.update l (Obj.mapSeq fun xs => xs.extract 0 a ++ new ++ xs.extract c xs.size) }) :
    wpAny (model prog w) A (setItem (.ref l) (.ref sl) (.ref b)) Q E s := by
  have hl : s.heap.IsList l items := PySem.IsL.isList e
  have hb : s.heap.IsList b new := PySem.IsL.isList e2
  obtain ⟨os, hos, hcs, hds⟩ := id hs
  have hTs : s.TypeIs (.ref sl) "slice" := ⟨os, hos, hcs⟩
  have hstep : ¬ ((rawPart none == rawInt 0) = true) := Bool.false_ne_true
  have hsame : Builtin.List.listSameRef (.ref l) (.ref b) = false := by
    unfold Builtin.List.listSameRef
    exact beq_eq_false_iff_ne.mpr hne
  have hmax : (max (a : Int) (c : Int)).toNat = c := by omega
  have hz' : ((fun xs : Array Value => xs.extract 0 a ++ new ++ xs.extract c xs.size) items).size ≤ sizeLine + 1 := by
    simp only [Array.size_append, Array.size_extract]
    omega
  unfold setItem
  try with_reducible refine wpAny_holding ?_
  first | refine wpAny_bind (wpAny_pure ?_) | skip
  refine wpAny_bind (wpAny_sequenceKey hl.typeIs (by decide) ?_)
  refine wpAny_bind (wpAny_callSpecial?_slot (name := Str.ofString "__setitem__") hl.typeIs slot_list_setitem
    (wpAny_call_entry slot_list_setitem hl.typeIs entry_list_setitem ?_ (args_list_setitem _ _ _)))
  show wpAny _ _ (Builtin.List.listSubscript? (.ref sl) >>= _) _ _ s
  refine wpAny_bind ?_
  unfold Builtin.List.listSubscript?
  refine wpAny_bind (wpAny_specialOf hTs slice_no_index ?_)
  simp only [Option.isNone_none, if_true]
  refine wpAny_pure ?_
  show wpAny _ _ (typeOf (.ref sl) >>= _) _ _ s
  refine wpAny_bind (wpAny_typeOf hTs ?_)
  first
    | rw [if_neg (by decide)]
    | refine PySem.W.KFB.if_not (by decide) ?_
  rw [listSliceParts_eq]
  refine wpAny_bind (wpAny_bind (wpAny_field hos hds (x := .none) rfl (wpAny_bind (wpAny_listPart .none ?_))))
  rw [if_neg hstep]
  refine wpAny_bind (wpAny_field hos hds (x := vl) rfl (wpAny_bind (wpAny_listPart pl ?_)))
  refine wpAny_bind (wpAny_field hos hds (x := vu) rfl (wpAny_bind (wpAny_listPart pu (wpAny_pure ?_))))
  first
    | simp only [hsame, Bool.false_eq_true, if_false]
    | refine PySem.W.KFB.if_not hsame ?_
    | (dsimp only
       rw [if_neg (by rw [hsame]; exact Bool.false_ne_true)])
  refine wpAny_bind (m := Builtin.List.listAllItems (.ref b) "must assign iterable to extended slice") ?_
  unfold Builtin.List.listAllItems
  refine wpAny_bind (wpAny_typeOf hb.typeIs ?_)
  first
    | refine PySem.W.KFB.if_so (by decide) ?_
    | rw [if_pos (by decide)]
    | simp only [beq_self_eq_true, Bool.true_or, if_true]
  unfold Builtin.List.listItems
  refine wpAny_bind (wpAny_seqItems e2 rfl (wpAny_pure ?_))
  refine wpAny_bind (wpAny_bind (wpAny_seqItems e rfl (wpAny_pure ?_)))
  refine wpAny_bind (wpAny_of_eq ((sliceIndices_raw (some (a : Int)) (some (c : Int)) none items.size (by simp)).trans (congrArg (pure : Int × Int × Int → Sem (Int × Int × Int)) (bounds_run hac hc))) ?_)
  show wpAny _ _ (if ((1 : Int) == 1) = true then _ else _) _ _ s
  rw [if_pos (by decide)]
  refine wpAny_bind (wpAny_rule ?_)
  first
    | simp only [notLongL hsz, Bool.false_eq_true, if_false]
    | refine PySem.W.KFB.if_not (notLongL hsz) ?_
  first | refine wpAny_bind (wpAny_pure ?_) | skip
  show wpAny _ _ (updateSeq l (fun xs => xs.extract 0 ((a : Int)).toNat ++ new ++ xs.extract (max (a : Int) (c : Int)).toNat xs.size) >>= _) _ _ s
  rw [hmax, Int.toNat_natCast]
  refine wpAny_bind (wpAny_updateSeq (hz := Nat.le_trans (Nat.le_add_right _ _) hsz) (_hz' := hz') e rfl ?_)
  refine wpAny_bind (wpAny_letGo ?_)
  first
    | exact wpAny_bind (wpAny_pure (wpAny_pure ⟨.none, rfl, wpAny_pure h⟩))
    | exact wpAny_pure ⟨.none, rfl, wpAny_pure h⟩
end

section
variable {X : Cx}
/-- xs[a:c] = ys of another list, at the value level: sl is the slice object that was just made -/
theorem set_slice {pins : List (Addr × Obj)} {s : Shared} {σ : St} {H : Hp} {l b sl : Addr} {xs ys : List V} {a c : Int} {vl vu : Value} {Q : Unit → Shared → Prop} (I : Inv X pins σ H s)
    (hH : H l = some (.lst xs)) (hB : H b = some (.lst ys)) (hne : l ≠ b) (hs : s.heap.IsSliceOf sl vl vu .none) (ra : RelV (.int a) vl) (rc : RelV (.int c) vu) (h0 : 0 ≤ a) (hac : a ≤ c) (hc : c ≤ xs.length)
    (hz : xs.length + ys.length ≤ sizeLine) (h : ∀ s', Inv X pins σ (upd H l (.lst (xs.take a.toNat ++ ys ++ xs.drop c.toNat))) s' → Q () s') :
    wpAny (model X.prog X.w) X.A (setItem (.ref l) (.ref sl) (.ref b)) Q X.xe s := by
  obtain ⟨ta, rfl⟩ := ra
  obtain ⟨tc, rfl⟩ := rc
  obtain ⟨z, its, n, r, hl, e⟩ := I.lstM hH
  obtain ⟨z2, its2, n2, r2, hl2, e2⟩ := I.lstM hB
  obtain ⟨a', rfl⟩ := Int.eq_ofNat_of_zero_le h0
  obtain ⟨c', rfl⟩ := Int.eq_ofNat_of_zero_le (Int.le_trans h0 hac)
  simp only [Int.toNat_natCast] at h
  refine setItem_slice (a := a') (c := c') e e2 hne hs (.int _ _) (.int _ _) (by omega) (by rw [List.size_toArray]; omega) (by rw [List.size_toArray, List.size_toArray]; omega) (h _ ?_)
  refine I.lset (its' := its.take a' ++ its2 ++ its.drop c') (t' := s.toks) hH e ?_ (Vals.append (Vals.append (r.take _) r2) (r.drop _)) ?_
  · exact splice_eq its its2 a' c'
  · rw [List.length_append, List.length_append, List.length_take, List.length_drop]
    omega
end
end L2

namespace Att
open PySem PySem.W PySem.Calls PyProof.Rows

/-! ### the script -/
theorem ints_of_wellAll {P : Params} {h : Heap} : ∀ (ns : List Int) (vs : List Value), WellAll P h vs (ns.map WData.int) → IntsAre vs ns := by
  intro ns
  induction ns with
  | nil =>
    intro vs w
    rw [List.map_nil] at w
    cases w
    exact .nil
  | cons n ns ih =>
    intro vs w
    rw [List.map_cons] at w
    cases w with
    | cons a b =>
      cases a
      exact .cons _ _ (ih _ b)

theorem script_of {l : OpenLaw} {n : Nat} (hn : l.most = some n) {P : Params} {h : Heap} {args : List WData} {vals : List Value}
    (hpre : l.row.toRowW.claim.pre args = true) (hwl : WellAll P h vals args) :
    ∃ a vs ns, vals = [Value.ref a] ∧ args = [WData.list (ns.map WData.int)] ∧ h.get? a = some { cls := .type "list", data := .seq vs.toArray } ∧ IntsAre vs ns ∧ ns.length ≤ n := by
  have hsh : WShape.hasAll [] args [.list .int] = true := (pre_splitW hpre).1
  have hc : l.pre.holds [] { args := args } = true := (pre_splitW hpre).2
  obtain ⟨d, r, rfl, h1, h2⟩ := hasAllW_cons hsh
  obtain rfl := hasAllW_nil h2
  obtain ⟨xs, rfl, h3⟩ := hasW_list h1
  obtain ⟨ns, rfl⟩ := items_int h3
  have hlen : ns.length ≤ n := by
    unfold OpenLaw.pre at hc
    have h4 : (WTm.not (.lt (.lit (.int (n : Int))) (.len (.arg 0)))).holds [] { args := [.list (ns.map .int)] } = true := by
      have h4 := (holds_andW hc).1
      rw [hn] at h4
      exact h4
    have h5 := condW_of h4 (w_not (w_lt w_lit (w_len_list (w_arg rfl))))
    rw [List.length_map] at h5
    refine Nat.le_of_not_lt fun q => ?_
    have q' : (n : Int) < ((ns.length : Nat) : Int) := by omega
    first
      | (rw [decide_eq_true q'] at h5; exact absurd h5 (by decide))
      | (simp at h5; omega)
  cases hwl with
  | cons w1 w2 =>
    cases w2
    cases w1 with
    | list ho hall => exact ⟨_, _, ns, rfl, rfl, ho, ints_of_wellAll ns _ hall, hlen⟩

theorem post_true (l : OpenLaw) (args : List WData) : l.row.toRowW.claim.post args (.bool true) args = true :=
  postW_of (r := l.row.toRowW) (X := (true == true))
    (show WShape.has [] (.bool true) .bool = true by first | rfl | decide | simp [WShape.has, WShape.arms, WShape.armsAll])
    (show (WTm.eq .res (.lit (.bool true))).value [] { args := args, res := some (.bool true), after := args } = some (.bool (true == true)) from w_eq_bool (w_res rfl) w_lit) rfl

/-! ### the attachment: holds_open's last premise (the goal 'hc' behind k_head) from a wpAny of the law's body -/
theorem attach {l : OpenLaw} {n : Nat} {q : Program} {loose : List Str} {XP : (Str → Option Value) → Heap → Prop} {YP : World → Heap → Prop} {d : DefRec} {x : Str}
    (hn : l.most = some n) (hdf : d.params.defaults = [])
    (hbind : ∀ pm cd doc v : Value, bindArgs (docDef d.name d.params d.body d.scope pm cd doc) ⟨[v], []⟩ = pure [(x, v)])
    (hx : d.scope.names.lookup x = some .local ∨ d.scope.names.lookup x = some .cell)
    (hk : d.scope.kind = .function) (hco : d.scope.isCoroutine = false) (hgen : d.scope.isGenerator = false)
    (body : ∀ (w : World) (s₀ s₁ s : Shared) (mg mb : Str → Option Value) (fa : Addr) (o : Obj) (pm cd doc : Value) (a : Addr) (vs : List Value) (ns : List Int),
      Ground q loose [] XP w s₀ mg mb s₁.heap → YP w s₁.heap →
      s₁.heap.get? fa = some o → o.data = .func (docDef d.name d.params d.body d.scope pm cd doc) → s₁.heap.CodeRec cd d.name → mg d.name = some (.ref fa) →
      s₁.heap.get? a = some { cls := .type "list", data := .seq vs.toArray } → IntsAre vs ns → ns.length ≤ n →
      s.gens = #[] → s.os = s₁.os →
      Fr s₁.heap s₁.heap.objs.size s.heap (bindL (envOfC d.name d.scope s₁.heap.objs.size fa cd).kindOf [(x, .ref a)] fun _ => none) →
      Cl s₁.heap.objs.size (cellsFrom (s₁.heap.objs.size + 1) d.scope.names []) s.heap (bindC (envOfC d.name d.scope s₁.heap.objs.size fa cd).kindOf [(x, .ref a)] fun _ => none) →
      wpAny (model l.prog w) (callerA.deeper (envOfC d.name d.scope s₁.heap.objs.size fa cd)) (execs d.body (envOfC d.name d.scope s₁.heap.objs.size fa cd))
        (fun f s' => f = .ret (.bool true) ∧ OldK s₁.heap s'.heap ∧ s'.os = s₁.os ∧ AllBare s'.gens) (fun _ _ => False) s) :
    WalkO q loose XP YP l.row.toRowW d [] (fun f vs => PySem.call f vs) := by
  intro w s₀ s₁ mg mb G Y fa o pm cd doc dV kV ho hd hcd hD hmg hg args vals as hpre hlay hrd hwl hlo
  obtain rfl : dV = .none := Dflts.none hD hdf
  obtain rfl : kV = .none := Dflts.noKw hD
  obtain ⟨a, vs, ns, rfl, rfl, hobj, hints, hlen⟩ := script_of hn hpre hwl
  refine enter_call ?_
  refine call_cells_ret (o := o) (by rw [depth_caller]; decide) ho (fd_plain hd) G.T.nolimit hcd (hbind pm cd doc (.ref a)) (fun y hy => ?_) (fun h₁ tk F X => ?_) hco hgen hk
  · obtain rfl : y = (x, Value.ref a) := List.mem_singleton.mp hy
    rcases hx with e | e
    · exact .inl e
    · exact .inr ⟨e, cellsFrom_some _ _ _ (.inl e)⟩
  · refine wpAny_mono (body w s₀ s₁ { s₁ with heap := h₁, toks := tk } mg mb fa o pm cd doc a vs ns G Y ho (fd_plain hd) hcd hmg hobj hints hlen hg rfl F X) (fun f s' hq => ?_) (fun _ _ hq => hq)
    obtain ⟨rfl, h2, h3, h4⟩ := hq
    exact ⟨.inl ⟨.bool true, .bool true, [], rfl, fun _ => rfl, .bool true, post_true l _, fun _ => ⟨List.Pairwise.nil, fun _ hm => (nomatch hm)⟩⟩, h2, h3, h4⟩

/-- the same from a codeAny of the CALL (for a layer whose function contracts speak of calls) -/
theorem attach_call {l : OpenLaw} {n : Nat} {q : Program} {loose : List Str} {XP : (Str → Option Value) → Heap → Prop} {YP : World → Heap → Prop} {d : DefRec}
    (hn : l.most = some n) (hdf : d.params.defaults = [])
    (call : ∀ (w : World) (s₀ s₁ : Shared) (mg mb : Str → Option Value) (fa : Addr) (o : Obj) (pm cd doc : Value) (a : Addr) (vs : List Value) (ns : List Int),
      Ground q loose [] XP w s₀ mg mb s₁.heap → YP w s₁.heap →
      s₁.heap.get? fa = some o → o.data = .func (docDef d.name d.params d.body d.scope pm cd doc) → s₁.heap.CodeRec cd d.name → mg d.name = some (.ref fa) →
      s₁.heap.get? a = some { cls := .type "list", data := .seq vs.toArray } → IntsAre vs ns → ns.length ≤ n → s₁.gens = #[] →
      codeAny (model l.prog w) callerA (.call (.ref fa) ⟨[.ref a], []⟩) (fun r s' => r = .ok (.ret (.bool true)) ∧ OldK s₁.heap s'.heap ∧ s'.os = s₁.os ∧ AllBare s'.gens) s₁) :
    WalkO q loose XP YP l.row.toRowW d [] (fun f vs => PySem.call f vs) := by
  intro w s₀ s₁ mg mb G Y fa o pm cd doc dV kV ho hd hcd hD hmg hg args vals as hpre hlay hrd hwl hlo
  obtain rfl : dV = .none := Dflts.none hD hdf
  obtain rfl : kV = .none := Dflts.noKw hD
  obtain ⟨a, vs, ns, rfl, rfl, hobj, hints, hlen⟩ := script_of hn hpre hwl
  refine enter_call (codeAny_mono (call w s₀ s₁ mg mb fa o pm cd doc a vs ns G Y ho (fd_plain hd) hcd hmg hobj hints hlen hg) fun r s' hq => ?_)
  obtain ⟨rfl, h2, h3, h4⟩ := hq
  exact ⟨.inl ⟨.bool true, .bool true, [], rfl, fun _ => rfl, .bool true, post_true l _, fun _ => ⟨List.Pairwise.nil, fun _ hm => (nomatch hm)⟩⟩, h2, h3, h4⟩

/-- the same where the top left finished generators (o_head chose holds_openN): nothing may have changed at all and no generator may be left -/
theorem attachN {l : OpenLaw} {n : Nat} {q : Program} {loose : List Str} {XP : (Str → Option Value) → Heap → Prop} {YP : World → Heap → Prop} {d : DefRec} {x : Str}
    (hn : l.most = some n) (hdf : d.params.defaults = [])
    (hbind : ∀ pm cd doc v : Value, bindArgs (docDef d.name d.params d.body d.scope pm cd doc) ⟨[v], []⟩ = pure [(x, v)])
    (hx : d.scope.names.lookup x = some .local ∨ d.scope.names.lookup x = some .cell)
    (hk : d.scope.kind = .function) (hco : d.scope.isCoroutine = false) (hgen : d.scope.isGenerator = false)
    (body : ∀ (w : World) (s₀ s₁ s : Shared) (mg mb : Str → Option Value) (fa : Addr) (o : Obj) (pm cd doc : Value) (a : Addr) (vs : List Value) (ns : List Int),
      Ground q loose [] XP w s₀ mg mb s₁.heap → YP w s₁.heap →
      s₁.heap.get? fa = some o → o.data = .func (docDef d.name d.params d.body d.scope pm cd doc) → s₁.heap.CodeRec cd d.name → mg d.name = some (.ref fa) →
      s₁.heap.get? a = some { cls := .type "list", data := .seq vs.toArray } → IntsAre vs ns → ns.length ≤ n →
      s.gens = #[] → s.os = s₁.os →
      Fr s₁.heap s₁.heap.objs.size s.heap (bindL (envOfC d.name d.scope s₁.heap.objs.size fa cd).kindOf [(x, .ref a)] fun _ => none) →
      Cl s₁.heap.objs.size (cellsFrom (s₁.heap.objs.size + 1) d.scope.names []) s.heap (bindC (envOfC d.name d.scope s₁.heap.objs.size fa cd).kindOf [(x, .ref a)] fun _ => none) →
      wpAny (model l.prog w) (callerA.deeper (envOfC d.name d.scope s₁.heap.objs.size fa cd)) (execs d.body (envOfC d.name d.scope s₁.heap.objs.size fa cd))
        (fun f s' => f = .ret (.bool true) ∧ (∀ b o, s₁.heap.get? b = some o → s'.heap.get? b = some o) ∧ s'.os = s₁.os ∧ s'.gens = #[]) (fun _ _ => False) s) :
    WalkN q loose XP YP l.row.toRowW d [] (fun f vs => PySem.call f vs) := by
  intro w s₀ s₁ mg mb G Y fa o pm cd doc dV kV ho hd hcd hD hmg hg args vals as hpre hlay hrd hwl hlo
  obtain rfl : dV = .none := Dflts.none hD hdf
  obtain rfl : kV = .none := Dflts.noKw hD
  obtain ⟨a, vs, ns, rfl, rfl, hobj, hints, hlen⟩ := script_of hn hpre hwl
  refine enter_callW ?_
  refine call_cells_ret (o := o) (by rw [depth_caller]; decide) ho (fd_plain hd) G.T.nolimit hcd (hbind pm cd doc (.ref a)) (fun y hy => ?_) (fun h₁ tk F X => ?_) hco hgen hk
  · obtain rfl : y = (x, Value.ref a) := List.mem_singleton.mp hy
    rcases hx with e | e
    · exact .inl e
    · exact .inr ⟨e, cellsFrom_some _ _ _ (.inl e)⟩
  · refine wpAny_mono (body w s₀ s₁ { s₁ with heap := h₁, toks := tk } mg mb fa o pm cd doc a vs ns G Y ho (fd_plain hd) hcd hmg hobj hints hlen hg rfl F X) (fun f s' hq => ?_) (fun _ _ hq => hq)
    obtain ⟨rfl, h2, h3, h4⟩ := hq
    exact ⟨.inl ⟨.bool true, .bool true, [], rfl, fun _ => rfl, .bool true, post_true l _, fun _ => ⟨List.Pairwise.nil, fun _ hm => (nomatch hm)⟩⟩, h2, h3, h4⟩

/-! ### rules over ANY heap (no ledger) from facts about the written part K: the library's own take a ledger (News) for what they write -/
section
variable {prog : Program} {w : World} {A : Around} {E : Value → Shared → Prop} {s : Shared} {K : Frag}

/-- a def of the module, or a method (qual 'C.m'), entered: the frame is the next address; cells behind it -/
theorem call_fn {R : Result → Shared → Prop} {name qual : Str} {params : Arguments} {body : List Stmt} {scope : Scope} {dV kV doc pm cdv ct oc : Value} {an od : Option Addr} {osl : Array (Option Value)} {f : Addr} {args : Args} {binds : List (Str × Value)}
    (X : K.In s.heap) (hlim : s.heap.NoLimit) (ho : K.lookup f = some ⟨oc, od, .func (fnOf name qual params body scope dV kV doc pm an cdv ct), osl⟩) (hcd : codeIn K cdv qual = true) (hroom : A.depth < recursionLimit)
    (hbind : BindsTo s (fnOf name qual params body scope dV kV doc pm an cdv ct) args binds)
    (hkind : (binds.all fun y => scope.names.lookup y.1 == some .local || scope.names.lookup y.1 == some .cell) = true)
    (h : ∀ s₁, InCallC s s.heap.objs.size (bindL (envOfC qual scope s.heap.objs.size f cdv).kindOf binds fun _ => none) (cellsFrom (s.heap.objs.size + 1) scope.names [])
        (bindC (envOfC qual scope s.heap.objs.size f cdv).kindOf binds fun _ => none) s₁ →
      wpAny (model prog w) (A.deeper (envOfC qual scope s.heap.objs.size f cdv)) (execs body (envOfC qual scope s.heap.objs.size f cdv))
        (fun fl s' => R (.ok (.ret (match fl with | .ret v => v | _ => .none))) s')
        (fun e s' => wpAny (model prog w) (A.deeper (envOfC qual scope s.heap.objs.size f cdv)) (leaving (envOfC qual scope s.heap.objs.size f cdv) e) (fun _ s'' => R (.error e) s'') (fun e' s'' => R (.error e') s'') s') s₁)
    (hco : scope.isCoroutine = false) (hgen : scope.isGenerator = false) (hk : scope.kind = .function) : codeAny (model prog w) A (.call (.ref f) args) R s := by
  refine codeAny_call_function hroom (X _ _ ho) rfl hco hgen rfl (codeRec_of X hcd) (hbind _ _ _ _ ?_)
  refine wpAny_newFunctionEnv_cells hk (kindsX hkind _) fun env he s₁ x => ?_
  subst he
  exact ⟨hlim.keeps x.toInCall.keep, codeAny_func (h s₁ x)⟩

/-- C(..): dict at size, instance at size + 1, then __init__ -/
theorem make_obj {R : Result → Shared → Prop} {C fI : Addr} {rest : List Value} {kw : List (Str × Value)}
    (X : K.In s.heap) (hm : makesIn K C = true) (hi : findIn K (.ref C) "__init__" = some (some (.ref fI))) (hf : isFn K (.ref fI) = true)
    (h : codeAny (model prog w) (A.under (.builtin "type.__call__" ⟨.ref C :: rest, kw⟩)) (.call (.ref fI) ⟨.ref (s.heap.objs.size + 1) :: rest, kw⟩) (InitBack (s.heap.objs.size + 1) R)
      { s with heap := (s.heap.push emptyDict).push (instObj C s.heap.objs.size) }) : codeAny (model prog w) A (.call (.ref C) ⟨rest, kw⟩) R s := by
  obtain ⟨hh, g, d, t, os⟩ := s
  exact make_core (makes_of X hm) (looks_findIn X hi) (fun self => bind_fn X self (beq_iff_eq.mp hf)) (.inl rfl) h

/-- x.name where the instance's dict holds the name and the class does not -/
theorem get_field {x C : Addr} {ox : Obj} {es : List DictEntry} {n : Nat} {name : Str} {expr : Bool} {v : Value} {Q : Value → Shared → Prop}
    (X : K.In s.heap) (I : PySem.W.InstAt s.heap x ox C (some (dictOf es n))) (hg : plainGet K C name = true) (hh : hasDictIn K C = true) (ha : findIn K (.ref C) name = some none)
    (hl : getL name es = some (some v)) (hv : handedIn v = true) (h : Q v { s with toks := s.toks + 1 }) : wpAny (model prog w) A (getAttr (.ref x) name expr) Q E s :=
  get_value X I (plainGet_of hg).1 (findObj_own hh ha rfl hl) hv h

/-- x.m(..): the method found in the class -/
theorem get_method {x C f : Addr} {ox : Obj} {es : List DictEntry} {n : Nat} {name : Str} {pl : Sem Bool} {Q : Value × List Value → Shared → Prop}
    (X : K.In s.heap) (I : PySem.W.InstAt s.heap x ox C (some (dictOf es n))) (hg : plainGet K C name = true) (hf : findIn K (.ref C) name = some (some (.ref f))) (ht : isFn K (.ref f) = true)
    (hl : getL name es = some none) (h : Q (.ref f, [.ref x]) s) : wpAny (model prog w) A (getMethod (.ref x) name pl) Q E s :=
  method_fn X I (plainGet_of hg).1 (plainGet_of hg).2 hf (beq_iff_eq.mp ht) (by show (lookIn name (dictOf es n)).map _ = _; rw [lookIn_dict, hl]; rfl) h

/-! the whole heap as the ledger: makes every rule that writes through a ledger a rule over any heap -/
def noObjs (h : Heap) : Heap := { h with objs := #[] }
theorem noObjs_get (h : Heap) (b : Addr) : (noObjs h).get? b = none := by
  cases e : (noObjs h).get? b with
  | none => rfl
  | some o => exact absurd (Heap.lt_size e) (Nat.not_lt_zero _)
def ledger (h : Heap) (L d : Addr) : List (Addr × Obj) := (List.range h.objs.size).filterMap fun a => if a = L ∨ a = d then none else (h.get? a).map fun o => (a, o)
theorem mem_ledger {h : Heap} {L d a : Addr} {o : Obj} : (a, o) ∈ ledger h L d ↔ a ≠ L ∧ a ≠ d ∧ h.get? a = some o := by
  unfold ledger
  rw [List.mem_filterMap]
  constructor
  · rintro ⟨b, _, e⟩
    split at e
    · cases e
    · rename_i hb
      obtain ⟨o', ho, e'⟩ := Option.map_eq_some_iff.mp e
      cases e'
      exact ⟨fun q => hb (.inl q), fun q => hb (.inr q), ho⟩
  · rintro ⟨n1, n2, ho⟩
    refine ⟨a, List.mem_range.mpr (Heap.lt_size ho), ?_⟩
    rw [if_neg (show ¬ (a = L ∨ a = d) from fun q => q.elim n1 n2), ho] <;> rfl
theorem news_ledger {h : Heap} {L d : Addr} {od : Obj} (hne : d ≠ L) (ho : h.get? d = some od) : News (noObjs h) L h ([] ++ (d, od) :: ledger h L d) := by
  rintro ⟨a, o⟩ hp
  rcases List.mem_cons.mp hp with e | hp
  · cases e
    exact ⟨ho, hne, noObjs_get _ _⟩
  · obtain ⟨n1, n2, e⟩ := mem_ledger.mp hp
    exact ⟨e, n1, noObjs_get _ _⟩
theorem fr_all {h : Heap} {L : Addr} {m : Str → Option Value} (n : h.Ns L m) : Fr (noObjs h) L h m :=
  ⟨n, fun b o e => (by rw [noObjs_get] at e; cases e), Nat.zero_le _⟩
/-- Upd of the head entry (for append_K, setItem_K ..) -/
theorem upd_ledger {h : Heap} {L d : Addr} {o o' : Obj} : Upd d o o' ((d, o) :: ledger h L d) ((d, o') :: ledger h L d) :=
  .head fun ⟨_, _⟩ hp => (mem_ledger.mp hp).2.1

/-- x.name = v over any heap: L is any namespace of the heap (the frame's, say): its map stays, its object is not told; all else but the dict stays -/
theorem set_field {x C dx L : Addr} {ox : Obj} {m : Str → Option Value} {es es' : List DictEntry} {n n' : Nat} {name : Str} {v : Value} {Q : Unit → Shared → Prop}
    (X : K.In s.heap) (I : PySem.W.InstAt s.heap x ox C (some (dictOf es n))) (hd : ox.dict = some dx) (hL : s.heap.Ns L m) (hne : dx ≠ L)
    (hs : findIn K (.ref C) "__setattr__" = some (some (.builtin "object.__setattr__"))) (hp : plainOver K C = true) (ht : takerIn K C name = some none) (hh : hasDictIn K C = true) (hl : (getL name es).isSome = true)
    (e : (putL name (PyData.keyHash w.params name) (.str name (s.toks + 1)) v es, putN name es n) = (es', n')) (hz : es'.length ≤ 1000)
    (h : ∀ h' : Heap, h'.Ns L m → h'.get? dx = some (dictOf es' n') → (∀ b o, b ≠ dx → b ≠ L → s.heap.get? b = some o → h'.get? b = some o) → Q () { s with heap := h', toks := s.toks + 2 }) :
    wpAny (model prog w) A (setAttr (.ref x) name v) Q E s := by
  obtain ⟨e1, e2⟩ := Prod.mk.inj e
  have hdx : s.heap.get? dx = some (dictOf es n) := by
    have := I.dict
    rw [hd] at this
    exact this
  refine set_plain X I hs (osa_dict (s := { s with toks := s.toks + 1 }) (h₀ := noObjs s.heap) (L := L) (m := m) (od := dictOf es n) (od' := dictOf es' n') (es := es') (n := n') (pre := []) (post := ledger s.heap L dx)
    (fr_all hL) (news_ledger hne hdx) X I hd hp ht hh hl (fun _ q => nomatch q) (fun ⟨_, _⟩ q => (mem_ledger.mp q).2.1) (by rw [putName_dict, e1, e2]) rfl hz fun h' F' N' => ?_)
  exact h h' F'.ns (N'.get (List.Mem.head _)) fun b o n1 n2 ho => N'.get (List.Mem.tail _ (mem_ledger.mpr ⟨n2, n1, ho⟩))
end
end Att

namespace L2
open PySem PySem.Spec PyProof.Rows

theorem vals_ints : ∀ {vs : List Value} {ns : List Int}, IntsAre vs ns → Vals (ns.map V.int) vs
  | _, _, .nil => .nil
  | _, _, .cons n t h => .cons ⟨t, rfl⟩ (vals_ints h)

/-- nothing is tracked but the script, known to the object (or it is an object of the module) -/
def Only (H : Hp) : Prop := ∀ b, H b = none ∨ ∃ o xs, H b = some (.frz o (.lst xs))

/-- THE HEAD: the law's promise, at the heap behind the top. F, the promise of the law's def, may use that base is part of the heap (so K.In base, base.Ns mainGlobals mg stand in Mod) -/
theorem law_call {P : Program} {w : World} {K : PySem.W.Frag} {mg mb : Str → Option Value} {CX : CXT} {k : Nat} {fa a : Addr} {fd : FuncData} {x : Str} {sp : Sp} {s₁ : Shared} {vs : List Value} {ns : List Int}
    (KX : K.In s₁.heap) (hns : s₁.heap.Ns mainGlobals mg) (hb : s₁.heap.Ns builtinsNs mb) (hbb : ∀ x : Str, x ≠ "__name__" → mb x = bootBuiltins x) (hlim : s₁.heap.NoLimit) (hg : s₁.gens = #[])
    (ha : s₁.heap.get? a = some { cls := .type "list", data := .seq vs.toArray }) (hi : IntsAre vs ns) (hl : ns.length ≤ sizeLine) (hr : Room k callerA)
    (F : ∀ base : Heap, K.In base → base.Ns mainGlobals mg → FnOk P w K mg base CX k fa fd [x] sp) (hbind : ∀ (s : Shared) (u : Value), BindsTo s fd ⟨[u], []⟩ [(x, u)])
    (hsp : ∀ H : Hp, Only H → SqL K H a (ns.map V.int) → sp [.ref a] H (fun v _ => v = .bl true) fun _ _ _ => False)
    (hCX : ∀ H e s', CX [] H s₁ (fun _ _ _ => False) e s' → False) :
    codeAny (model P w) callerA (.call (.ref fa) ⟨[.ref a], []⟩) (fun r s' => r = .ok (.ret (.bool true)) ∧ OldK s₁.heap s'.heap ∧ s'.os = s₁.os ∧ AllBare s'.gens) s₁ := by
  have rv := vals_ints hi
  have lenV := hi.length
  -- from an abstract heap in which nothing but the script may be tracked
  have core : ∀ H : Hp, Only H → SqL K H a (ns.map V.int) → HOk P w H s₁.heap → (∀ b, H b ≠ none → b = a) → (H a ≠ none → K.lookup a = none) →
      codeAny (model P w) callerA (.call (.ref fa) ⟨[.ref a], []⟩) (fun r s' => r = .ok (.ret (.bool true)) ∧ OldK s₁.heap s'.heap ∧ s'.os = s₁.os ∧ AllBare s'.gens) s₁ := by
    intro H hO hS hok hA hK
    have base_of : ∀ {b : Addr} {o : Obj}, s₁.heap.get? b = some o → H b = none → (hidT s₁.heap H).get? b = some o := fun e n => hidT_get e n
    have noA : ∀ {b : Addr} {o : Obj} {es : Array DictEntry} {ep : Nat}, s₁.heap.get? b = some o → o.data = .dict es ep → H b = none := fun {b o es ep} e d => by
      cases q : H b with
      | none => rfl
      | some u =>
        have e' : b = a := hA b (by rw [q]; simp)
        subst e'
        rw [ha] at e; cases e
        have d' : Data.seq vs.toArray _ = Data.dict es ep := d
        cases d'
    have nsK : ∀ {b : Addr} {m : Str → Option Value}, s₁.heap.Ns b m → (hidT s₁.heap H).Ns b m := fun {b m} ⟨o, es, ep, e, d, r⟩ => ⟨o, es, ep, base_of e (noA e d), d, r⟩
    have hKb : K.In (hidT s₁.heap H) := fun b o e => base_of (KX b o e) (by
      cases q : H b with
      | none => rfl
      | some u =>
        have e' : b = a := hA b (by rw [q]; simp)
        subst e'
        rw [hK (by rw [q]; simp)] at e; cases e)
    have hM : Mod K mg (hidT s₁.heap H) := ⟨hKb, nsK hns, ⟨mb, nsK hb, hbb⟩, let ⟨mc, h1, h2⟩ := hlim; ⟨mc, nsK h1, h2⟩⟩
    have e0 : Env0 P w K mg (hidT s₁.heap H) callerA [] s₁ H := ⟨rfl, hM, fun b o e => of_hidT e, Nat.le_of_eq (hidT_size _ _), trivial, fun b hb => absurd (show b ∈ ([] : List Addr) from hb) (by simp), hok, .of_eq hg⟩
    refine codeAny_mono ((F _ hKb (nsK hns)).run callerA [] s₁ H ⟨[.ref a], []⟩ [.ref a] [.ref a] _ _ hr e0 (hbind s₁ (.ref a)) (.cons rfl .nil) (hsp H hO hS)) fun r s' h => ?_
    cases r with
    | error e => exact (hCX H e s' h).elim
    | ok fl =>
      cases fl with
      | next => exact False.elim h
      | brk => exact False.elim h
      | cont => exact False.elim h
      | ret u =>
        obtain ⟨v, H', os, bare, un, hok', r', q⟩ := h
        have q' : v = .bl true := q
        subst q'
        obtain rfl : u = Value.bool true := r'
        refine ⟨rfl, OldK.of_keep fun b o e => ?_, os, bare⟩
        cases q : H b with
        | none => exact un.keep b o e q (by intro z; exact absurd (show b ∈ ([] : List Addr) from z) (by simp)) (by simp)
        | some u =>
          rcases hO b with z | ⟨ob, xs, z⟩
          · rw [q] at z; cases z
          · have z2 := un.frzs b ob _ z
            obtain ⟨e1, _⟩ := hok b _ z
            obtain ⟨e2, _⟩ := hok' b _ z2
            rw [e] at e1; cases e1
            exact e2
  cases hk : K.lookup a with
  | some o =>
    -- the script is one of the module's own objects
    have e := KX a o hk
    rw [ha] at e
    cases e
    refine core (fun _ => none) (fun _ => .inl rfl) (.inr ⟨_, vs.toArray, _, hk, rfl, rfl, rfl, by rw [List.size_toArray, lenV]; exact hl, by simpa using rv⟩) (fun b u z => by have z' : (none : Option HO) = some u := z; cases z') (fun b z => absurd rfl z) fun z => absurd rfl z
  | none =>
    refine core (fun b => if b = a then some (.frz { cls := .type "list", data := .seq vs.toArray } (.lst (ns.map V.int))) else none) (fun b => ?_) (.inl (.inr ⟨{ cls := .type "list", data := .seq vs.toArray }, if_pos rfl⟩)) (fun b u z => ?_) (fun b z => ?_) fun _ => hk
    · by_cases hb : b = a
      · exact .inr ⟨_, _, if_pos hb⟩
      · exact .inl (if_neg hb)
    · by_cases hb : b = a
      · have z' := (if_pos hb).symm.trans z
        cases z'
        subst hb
        exact ⟨ha, by rw [List.length_map]; exact hl, vs, _, rv, ha⟩
      · have z' := (if_neg hb).symm.trans z
        cases z'
    · by_cases hb : b = a
      · exact hb
      · exact absurd (if_neg hb) z
end L2

namespace L2
open PySem PySem.Spec PyProof.Rows

abbrev KOf {K : PySem.W.Frag} {h : Heap} (_ : K.In h) : PySem.W.Frag := K

/-- the goal that k_head leaves (case hc), from the law's promise. F gives the function object fd (K's own) once, then the promise over every base -/
theorem walk_of {l : PySem.W.OpenLaw} {n k : Nat} {q : Program} {loose : List Str} {XP : (Str → Option Value) → Heap → Prop} {YP : World → Heap → Prop} {d : DefRec} {K : Params → PySem.W.Frag} {CX : World → CXT} {sp : World → Sp} {x : Str}
    (hn : l.most = some n) (hn2 : n ≤ sizeLine) (hdf : d.params.defaults = []) (hr : Room k callerA)
    (hY : ∀ (w : World) (h : Heap), YP w h → (K w.params).In h)
    (F : ∀ (w : World) (mg : Str → Option Value) (fa : Addr) (h : Heap), (K w.params).In h → h.Ns mainGlobals mg → mg d.name = some (.ref fa) →
      ∃ fd : FuncData, (∀ (s : Shared) (u : Value), BindsTo s fd ⟨[u], []⟩ [(x, u)]) ∧
        ∀ base : Heap, (K w.params).In base → base.Ns mainGlobals mg → FnOk l.prog w (K w.params) mg base (CX w) k fa fd [x] (sp w))
    (hsp : ∀ (w : World) (H : Hp) (a : Addr) (ns : List Int), ns.length ≤ n → Only H → SqL (K w.params) H a (ns.map V.int) → sp w [.ref a] H (fun v _ => v = .bl true) fun _ _ _ => False)
    (hCX : ∀ (w : World) (H : Hp) (s : Shared) (e : Value) (s' : Shared), CX w [] H s (fun _ _ _ => False) e s' → False) :
    PySem.W.WalkO q loose XP YP l.row.toRowW d [] (fun f vs => PySem.call f vs) := by
  refine Att.attach_call hn hdf fun w s₀ s₁ mg mb fa o pm cd doc a vs ns G Y ho hd hcd hmg hobj hints hlen hg => ?_
  have KX := hY w _ Y
  obtain ⟨fd, hb, hF⟩ := F w mg fa _ KX G.T.g hmg
  exact law_call KX G.T.g G.T.b G.T.builtins G.T.nolimit hg hobj hints (Nat.le_trans hlen hn2) hr hF hb (fun H hO hS => hsp w H a ns hlen hO hS) fun H e s' => hCX w H s₁ e s'
/-- the same where the promise hangs on the written part alone: (sp := My.sp_law), no hole under a binder -/
theorem walk_ofK {l : PySem.W.OpenLaw} {n k : Nat} {q : Program} {loose : List Str} {XP : (Str → Option Value) → Heap → Prop} {YP : World → Heap → Prop} {d : DefRec} {K : Params → PySem.W.Frag} {CX : CXT} {sp : PySem.W.Frag → Sp} {x : Str}
    (hn : l.most = some n) (hn2 : n ≤ sizeLine) (hdf : d.params.defaults = []) (hr : Room k callerA)
    (hY : ∀ (w : World) (h : Heap), YP w h → (K w.params).In h)
    (F : ∀ (w : World) (mg : Str → Option Value) (fa : Addr) (h : Heap), (K w.params).In h → h.Ns mainGlobals mg → mg d.name = some (.ref fa) →
      ∃ fd : FuncData, (∀ (s : Shared) (u : Value), BindsTo s fd ⟨[u], []⟩ [(x, u)]) ∧
        ∀ base : Heap, (K w.params).In base → base.Ns mainGlobals mg → FnOk l.prog w (K w.params) mg base CX k fa fd [x] (sp (K w.params)))
    (hsp : ∀ (K : PySem.W.Frag) (H : Hp) (a : Addr) (ns : List Int), ns.length ≤ n → Only H → SqL K H a (ns.map V.int) → sp K [.ref a] H (fun v _ => v = .bl true) fun _ _ _ => False)
    (hCX : ∀ (H : Hp) (s : Shared) (e : Value) (s' : Shared), CX [] H s (fun _ _ _ => False) e s' → False) :
    PySem.W.WalkO q loose XP YP l.row.toRowW d [] (fun f vs => PySem.call f vs) :=
  walk_of (K := K) (CX := fun _ => CX) (sp := fun w => sp (K w.params)) hn hn2 hdf hr hY F (fun w H a ns h1 h2 h3 => hsp (K w.params) H a ns h1 h2 h3) fun _ H s e s' => hCX H s e s'
end L2

/- THE LAST THEOREM (shape; LID, My.* are yours):
   My.Adr: a structure of the addresses that your layer names (classes, functions); My.Txt K t: a structure (Prop) of the equations over K;
   My.txt_mk : {K} {implicit addresses ..} (e1 : nsIn K mainGlobals "law" = some (some (.ref f))) (e2 : K.lookup f = some ⟨oc, od, .func (fnOf "law" "law" params body scope dV kV doc pm an cdv ct), sl⟩) (e3 : codeIn K cdv "law" = true) .. : ∃ t, My.Txt K t

set_option maxRecDepth 100000 in
set_option maxHeartbeats 0 in
theorem PySem.Challenge.cw_LID_holds : PySem.Challenge.rw_LID.Holds := by
  w_on; o_law; k_head; (case hw => w_witness2)
  k_fill
  refine L2.walk_of (l := PySem.Challenge.rw_LID) (n := 63) (k := 40) (x := "script") (CX := fun w => ..) (sp := fun _ => My.sp_law) rfl (by decide) rfl ⟨rfl, by decide, by decide⟩ (fun w h Y => PySem.W.kIn_of Y) ?F ?S ?C
  case F =>
    intro w mg fa h KX G hmg
    have T : ∃ t, My.Txt (L2.KOf KX) t := by
      dsimp only [L2.KOf]                          -- K must stand as «<heap const> w.params» for k_is
      refine' My.txt_mk ?e1 ?e2 ?e3 ..
      (case e1 => PySem.W.k_is)                    -- in the order: a name -> its address -> its object -> its parts
      (case e2 => PySem.W.k_is)
      ..
    obtain ⟨t, T⟩ := T
    have e0 := hmg.symm.trans (PySem.W.mg_of KX G T.law)
    cases e0                                       -- fa is the law's own address
    exact ⟨_, fun s u => .of_eq rfl, fun base kb nb => My.law_fn T kb nb⟩     -- if «.of_eq rfl» comes too early: refine' ⟨_, ?b, fun base kb nb => My.law_fn T kb nb⟩; exact fun s u => .of_eq rfl
  case S => exact fun w H a ns hl hO hS => ..
  case C => exact ..
(the tactic k_is has no namespace: write k_is) -/

/-! SHORT WORDS over the layer: a def of the text, its body, what a loop and a test want. -/
namespace L2
open PySem PySem.Spec PyProof.Rows

/-! ### the text by places -/
/-- the j-th statement of a class's body -/
def inClass (s : Stmt) (j : Nat) : Stmt := match s with
  | .ClassDef _ _ _ body _ _ _ _ _ _ _ => body.getD j (.Pass ⟨0, 0, 0, 0⟩)
  | _ => .Pass ⟨0, 0, 0, 0⟩
def defArgs (s : Stmt) : Arguments := match s with
  | .FunctionDef _ a _ _ _ _ _ _ _ _ => a
  | _ => { posonlyargs := [], args := [], vararg := none, kwonlyargs := [], kw_defaults := [], kwarg := none, defaults := [] }
def defBody (s : Stmt) : List Stmt := match s with
  | .FunctionDef _ _ b _ _ _ _ _ _ _ => b
  | _ => []
def defScope (s : Stmt) : Scope := match s with
  | .FunctionDef _ _ _ _ _ _ sc _ _ _ => sc
  | _ => { kind := .function, names := [], isGenerator := false, isCoroutine := false }

/-! ### no exception leaves a def -/
abbrev CX0 : CXT := fun _ _ _ _ _ _ => False
abbrev E0 : XK := fun _ _ _ => False
theorem pass0 {X : Cx} : Passes CX0 X E0 := fun _ _ _ _ _ _ _ h => h.elim

/-! ### a def (or method) of the text as it stands behind the top -/
structure Fun (K : PySem.W.Frag) (x qual : Str) (st : Stmt) (f : Addr) (fd : FuncData) : Prop where
  ex : ∃ (oc : Value) (od : Option Addr) (kV doc pm : Value) (an : Option Addr) (cdv ct : Value) (osl : Array (Option Value)),
    fd = PySem.W.fnOf x qual (defArgs st) (defBody st) (defScope st) .none kV doc pm an cdv ct ∧ K.lookup f = some ⟨oc, od, .func fd, osl⟩ ∧ PySem.W.codeIn K cdv qual = true
  kp : PySem.W.keepIn K (.ref f) = true
section
variable {P : Program} {w : World} {K : PySem.W.Frag} {mg : Str → Option Value} {base : Heap}
/-- THE RULE for a def: its body as a term of rules, and the reading of that term -/
theorem Fun.ok {x qual : Str} {st : Stmt} {f : Addr} {fd : FuncData} {N ps : List Str} {k : Nat} {sp : Sp} (F : Fun K x qual st f fd) (S : FnScope N ps (defScope st)) (len : ∀ vs H Q E, sp vs H Q E → vs.length = ps.length)
    (hbody : ∀ (cdv : Value) (A : Around) (outer : List Env) (s : Shared) (H : Hp) (vs : List V) (Q : VK) (E : XK), Room k (A.deeper (envOfC qual (defScope st) s.heap.objs.size f cdv)) → sp vs H Q E →
      ∃ t, PSs (cxOf CX0 P w K mg base N qual (defScope st) f cdv A outer s H E).nox (defBody st) t ∧ t { nx := fun _ H' => Q .non H', rt := Q } (start N vs) H) : FnOk P w K mg base CX0 (k + 1) f fd ps sp := by
  obtain ⟨oc, od, kV, doc, pm, an, cdv, ct, osl, rfl, lk, hcd⟩ := F.ex
  refine fn_of lk hcd S len fun A outer s H vs Q E hr hsp => ?_
  obtain ⟨t, h, q⟩ := hbody cdv A outer s H vs Q E hr hsp
  exact ⟨t, h.nox, q⟩
/-- how its arguments bind (no defaults): h is «fun _ _ _ _ _ _ us hl => match us, hl with | [_, _], _ => rfl», one _ a parameter -/
theorem Fun.binds {x qual : Str} {st : Stmt} {f : Addr} {fd : FuncData} {ps : List Str} (F : Fun K x qual st f fd)
    (h : ∀ (kV doc pm : Value) (an : Option Addr) (cdv ct : Value) (us : List Value), us.length = ps.length → bindArgs (PySem.W.fnOf x qual (defArgs st) (defBody st) (defScope st) .none kV doc pm an cdv ct) ⟨us, []⟩ = pure (ps.zip us)) : Binds K fd ps [] := by
  obtain ⟨oc, od, kV, doc, pm, an, cdv, ct, osl, rfl, lk, hcd⟩ := F.ex
  exact .all (h kV doc pm an cdv ct)
theorem fun_mk {x qual : Str} {st : Stmt} {f : Addr} {oc : Value} {od an : Option Addr} {osl : Array (Option Value)} {kV doc pm cdv ct : Value} (l : K.lookup f = some ⟨oc, od, .func (PySem.W.fnOf x qual (defArgs st) (defBody st) (defScope st) .none kV doc pm an cdv ct), osl⟩)
    (c : PySem.W.codeIn K cdv qual = true) (k : PySem.W.keepIn K (.ref f) = true) : Fun K x qual st f (PySem.W.fnOf x qual (defArgs st) (defBody st) (defScope st) .none kV doc pm an cdv ct) := ⟨⟨oc, od, kV, doc, pm, an, cdv, ct, osl, rfl, l, c⟩, k⟩
end
theorem hu_of {A : Around} {k : Nat} (hr : Room k A) : A.units + 1 < cLine := Nat.lt_of_le_of_lt (Nat.add_le_add_left (by decide : 1 ≤ 64) _) hr.units
theorem small1000 {n : Nat} (h : n ≤ 1000) : n < sizeLine := Nat.lt_of_le_of_lt h (by decide)

/-! ### expressions in short: the name that stands in the i-th slot -/
section
variable {X : Cx}
theorem pv (i : Nat) {x : Str} {pos : Pos} (hN : X.N[i]? = some x := by rfl) (hv : Vis X.env.scope x := by first | exact Or.inl rfl | exact Or.inr (Or.inl rfl) | exact Or.inr (Or.inr rfl)) (hd : (x == ("__debug__" : Str)) = false := by decide)
    (hcd : (x == ("__classdict__" : Str)) = false := by decide) : PE X (.Name x pos) (tVar i) := pe_var hN hv hd hcd
end

/-! ### tests -/
theorem iteF {A B : Prop} (h : B) : if false = true then A else B := by
  rw [if_neg Bool.false_ne_true]
  exact h
theorem iteT {A B : Prop} (h : A) : if true = true then A else B := by
  rw [if_pos rfl]
  exact h
theorem ite2 {c A B : Prop} [Decidable c] (h1 : c → A) (h2 : ¬ c → B) : if c then A else B := by
  by_cases h : c
  · rw [if_pos h]
    exact h1 h
  · rw [if_neg h]
    exact h2 h
theorem iteNS {c A B : Prop} [Decidable c] (hc : c) (h : B) : if (!decide c) = true then A else B := by
  rw [decide_eq_true hc]
  exact iteF h

/-! ### heaps -/
/-- all that was tracked is as it was -/
def Same (H H' : Hp) : Prop := ∀ b o, H b = some o → H' b = some o
theorem Same.refl (H : Hp) : Same H H := fun _ _ h => h
theorem Same.trans {H H1 H2 : Hp} (a : Same H H1) (b : Same H1 H2) : Same H H2 := fun c o h => b c o (a c o h)
theorem Same.free {H H' : Hp} (e : Same H H') {l : Addr} (h : H' l = Option.none) : H l = Option.none := by
  cases q : H l with
  | none => rfl
  | some o =>
    rw [e l o q] at h
    cases h
theorem Same.seq {K : PySem.W.Frag} {H H' : Hp} {a : Addr} {xs : List V} (e : Same H H') (h : SqL K H a xs) : SqL K H' a xs := by
  rcases h with (h | ⟨o, h⟩) | h
  · exact .inl (.inl (e _ _ h))
  · exact .inl (.inr ⟨o, e _ _ h⟩)
  · exact .inr h

end L2

set_option Elab.async false
set_option linter.all false
set_option maxRecDepth 100000
/-! Rules of our own over the hand layer: a def by its name, comprehensions. -/
namespace L2
open PySem PySem.Spec PyProof.Rows

/-! ### a def by its name -/
structure DefOk (P : Program) (w : World) (K : PySem.W.Frag) (mg : Str → Option Value) (base : Heap) (k : Nat) (x : Str) (ps : List Str) (sp : Sp) : Prop where
  ex : ∃ (f : Addr) (fd : FuncData), FnOk P w K mg base CX0 k f fd ps sp ∧ mg x = some (.ref f) ∧ PySem.W.keepIn K (.ref f) = true ∧ Binds K fd ps []
def tCallD (sp : Sp) (t : TA) : TE := fun σ H Q => t σ H fun vs H1 => sp vs H1 Q E0
theorem tCallD_eq (sp : Sp) (t : TA) : tCall sp [] E0 t = tCallD sp t := by
  funext σ H Q
  unfold tCall tCallD
  congr
  funext vs H1
  rw [List.append_nil]
section
variable {X : Cx} {k : Nat} {x : Str} {ps : List Str} {sp : Sp} {e : Expr} {es : List Expr} {t : TA} {p pos : Pos}
theorem pe_callD (D : DefOk X.prog X.w X.K X.mg X.base k x ps sp) (hr : Room k X.A) (ha : PA X (e :: es) t) (hg : Gl X x := by rfl)
    (hdb : (x == ("__debug__" : Str)) = false := by decide) (he : starEach (e :: es) X.env = (false, eval e X.env) :: starEach es X.env := by rfl) (hpl : (backTo pos (starEach es X.env)).any (·.1) = false := by rfl) :
    PE X (.Call (.Name x p) (e :: es) [] pos) (tCallD sp t) := by
  obtain ⟨f, fd, F, hm, hk, hb⟩ := D.ex
  rw [← tCallD_eq]
  exact pe_call F hr hg hm hk hb .nil pass0 ha hdb he hpl
theorem pe_callD0 (D : DefOk X.prog X.w X.K X.mg X.base k x ps sp) (hr : Room k X.A) (hg : Gl X x := by rfl) (hdb : (x == ("__debug__" : Str)) = false := by decide) :
    PE X (.Call (.Name x p) [] [] pos) (tCallD sp tNil) := by
  obtain ⟨f, fd, F, hm, hk, hb⟩ := D.ex
  rw [← tCallD_eq]
  exact pe_call0 F hr hg hm hk hb .nil pass0 hdb
end

/-! ### comprehensions: the cells that the block sees -/
def clOf (cells : List (Str × Addr)) : List (Str × NameKind) → List (Str × Addr) → List (Str × Addr)
  | [], acc => acc
  | (n, k) :: r, acc => clOf cells r (if (k == NameKind.free) = true then (n, (cells.lookup n).getD 0) :: acc else acc)
theorem clOf_cons (cells : List (Str × Addr)) (n : Str) (k : NameKind) (r : List (Str × NameKind)) (acc : List (Str × Addr)) : clOf cells ((n, k) :: r) acc = clOf cells r (if (k == NameKind.free) = true then (n, (cells.lookup n).getD 0) :: acc else acc) := rfl
theorem mem_clOf {cells : List (Str × Addr)} {x : Str} {c : Addr} : ∀ {l : List (Str × NameKind)} {acc : List (Str × Addr)}, (x, c) ∈ clOf cells l acc → (x, c) ∈ acc ∨ ((x, NameKind.free) ∈ l ∧ c = (cells.lookup x).getD 0)
  | [], acc, h => .inl h
  | (n, k) :: r, acc, h => by
    unfold clOf at h
    rcases mem_clOf h with h | ⟨h1, h2⟩
    · by_cases hk : (k == NameKind.free) = true
      · rw [if_pos hk] at h
        rcases List.mem_cons.mp h with h | h
        · cases h
          have : k = NameKind.free := by simpa using hk
          subst this
          exact .inr ⟨List.mem_cons_self, rfl⟩
        · exact .inl h
      · rw [if_neg hk] at h
        exact .inl h
    · exact .inr ⟨List.mem_cons_of_mem _ h1, h2⟩
theorem acc_clOf {cells : List (Str × Addr)} {q : Str × Addr} : ∀ {l : List (Str × NameKind)} {acc : List (Str × Addr)}, q ∈ acc → q ∈ clOf cells l acc
  | [], _, h => h
  | (n, k) :: r, acc, h => by
    unfold clOf
    refine acc_clOf ?_
    split
    · exact List.mem_cons_of_mem _ h
    · exact h
theorem in_clOf {cells : List (Str × Addr)} {x : Str} : ∀ {l : List (Str × NameKind)} {acc : List (Str × Addr)}, (x, NameKind.free) ∈ l → (x, (cells.lookup x).getD 0) ∈ clOf cells l acc
  | [], _, h => by cases h
  | (n, k) :: r, acc, h => by
    unfold clOf
    rcases List.mem_cons.mp h with h | h
    · cases h
      refine acc_clOf ?_
      simp
    · exact in_clOf h
theorem lookup_mem {β : Type} {x : Str} {b : β} : ∀ {l : List (Str × β)}, (x, b) ∈ l → ∃ c, l.lookup x = some c
  | [], h => by cases h
  | (n, k) :: r, h => by
    rw [List.lookup_cons]
    cases e : x == n with
    | true => exact ⟨k, rfl⟩
    | false =>
      rcases List.mem_cons.mp h with h | h
      · cases h
        simp at e
      · exact lookup_mem h
theorem closure_run {env : Env} : ∀ (l : List (Str × NameKind)) (acc : List (Str × Addr)), (∀ x ∈ l, x.2 = NameKind.free → ∃ c, env.cells.lookup x.1 = some c) →
    (forIn l acc fun x r => if (x.2 == NameKind.free) = true then (do let c ← cellOf env x.1; pure (ForInStep.yield ((x.1, c) :: r))) else pure (ForInStep.yield r) : Sem (List (Str × Addr))) = pure (clOf env.cells l acc)
  | [], acc, _ => rfl
  | (n, k) :: r, acc, h => by
    rw [List.forIn_cons]
    by_cases hk : (k == NameKind.free) = true
    · obtain ⟨c, hc⟩ := h (n, k) List.mem_cons_self (by simpa using hk)
      have e : cellOf env n = pure c := by unfold cellOf; rw [hc]
      show (if (k == NameKind.free) = true then _ else _) >>= _ = _
      rw [if_pos hk, e]
      show (forIn r ((n, c) :: acc) _ : Sem _) = _
      rw [closure_run r _ fun x hx => h x (List.mem_cons_of_mem _ hx)]
      rw [clOf_cons, if_pos hk, show env.cells.lookup n = some c from hc]
      rfl
    · show (if (k == NameKind.free) = true then _ else _) >>= _ = _
      rw [if_neg hk]
      show (forIn r acc _ : Sem _) = _
      rw [closure_run r _ fun x hx => h x (List.mem_cons_of_mem _ hx)]
      rw [clOf_cons, if_neg hk]
theorem closureFor_cl {scope : Scope} {env : Env} (h : ∀ x ∈ scope.names, x.2 = NameKind.free → ∃ c, env.cells.lookup x.1 = some c) : closureFor scope env = pure (clOf env.cells scope.names []) := by
  have e := closure_run scope.names [] h
  unfold closureFor
  first
    | exact (congrArg (fun m => m >>= fun r => pure r) e).trans rfl
    | (simp only [bind_pure]; exact e)
    | (rw [← e]; rfl)

/-! ### the block's context -/
def cxComp (X : Cx) (sc : Scope) (N : List Str) (cl : List (Str × Addr)) (C : Addr) (s₂ : Shared) (H₂ : Hp) (fp : List Addr) : Cx where
  prog := X.prog
  w := X.w
  K := X.K
  mg := X.mg
  base := X.base
  A := X.A
  N := N
  s₀ := s₂
  H₀ := H₂
  env := compEnvC sc cl C X.env
  outer := X.stack
  stack := X.stack
  ex := fp
  fn := fun _ => false
  calm := true
  pn := []
  xe := fun _ _ => False

/-- what is looked at once: the block's names against the def's -/
def compOk (NX : List Str) (scX sc : Scope) (N : List Str) (mp : List (Option Nat)) : Bool :=
  sc.names.all (fun p => p.2 != NameKind.cell) && sc.names.all (fun p => p.2 != NameKind.local || sc.names.lookup p.1 == some NameKind.local) &&
  sc.names.all (fun p => p.2 != NameKind.free || (scX.names.lookup p.1 == some NameKind.cell || scX.names.lookup p.1 == some NameKind.free)) &&
  mp.length == N.length && (N.zip mp).all (fun q => match q.2 with | none => true | some i => NX[i]? == some q.1 && sc.names.lookup q.1 == some NameKind.free)
/-- the block's values at its entry: what it sees of the def's -/
def seed (mp : List (Option Nat)) (σ : St) : St := mp.map fun o => match o with | none => none | some i => (σ[i]?).join

structure CompOk (NX : List Str) (scX sc : Scope) (N : List Str) (mp : List (Option Nat)) : Prop where
  cell : ∀ x ∈ sc.names, x.2 ≠ NameKind.cell
  loc : ∀ x ∈ sc.names, x.2 = NameKind.local → sc.names.lookup x.1 = some NameKind.local
  free : ∀ x ∈ sc.names, x.2 = NameKind.free → scX.names.lookup x.1 = some NameKind.cell ∨ scX.names.lookup x.1 = some NameKind.free
  len : mp.length = N.length
  map : ∀ (j : Nat) (x : Str) (i : Nat), N[j]? = some x → mp[j]? = some (some i) → NX[i]? = some x ∧ sc.names.lookup x = some NameKind.free
theorem compOk_of {NX : List Str} {scX sc : Scope} {N : List Str} {mp : List (Option Nat)} (h : compOk NX scX sc N mp = true) : CompOk NX scX sc N mp := by
  unfold compOk at h
  simp only [Bool.and_eq_true, List.all_eq_true] at h
  obtain ⟨⟨⟨⟨h1, h2⟩, h3⟩, h4⟩, h5⟩ := h
  have hl : mp.length = N.length := by simpa using h4
  refine ⟨fun x hx => by simpa using h1 x hx, fun x hx e => ?_, fun x hx e => ?_, hl, fun j x i e1 e2 => ?_⟩
  · have := h2 x hx
    rw [e] at this
    simpa using this
  · have := h3 x hx
    rw [e] at this
    simpa using this
  · have hj1 : j < N.length := (List.getElem?_eq_some_iff.mp e1).1
    have hj2 : j < mp.length := (List.getElem?_eq_some_iff.mp e2).1
    have hm : (x, some i) ∈ N.zip mp := by
      refine List.mem_of_getElem? (i := j) ?_
      rw [List.getElem?_zip_eq_some]
      exact ⟨e1, e2⟩
    have := h5 _ hm
    simpa using this

theorem relabel_lookup {sc : Scope} {env : Env} {x : Str} {k : NameKind} (h : (relabel sc env).names.lookup x = some k) : ∃ k', (x, k') ∈ sc.names ∧ (k = k' ∨ (k' = NameKind.free ∧ k = NameKind.cell)) := by
  have hm := PySem.mem_of_lookup h
  obtain ⟨⟨n, k'⟩, hm', e⟩ := List.mem_map.mp hm
  refine ⟨k', ?_⟩
  dsimp only at e
  split at e
  · rename_i hc
    cases e
    rw [Bool.and_eq_true, Bool.and_eq_true] at hc
    have : k' = NameKind.free := by simpa using hc.1.1
    exact ⟨hm', .inr ⟨this, rfl⟩⟩
  · cases e
    exact ⟨hm', .inl rfl⟩
theorem relabel_free {sc : Scope} {env : Env} {x : Str} (h : sc.names.lookup x = some NameKind.free) : (relabel sc env).names.lookup x = some NameKind.cell ∨ (relabel sc env).names.lookup x = some NameKind.free := by
  show (sc.names.map _).lookup x = _ ∨ (sc.names.map _).lookup x = _
  generalize sc.names = l at h
  induction l with
  | nil => cases h
  | cons p r ih =>
    obtain ⟨n, k⟩ := p
    rw [List.map_cons]
    dsimp only
    by_cases hc : (k == NameKind.free && env.scope.kind == .function && env.kindOf n == some .cell) = true
    · rw [if_pos hc, List.lookup_cons]
      cases e : x == n with
      | true => exact .inl rfl
      | false =>
        rw [List.lookup_cons, e] at h
        exact ih h
    · rw [if_neg hc, List.lookup_cons]
      cases e : x == n with
      | true =>
        rw [List.lookup_cons, e] at h
        exact .inr h
      | false =>
        rw [List.lookup_cons, e] at h
        exact ih h

section
variable {X : Cx} {sc : Scope} {N : List Str} {mp : List (Option Nat)} {pins : List (Addr × Obj)} {σ : St} {H : Hp} {s : Shared} {fp : List Addr} {C : Addr} {h₁ : Heap}
theorem cl_cells (O : CompOk X.N X.env.scope sc N mp) (ok : X.Ok) : ∀ x ∈ sc.names, x.2 = NameKind.free → ∃ c, X.env.cells.lookup x.1 = some c := fun x hx e => ok.has x.1 (O.free x hx e)
theorem cl_sub (O : CompOk X.N X.env.scope sc N mp) (ok : X.Ok) {x : Str} {c : Addr} (h : (clOf X.env.cells sc.names []).lookup x = some c) : X.env.cells.lookup x = some c ∧ (x, NameKind.free) ∈ sc.names := by
  rcases mem_clOf (PySem.mem_of_lookup h) with h | ⟨h1, h2⟩
  · cases h
  · obtain ⟨c', hc⟩ := cl_cells O ok _ h1 rfl
    have hc' : X.env.cells.lookup x = some c' := hc
    rw [hc'] at h2
    rw [hc', h2]
    exact ⟨rfl, h1⟩
theorem cl_has (O : CompOk X.N X.env.scope sc N mp) (ok : X.Ok) {x : Str} (h : (x, NameKind.free) ∈ sc.names) : ∃ c, (clOf X.env.cells sc.names []).lookup x = some c := lookup_mem (in_clOf h)

/-- the block begins -/
theorem inv_comp (hc : X.calm = true) (O : CompOk X.N X.env.scope sc N mp) (hk : sc.kind = .function) (I : Inv X pins σ H s) (hC : s.heap.objs.size ≤ C) (kp : ∀ b o, s.heap.get? b = some o → h₁.get? b = some o) {m : Str → Option Value}
    (hn : h₁.Ns C m) (fpo : ∀ b ∈ fp, FpOk X pins H b) (fpl : ∀ b ∈ fp, b < s.heap.objs.size) {t' : Nat} :
    Inv (cxComp X sc N (clOf X.env.cells sc.names []) C s H fp) [] (seed mp σ) H { s with heap := h₁, toks := t' } := by
  have ok := I.ok
  have fsb : ∀ b ∈ fp, b ∉ frs X.stack := fun b hb z => by
    rcases List.mem_cons.mp (I.stkSub b z) with e | e
    · exact (fpo b hb).2.1 e
    · exact (fpo b hb).2.2.1 e
  refine ⟨⟨ok.mod, hk, ok.glob, ok.blt, hC, ?_, ?_, ?_, fun _ => ok.hd hc, ok.frames, .inl rfl, ?_, I.bs, Nat.le_trans ok.bsz I.sz, ?_, fsb, I.stack, I.stkFree⟩, rfl, I.bare, Un.kept kp, ?_, ?_, I.hok.fresh hC, ?_, ?_, I.hok.kept kp, ?_⟩
  · intro x y c h1 h2
    exact ok.inj x y c (cl_sub O ok h1).1 (cl_sub O ok h2).1
  · intro x hx
    have hx' : (relabel sc X.env).names.lookup x = some .cell ∨ (relabel sc X.env).names.lookup x = some .free := hx
    have hf : (x, NameKind.free) ∈ sc.names := by
      rcases hx' with h | h
      · obtain ⟨k', hm, e⟩ := relabel_lookup h
        rcases e with e | ⟨e, _⟩
        · subst e
          exact absurd rfl (O.cell _ hm)
        · subst e
          exact hm
      · obtain ⟨k', hm, e⟩ := relabel_lookup h
        rcases e with e | ⟨_, e⟩
        · subst e
          exact hm
        · cases e
    exact cl_has O ok hf
  · intro x c hf
    cases hf
  · intro b hb
    refine ⟨Nat.ne_of_lt (Nat.lt_of_lt_of_le (fpl b hb) hC), fun x c h => ?_⟩
    exact (fpo b hb).2.2.2.2.1 x c (cl_sub O ok h).1
  · intro b o e hb
    rcases (fpo b hb).2.2.2.1 with z | z
    · exact ok.noex b o e z
    · exact absurd (Nat.lt_of_lt_of_le (Heap.lt_size (ok.bs b o e).1) z) (Nat.lt_irrefl _)
  · refine ⟨m, hn, fun j x v e1 e2 e3 => ?_⟩
    have e1' : N[j]? = some x := e1
    have hj : j < mp.length := by
      rw [O.len]
      exact (List.getElem?_eq_some_iff.mp e1').1
    obtain ⟨i, hi, hv⟩ : ∃ i, mp[j]? = some (some i) ∧ σ[i]? = some (some v) := by
      unfold seed at e2
      rw [List.getElem?_map] at e2
      cases e : mp[j]? with
      | none => rw [e] at e2; cases e2
      | some o =>
        rw [e] at e2
        cases o with
        | none => cases e2
        | some i =>
          refine ⟨i, rfl, ?_⟩
          have e2' : (σ[i]?).join = some v := Option.some.inj e2
          cases q : σ[i]? with
          | none => rw [q] at e2'; cases e2'
          | some z =>
            rw [q] at e2'
            have : z = some v := e2'
            rw [this]
    obtain ⟨hx, hf⟩ := O.map j x i e1' hi
    have hfm := PySem.mem_of_lookup hf
    obtain ⟨mX, hnX, hl⟩ := I.loc
    have vis : Vis X.env.scope x := by
      rcases O.free _ hfm rfl with z | z
      · exact .inr (.inl z)
      · exact .inr (.inr z)
    obtain ⟨u, r, q⟩ := hl i x v hx hv vis
    refine ⟨u, r, ?_⟩
    rcases q with ⟨z, _⟩ | ⟨_, c, ec, cellc⟩
    · exfalso
      have z' : X.env.scope.names.lookup x = some .local := z
      rcases O.free _ hfm rfl with y | y
      · rw [show X.env.scope.names.lookup x = some .cell from y] at z'; cases z'
      · rw [show X.env.scope.names.lookup x = some .free from y] at z'; cases z'
    · obtain ⟨c', hc'⟩ := cl_has O ok hfm
      have hcc := (cl_sub O ok hc').1
      rw [ec] at hcc
      cases hcc
      refine .inr ⟨relabel_free hf, c, hc', ?_⟩
      obtain ⟨o, ho, hd⟩ := cellc
      exact ⟨o, kp _ _ ho, hd⟩
  · intro x c h
    obtain ⟨v, o, ho, hd⟩ := I.cell x c (cl_sub O ok h).1
    exact ⟨v, o, kp _ _ ho, hd⟩
  · intro x c h
    exact I.freeC x c (cl_sub O ok h).1
  · intro p hp
    cases hp
  · show (seed mp σ).length = N.length
    unfold seed
    rw [List.length_map, O.len]

/-- an untracked object of ours is tracked from now on -/
theorem Inv.track {a : Addr} {o : HO} {ob : Obj} (I : Inv X pins σ H s) (ho : s.heap.get? a = some ob) (hn : H a = none) (hL : a ≠ X.env.locals) (h1 : a ∈ X.ex ∨ X.s₀.heap.objs.size ≤ a) (h2 : ∀ x c, X.env.cells.lookup x = some c → c ≠ a)
    (h3 : ∀ p ∈ X.pn ++ pins, p.1 ≠ a) (new : ObjOk X.prog X.w (upd H a o) s.heap a o) : Inv X pins σ (upd H a o) s := by
  have nit : ∀ b u, H b = some u → b ≠ a := fun b u e z => by rw [z, hn] at e; cases e
  have := I.step (g' := s.gens) (d' := s.drawn) (t' := s.toks) (h' := s.heap) (H' := upd H a o) (ch := [a]) (fun b hb => ?_) (fun b o _ _ _ e _ => e) (fun b o _ _ _ e _ => ⟨o.slots, e⟩) (fun b o hc _ n => ?_)
    (fun b o _ e => ⟨o, e⟩) (fun b xs e => ?_) (fun b u xs e => ?_) (fun b ps e => ⟨#[], ?_⟩) (fun m hm => hm) (fun b u e => ?_) I.bare
  · exact this
  · have e : b = a := by simpa using hb
    subst e
    exact ⟨h1, hL, h2, h3⟩
  · rw [upd_ne (fun z => hc (by simp [z]))]; exact n
  · rw [upd_ne (nit _ _ e)]; exact e
  · rw [upd_ne (nit _ _ e)]; exact e
  · rw [upd_ne (nit _ _ e), e]; simp
  · by_cases hb : b = a
    · subst hb; rw [upd_same] at e; cases e; exact new
    · rw [upd_ne hb] at e
      exact (I.hok b u e).stay (fun c v _ q => q) (fun c q => by rw [upd_ne (nit _ _ q)]; exact q) fun c xs q => by rw [upd_ne (nit _ _ q)]; exact q
end

/-! ### the loop of a comprehension, any target -/
theorem compLoop_own {prog : Program} {w : World} {A : Around} {R : Result → Shared → Prop} {s : Shared} {elt target iter : Expr} {ifs : List Expr} {scope : Scope} {pos : Pos} {it acc : Value} {env : Env} (I : Nat → Shared → Prop)
    (turn : ∀ n s, I n s → wpAny (model prog w) A (pyNext it) (fun r s₁ => match r with
      | none => R (.ok .next) s₁
      | some v => wpAny (model prog w) A (letOwnedTupleGo target it v) (fun _ s' => wpAny (model prog w) A (assign target env v) (fun _ s₂ =>
          wpAny (model prog w) A (forIn ifs true fun c r => if r = true then do let ok ← isTrue c env (eval c env); pure (ForInStep.yield ok) else pure (ForInStep.yield r)) (fun ok s₃ =>
            if ok = true then wpAny (model prog w) A (eval elt env) (fun x s₄ =>
              wpAny (model prog w) A (call (.builtin "list.append") [acc, x]) (fun _ s₅ => ∃ m, m < n ∧ I m s₅) (fun _ _ => False) s₄) (fun _ _ => False) s₃
            else ∃ m, m < n ∧ I m s₃) (fun _ _ => False) s₂) (fun _ _ => False) s') (fun _ _ => False) s₁) (fun _ _ => False) s)
    (n : Nat) (h : I n s) :
    codeAny (model prog w) A (.compLoop (.ListComp elt [⟨target, iter, ifs, 0⟩] scope pos) 0 it acc env) R s := by
  refine codeAny_loop rfl I (fun n s hI => ?_) n h
  show wpAny _ A ((compTurn (.ListComp elt [⟨target, iter, ifs, 0⟩] scope pos) 0 it acc env).onRaise (fun x => do noteFrame x env; theTreesLotGoes x)) _ _ s
  refine wpAny_noted ?_
  rw [compTurn_list]
  refine wpAny_bind (wpAny_standAt (wpAny_bind (wpAny_mono (turn n s hI) (fun r s₁ h₁ => ?_) fun _ _ h' => h'.elim)))
  cases r with
  | none => exact wpAny_pure h₁
  | some v =>
    refine wpAny_bind (wpAny_mono h₁ (fun _ s' h' => wpAny_bind (wpAny_mono h' (fun _ s₂ h₂ => wpAny_bind (wpAny_mono h₂ (fun ok s₃ h₃ => ?_) fun _ _ h' => h'.elim)) fun _ _ h' => h'.elim)) fun _ _ h' => h'.elim)
    cases ok with
    | false => exact wpAny_pure ⟨rfl, h₃⟩
    | true =>
      exact wpAny_bind (wpAny_bind (wpAny_mono h₃ (fun x s₄ h₄ => wpAny_bind (wpAny_mono h₄ (fun _ s₅ h₅ => wpAny_pure (wpAny_pure ⟨rfl, h₅⟩)) fun _ _ h' => h'.elim)) fun _ _ h' => h'.elim))

/-- the tests of a comprehension's clause -/
def PCk (X : Cx) (ifs : List Expr) (t : TT) : Prop :=
  ∀ (pins : List (Addr × Obj)) (s : Shared) (σ : St) (H : Hp) (Q : Bool → Hp → Prop), Inv X pins σ H s → t σ H Q →
    wpAny (model X.prog X.w) X.A (forIn ifs true fun c r => if r = true then do let ok ← isTrue c X.env (eval c X.env); pure (ForInStep.yield ok) else pure (ForInStep.yield r)) (TP X pins σ Q) X.xe s
def tTrue : TT := fun _ H Q => Q true H
theorem pk_nil1 {X : Cx} : PCk X [] tTrue := fun _ _ _ H _ I h => wpAny_tests_nil ⟨H, I, h⟩
theorem pk_one1 {X : Cx} {c : Expr} {t : TT} (h : PT X c t) : PCk X [c] t := fun pins s σ H Q I hw => wpAny_tests_one (h pins s σ H Q I hw)

/-- what a comprehension's list is: R of its items and the heap behind -/
abbrev TC := St → Hp → (List V → Hp → Prop) → Prop
def tComp (wi : TI) (mp : List (Option Nat)) (g : TG) (tc : TT) (te : TE) : TC := fun σ H R => wi σ H fun J H1 => ∃ W : Nat → Nat → List V → St → Hp → Prop, (∃ m, W 0 m [] (seed mp σ) H1) ∧ ∀ i m ys σ' H', W i m ys σ' H' →
  (J.stop i H' ∧ ys.length ≤ sizeLine ∧ R ys H') ∨
  (J.go i H' ∧ ys.length < sizeLine ∧ ∀ x H'', J.yld i H' x H'' → g x σ' H'' fun σ2 H2 => tc σ2 H2 fun b H3 =>
    if b = true then te σ2 H3 fun y H4 => ∃ m', m' < m ∧ W (i + 1) m' (ys ++ [y]) σ2 H4 else ∃ m', m' < m ∧ W (i + 1) m' ys σ2 H3)

section
variable {X : Cx} {elt tg iter : Expr} {ifs : List Expr} {sc : Scope} {pos pos' : Pos} {N : List Str} {mp : List (Option Nat)} {wi : TI} {g : TG} {tc : TT} {te : TE}
theorem comp_core {use : Option (Value → Sem Unit)} {Q : Value → Shared → Prop} (hc : X.calm = true) (hi : PI X tg iter wi) (hk : sc.kind = .function) (O : CompOk X.N X.env.scope sc N mp)
    (hb : ∀ (cl : List (Str × Addr)) (C : Addr) (s₂ : Shared) (H₂ : Hp) (fp : List Addr), PG (cxComp X sc N cl C s₂ H₂ fp) tg g ∧ PCk (cxComp X sc N cl C s₂ H₂ fp) ifs tc ∧ PE (cxComp X sc N cl C s₂ H₂ fp) elt te)
    {pins : List (Addr × Obj)} {s : Shared} {σ : St} {H : Hp} {R : List V → Hp → Prop} (I : Inv X pins σ H s) (h : tComp wi mp g tc te σ H R)
    (hs : ∀ x, foldedSetIterable iter X.env x = pure x)
    (hend : ∀ (D C : Addr) (ys : List V) (H' : Hp) (s' : Shared) (m : Str → Option Value), Inv X pins σ (upd H' D (.lst ys)) s' → s'.heap.Ns C m → FpOk X pins (upd H' D (.lst ys)) C → H' D = none → R ys H' →
      compPost (model X.prog X.w) X.A X.xe use Q (.ref D) C (.ok .next) s') :
    wpAny (model X.prog X.w) X.A (comprehension (.ListComp elt [⟨tg, iter, ifs, 0⟩] sc pos) sc X.env pos' (newList []) false (eval iter X.env) use) Q X.xe s := by
  have ok := I.ok
  refine wpAny_comprehension_free (g := ⟨tg, iter, ifs, 0⟩) (gs := []) rfl hs (closureFor_cl (cl_cells O ok)) hk O.loc (thn (hi pins s σ H _ I h) fun v s1 h1 => thn h1 fun itv s2 h2 => ?_)
  obtain ⟨it, fp, tn, J, H2, e, I2, T, st2, f2, W, ⟨m0, w0⟩, turn⟩ := h2
  subst e
  refine wpAny_newObj_type (wpAny_newFunctionEnv O.cell (by intro y hy; simp at hy) (fun h₁ hns₁ hsb₁ => ?_) hk)
  dsimp only at hns₁ hsb₁ ⊢
  generalize hP : s2.heap.push { cls := .type "list", dict := none, data := .seq ([] : List Value).toArray } = P2 at hns₁ hsb₁ ⊢
  have hCe : P2.objs.size = s2.heap.objs.size + 1 := by rw [← hP, Heap.size_push]
  have hDC : s2.heap.objs.size ≠ P2.objs.size := by rw [hCe]; exact Nat.ne_of_lt (Nat.lt_succ_self _)
  have hCle : s2.heap.objs.size ≤ P2.objs.size := by rw [hCe]; exact Nat.le_succ _
  have old : ∀ b o, s2.heap.get? b = some o → h₁.get? b = some o := fun b o e =>
    hsb₁.extBut b o (Nat.ne_of_lt (Nat.lt_of_lt_of_le (Heap.lt_size e) hCle)) (Heap.get?_push_of_some _ (hP ▸ Heap.get?_push_of_some _ e))
  have hacc : h₁.get? s2.heap.objs.size = some { cls := .type "list", dict := none, data := .seq ([] : List Value).toArray } :=
    hsb₁.extBut _ _ hDC (Heap.get?_push_of_some _ (hP ▸ Heap.get?_push_size _ rfl))
  have fpl : ∀ b ∈ fp, b < s2.heap.objs.size := fun b hb => by
    obtain ⟨o, e, _⟩ := T.obj _ _ st2 b hb
    exact Heap.lt_size e
  have hDf : s2.heap.objs.size ∉ fp := fun z => Nat.lt_irrefl _ (fpl _ z)
  have I3 : Inv (cxComp X sc N (clOf X.env.cells sc.names []) P2.objs.size s2 H2 fp) [] (seed mp σ) H2 { s2 with heap := h₁, toks := s2.toks + ([] : List (Str × Value)).length } :=
    inv_comp hc O hk I2 hCle old hns₁ f2 fpl
  obtain ⟨hg, ht, he⟩ := hb (clOf X.env.cells sc.names []) P2.objs.size s2 H2 fp
  generalize hX : cxComp X sc N (clOf X.env.cells sc.names []) P2.objs.size s2 H2 fp = Y at I3 hg ht he
  have yP : Y.prog = X.prog := by rw [← hX]; rfl
  have yw : Y.w = X.w := by rw [← hX]; rfl
  have yK : Y.K = X.K := by rw [← hX]; rfl
  have yA : Y.A = X.A := by rw [← hX]; rfl
  have yc : Y.calm = true := by rw [← hX]; rfl
  have yx : Y.xe = fun _ _ => False := by rw [← hX]; rfl
  have yl : Y.env.locals = P2.objs.size := by rw [← hX]; rfl
  have yex : Y.ex = fp := by rw [← hX]; rfl
  have ys0 : Y.s₀ = s2 := by rw [← hX]; rfl
  have yH0 : Y.H₀ = H2 := by rw [← hX]; rfl
  have ypn : Y.pn = [] := by rw [← hX]; rfl
  have yfs : Y.fs = frs X.stack := by rw [← hX]; rfl
  have yenv : Y.env = compEnvC sc (clOf X.env.cells sc.names []) P2.objs.size X.env := by rw [← hX]; rfl
  have ycl : ∀ x c, Y.env.cells.lookup x = some c → X.env.cells.lookup x = some c := fun x c e => by
    rw [yenv] at e
    exact (cl_sub O ok e).1
  have dne : ∀ x c, Y.env.cells.lookup x = some c → c ≠ s2.heap.objs.size := fun x c e z => by
    obtain ⟨v, o, ho, _⟩ := I2.cell x c (ycl x c e)
    exact absurd (Heap.lt_size ho) (by rw [z]; exact Nat.lt_irrefl _)
  have fsb : ∀ b ∈ fp, b ∉ frs X.stack := fun b hb z => by
    rcases List.mem_cons.mp (I2.stkSub b z) with e | e
    · exact (f2 b hb).2.1 e
    · exact (f2 b hb).2.2.1 e
  have dfs : s2.heap.objs.size ∉ frs X.stack := fun z => by
    rcases List.mem_cons.mp (I2.stkSub _ z) with e | e
    · exact absurd I2.lt (by rw [← e]; exact Nat.lt_irrefl _)
    · exact I2.nofs (Nat.le_refl _) e
  have fpo : ∀ {H' : Hp} {o : Obj}, (∀ b ∈ fp, H' b = none) → ∀ b ∈ fp, FpOk Y [(s2.heap.objs.size, o)] H' b := fun {H' o} hn b hb => by
    refine ⟨hn b hb, ?_, ?_, ?_, ?_, ?_⟩
    · rw [yl]; exact Nat.ne_of_lt (Nat.lt_of_lt_of_le (fpl b hb) hCle)
    · rw [yfs]; exact fsb b hb
    · rw [yex]; exact .inl hb
    · exact fun x c e => (f2 b hb).2.2.2.2.1 x c (ycl x c e)
    · intro p hp
      rw [ypn] at hp
      have : p = (s2.heap.objs.size, o) := by simpa using hp
      subst this
      exact fun z => hDf (by have z' : s2.heap.objs.size = b := z; rw [z']; exact hb)
  -- the list under work is pinned
  have pinD : ∀ {σ' : St} {H' : Hp} {s' : Shared} {o : Obj}, Inv Y [] σ' H' s' → s'.heap.get? s2.heap.objs.size = some o → (∀ v, o.data ≠ .cell v) → H' s2.heap.objs.size = none → Inv Y [(s2.heap.objs.size, o)] σ' H' s' :=
    fun {σ' H' s' o} J e d hn => J.pins_of fun p hp => by
      have : p = (s2.heap.objs.size, o) := by simpa using hp
      subst this
      exact ⟨e, hn, by rw [yl]; exact hDC, by rw [yfs]; exact dfs, d⟩
  have loop : ∀ s₃ : Shared, s₃ = { s2 with heap := h₁, toks := s2.toks + ([] : List (Str × Value)).length } →
      codeAny (model X.prog X.w) X.A (.compLoop (.ListComp elt [⟨tg, iter, ifs, 0⟩] sc pos) 0 (.ref it) (.ref s2.heap.objs.size) Y.env)
        (compPost (model X.prog X.w) X.A X.xe use Q (.ref s2.heap.objs.size) P2.objs.size) s₃ := by
    rintro s₃ rfl
    refine compLoop_own (fun n s' => ∃ i ys its c σ' H', Inv Y [(s2.heap.objs.size, ({ cls := .type "list", data := .seq its.toArray c } : Obj))] σ' H' s' ∧ Vals ys its ∧ tn i s'.heap ∧ (∀ b ∈ fp, H' b = none) ∧ ys.length ≤ sizeLine ∧ W i n ys σ' H') ?_ m0
      ⟨0, [], [], 0, seed mp σ, H2, pinD I3 hacc (fun v z => by cases z) (I2.hok.fresh (Nat.le_refl _)), .nil, T.keep _ _ _ st2 (fun b _ o e => old b o e), fun b hb => (f2 b hb).1, Nat.zero_le _, w0⟩
    rintro n s3 ⟨i, ys, its, c, σ3, H3, J3, rv, st3, fr3, hz, w3⟩
    have hpin := J3.pin _ (List.mem_append_right _ (List.mem_singleton.mpr rfl))
    rcases turn i n ys σ3 H3 w3 with ⟨stop, hl, qn⟩ | ⟨go, hl, step⟩
    · have := T.done Y yP yw yK yc i _ s3 σ3 H3 (fun _ _ => False) J3 (fpo fr3) st3 stop
      rw [yA] at this
      refine thn this fun r s4 ⟨hr, J4⟩ => ?_
      subst hr
      obtain ⟨pe, pn, _, _, _⟩ := J4.pin _ (List.mem_append_right _ (List.mem_singleton.mpr rfl))
      dsimp only at pe pn
      -- back in the def
      have un := J4.base
      rw [yfs, yex, ys0, yH0] at un
      have os4 : s4.os = s2.os := by have := J4.os; rw [ys0] at this; exact this
      have hok4 := J4.hok
      rw [yP, yw] at hok4
      have IX : Inv X pins σ H3 s4 := I2.call' os4 un hok4 J4.bare fun b hb => ⟨(f2 b hb).2.2.2.1, (f2 b hb).2.1, (f2 b hb).2.2.2.2.1, (f2 b hb).2.2.2.2.2⟩
      obtain ⟨mC, hnC, _⟩ := J4.loc
      rw [yl] at hnC
      have dX : FpOk X pins H3 s2.heap.objs.size := I2.fpOk (Nat.le_refl _) pn
      have IT : Inv X pins σ (upd H3 s2.heap.objs.size (.lst ys)) s4 := IX.track (o := .lst ys) pe pn dX.2.1 dX.2.2.2.1 dX.2.2.2.2.1 dX.2.2.2.2.2 ⟨hl, its, c, rv, pe⟩
      have cn : H3 P2.objs.size = none := by have := J4.free; rw [yl] at this; exact this
      have cX : FpOk X pins (upd H3 s2.heap.objs.size (.lst ys)) P2.objs.size := I2.fpOk hCle (by rw [upd_ne hDC.symm]; exact cn)
      exact hend _ _ ys H3 s4 mC IT hnC cX pn qn
    · have := T.item Y yP yw yK yc i _ s3 σ3 H3 (fun _ _ => False) J3 (fpo fr3) st3 go
      rw [yA] at this
      refine thn this fun r s4 ⟨u, hr, h4⟩ => ?_
      subst hr
      refine thn h4 fun _ s5 ⟨x, H5, J5, r5, y5, st5, fr5⟩ => ?_
      have J5' := J5.pinned (fpo fr5) (T.obj _ _ st5)
      have ga := hg _ s5 σ3 H5 x u _ J5' r5 (step x H5 y5)
      rw [yP, yw, yA, yx] at ga
      refine thn ga fun _ s6 ⟨σ6, H6, J6, q6⟩ => ?_
      have gt := ht _ s6 σ6 H6 _ J6 q6
      rw [yP, yw, yA, yx] at gt
      refine thn gt fun b s7 ⟨H7, J7, q7⟩ => ?_
      have pins7 : ∀ {σ' : St} {H' : Hp} {s' : Shared}, Inv Y ([(s2.heap.objs.size, ({ cls := .type "list", data := .seq its.toArray c } : Obj))] ++ pinsAt fp s5.heap) σ' H' s' → tn (i + 1) s'.heap ∧ (∀ b ∈ fp, H' b = none) := fun {σ' H' s'} J => by
        refine ⟨T.keep _ _ _ st5 fun b hb o e => (J.pin (b, o) (List.mem_append_right _ (List.mem_append_right _ (mem_pinsAt hb e)))).1, fun b hb => ?_⟩
        obtain ⟨o, e, d⟩ := T.obj _ _ st5 b hb
        exact (J.pin (b, o) (List.mem_append_right _ (List.mem_append_right _ (mem_pinsAt hb e)))).2.1
      cases b with
      | false =>
        have q7' : ∃ m', m' < n ∧ W (i + 1) m' ys σ6 H7 := by simpa using q7
        obtain ⟨m', hm, w7⟩ := q7'
        obtain ⟨t7, f7⟩ := pins7 J7
        rw [if_neg Bool.false_ne_true]
        exact ⟨m', hm, i + 1, ys, its, c, σ6, H7, J7.unpinned, rv, t7, f7, hz, w7⟩
      | true =>
        rw [if_pos rfl]
        have q7' : te σ6 H7 fun y H4 => ∃ m', m' < n ∧ W (i + 1) m' (ys ++ [y]) σ6 H4 := by simpa using q7
        have ge := he _ s7 σ6 H7 _ J7 q7'
        rw [yP, yw, yA, yx] at ge
        refine thn ge fun u8 s8 ⟨y, H8, J8, r8, m', hm, w8⟩ => ?_
        obtain ⟨t8, f8⟩ := pins7 J8
        have J8' := J8.unpinned
        obtain ⟨pe, pn, _, _, _⟩ := J8'.pin _ (List.mem_append_right _ (List.mem_singleton.mpr rfl))
        dsimp only at pe pn
        have hlen := rv.length
        refine call_meets F.slot_list_append ⟨_, pe, rfl⟩ F.entry_list_append (F.args_list_append_2 _ _) (PySem.list_append s2.heap.objs.size its.toArray c u8 (by rw [List.size_toArray]; omega)) ⟨pe, ?_⟩
        have qe := PySem.IsL.update pe (fun a => a.push u8)
        have qe' : (s8.heap.update s2.heap.objs.size (Obj.mapSeq fun a => a.push u8)).get? s2.heap.objs.size = some { cls := .type "list", data := .seq (its ++ [u8]).toArray (c + 1) } := by
          simpa using qe
        have J9 : Inv Y [] σ6 H8 { s8 with heap := s8.heap.update s2.heap.objs.size (Obj.mapSeq fun a => a.push u8), toks := s8.toks } := by
          have J0 : Inv Y [] σ6 H8 s8 := J8'.pins_of fun p hp => by cases hp
          refine J0.turned (it := s2.heap.objs.size) (fun b o hb e => (Heap.get?_update_other s8.heap _ (Ne.symm hb)).trans e) pn (by rw [yl]; exact hDC) (.inr (by rw [ys0]; exact Nat.le_refl _)) dne (fun p hp => ?_)
          rw [ypn] at hp
          cases hp
        refine ⟨m', hm, i + 1, ys ++ [y], its ++ [u8], c + 1, σ6, H8, pinD J9 qe' (fun v z => by cases z) pn, rv.append (.cons r8 .nil), ?_, f8, by rw [List.length_append, List.length_singleton]; omega, w8⟩
        exact T.keep _ _ _ t8 fun b hb o e => (Heap.get?_update_other s8.heap _ (fun (z : s2.heap.objs.size = b) => hDf (by rw [z]; exact hb))).trans e
  have yenv' : compEnvC sc (clOf X.env.cells sc.names []) P2.objs.size X.env = Y.env := yenv.symm
  show codeAny _ _ (.compStart _ 0 (.ref it) (.ref s2.heap.objs.size) (compEnvC sc (clOf X.env.cells sc.names []) P2.objs.size X.env)) _ _
  rw [yenv']
  exact codeAny_compStart_list (loop _ rfl) (T.self _ 0 _ _ _ (T.keep _ _ _ st2 fun b _ o e => old b o e) (loop _ rfl))

/-- [elt for tg in iter if ..] as a value -/
def tCompE (t : TC) : TE := fun σ H Q => t σ H fun ys H' => ∀ D, H' D = none → Q (.ref D) (upd H' D (.lst ys))
theorem pe_comp (hc : X.calm = true) (hi : PI X tg iter wi) (hk : sc.kind = .function) (hm : compOk X.N X.env.scope sc N mp = true)
    (hb : ∀ (cl : List (Str × Addr)) (C : Addr) (s₂ : Shared) (H₂ : Hp) (fp : List Addr), PG (cxComp X sc N cl C s₂ H₂ fp) tg g ∧ PCk (cxComp X sc N cl C s₂ H₂ fp) ifs tc ∧ PE (cxComp X sc N cl C s₂ H₂ fp) elt te)
    (hs : ∀ x, foldedSetIterable iter X.env x = pure x := by intro _; rfl) : PE X (.ListComp elt [⟨tg, iter, ifs, 0⟩] sc pos) (tCompE (tComp wi mp g tc te)) := by
  intro pins s σ H Q I h
  rw [eval_ListComp]
  refine comp_core (use := none) hc hi hk (compOk_of hm) hb I h hs fun D C ys H' s' m I' hn f hD q => ?_
  refine ⟨m, hn, fun h' hs' => ?_⟩
  obtain ⟨f0, f1, _, f3, f4, f5⟩ := f
  exact ⟨.ref D, _, I'.turned (t' := s'.toks) (it := C) (fun b o hb e => (hs'.2 b hb).trans e) f0 f1 f3 f4 f5, rfl, q D hD⟩
/-- x = [elt for tg in iter if ..], x a plain local -/
def tCompS (i : Nat) (t : TC) : TS := fun D σ H => t σ H fun ys H' => ∀ l, H' l = none → D.nx (σ.set i (some (.ref l))) (upd H' l (.lst ys))
theorem ps_comp {i : Nat} {x : Str} {py spos : Pos} (hN : X.N.Nodup) (hix : X.N[i]? = some x) (hx : X.env.scope.names.lookup x = some .local) (hc : X.calm = true) (hi : PI X tg iter wi) (hk : sc.kind = .function) (hm : compOk X.N X.env.scope sc N mp = true)
    (hb : ∀ (cl : List (Str × Addr)) (C : Addr) (s₂ : Shared) (H₂ : Hp) (fp : List Addr), PG (cxComp X sc N cl C s₂ H₂ fp) tg g ∧ PCk (cxComp X sc N cl C s₂ H₂ fp) ifs tc ∧ PE (cxComp X sc N cl C s₂ H₂ fp) elt te)
    (hsw : swapsWith (.ListComp elt [⟨tg, iter, ifs, 0⟩] sc pos) (some (.Name x py)) spos.line X.env = pure true := by rfl)
    (hs : ∀ x, foldedSetIterable iter X.env x = pure x := by intro _; rfl) : PS X (.Assign [.Name x py] (.ListComp elt [⟨tg, iter, ifs, 0⟩] sc pos) spos) (tCompS i (tComp wi mp g tc te)) := by
  intro pins s σ H D I h
  rw [exec_Assign_Name_used _ _ _ _ hsw]
  refine wpAny_bind (wpAny_standAt (wpAny_bind ?_))
  show wpAny _ X.A (do let _ ← comprehension (.ListComp elt [⟨tg, iter, ifs, 0⟩] sc pos) sc X.env _ (newList []) false (eval iter X.env) (some (assign (.Name x py) X.env))) _ _ s
  refine wpAny_bind (thn (comp_core (use := some (assign (.Name x py) X.env)) (Q := fun _ s' => SP X pins D .next s') hc hi hk (compOk_of hm) hb I h hs fun l C ys H' s' m I' hn f hD q => ?_) fun _ s' hq => wpAny_pure (wpAny_pure hq))
  obtain ⟨f0, f1, f2, f3, f4, f5⟩ := f
  show wpAny _ _ (assign (.Name x py) X.env (.ref l)) _ _ s'
  refine wpAny_assign_Name (store_ok2 (v := .ref l) I' hN hix (.inl hx) rfl (fun s'' I'' ⟨a, sb, ea⟩ => ?_) (.inr hx))
  have hac : C ≠ a := by
    rcases ea with e | e
    · rw [e]; exact f1
    · exact fun z => f4 x a e z.symm
  refine ⟨m, hn.sameBut sb hac, fun h' hs' => ?_⟩
  exact ⟨_, _, I''.turned (t' := s''.toks) (it := C) (fun b o hb e => (hs'.2 b hb).trans e) f0 f1 f3 f4 f5, q l hD⟩
end
end L2

set_option Elab.async false
set_option linter.all false
set_option maxRecDepth 100000
/-! Rules of our own: plain data (PyData) in the abstract heap, repr, ==, isinstance, ranges, slices. -/
namespace L2
open PySem PySem.Spec PyProof.Rows

/-! ### data -/
mutual
/-- the value stands for the data; the lists at S (they may change) are no part of it -/
def Rep (S : List Addr) (H : Hp) : PyData → V → Prop
  | .none, v => v = .non
  | .bool b, v => v = .bl b
  | .int i, v => v = .int i
  | .str x, v => v = .str x
  | .tuple ds, v => ∃ a xs, v = .ref a ∧ H a = some (.tup xs) ∧ Reps S H ds xs
  | .list ds, v => ∃ a xs, v = .ref a ∧ H a = some (.lst xs) ∧ a ∉ S ∧ Reps S H ds xs
  | .dict _, _ => False
def Reps (S : List Addr) (H : Hp) : List PyData → List V → Prop
  | [], xs => xs = []
  | d :: ds, xs => ∃ x r, xs = x :: r ∧ Rep S H d x ∧ Reps S H ds r
end
/-- what stays: all but the lists at S; the tuples anyway -/
structure Ext (S : List Addr) (H H' : Hp) : Prop where
  keep : ∀ b o, b ∉ S → H b = some o → H' b = some o
  tup : ∀ b xs, H b = some (.tup xs) → H' b = some (.tup xs)
theorem Ext.refl (S : List Addr) (H : Hp) : Ext S H H := ⟨fun _ _ _ e => e, fun _ _ e => e⟩
theorem Ext.trans {S : List Addr} {H H1 H2 : Hp} (a : Ext S H H1) (b : Ext S H1 H2) : Ext S H H2 := ⟨fun c o hc e => b.keep c o hc (a.keep c o hc e), fun c xs e => b.tup c xs (a.tup c xs e)⟩
theorem Ext.mono {S S' : List Addr} {H H' : Hp} (a : Ext S H H') (h : ∀ b ∈ S, b ∈ S') : Ext S' H H' := ⟨fun b o hb e => a.keep b o (fun z => hb (h b z)) e, a.tup⟩
theorem Ext.new {S : List Addr} {H : Hp} {p : Addr} {o : HO} (h : H p = none) : Ext S H (upd H p o) := ⟨fun b u _ e => by rw [upd_ne (ne_of_none e h)]; exact e, fun b xs e => by rw [upd_ne (ne_of_none e h)]; exact e⟩
theorem Ext.set {S : List Addr} {H : Hp} {p : Addr} {o : HO} {xs : List V} (hp : p ∈ S) (h : H p = some (.lst xs)) : Ext S H (upd H p o) :=
  ⟨fun b u hb e => by rw [upd_ne (fun (z : b = p) => hb (by rw [z]; exact hp))]; exact e, fun b ys e => by rw [upd_ne (fun z => by rw [z, h] at e; cases e)]; exact e⟩
/-- .. where p is new ahead of H0 -/
theorem Ext.set' {S : List Addr} {H0 H : Hp} {p : Addr} {o : HO} {xs : List V} (a : Ext S H0 H) (h0 : H0 p = none) (h : H p = some (.lst xs)) : Ext S H0 (upd H p o) :=
  ⟨fun b u hb e => by rw [upd_ne (fun z => by rw [z, h0] at e; cases e)]; exact a.keep b u hb e, fun b ys e => by rw [upd_ne (fun z => by rw [z, h0] at e; cases e)]; exact a.tup b ys e⟩
theorem Ext.new' {S : List Addr} {H0 H : Hp} {p : Addr} {o : HO} (a : Ext S H0 H) (h : H p = none) : Ext S H0 (upd H p o) := a.trans (.new h)
theorem Ext.fresh {S : List Addr} {H0 H : Hp} {p : Addr} (a : Ext S H0 H) (hp : p ∉ S) (h : H p = none) : H0 p = none := by
  cases e : H0 p with
  | none => rfl
  | some o => rw [a.keep p o hp e] at h; cases h

mutual
theorem Rep.ext {S : List Addr} {H H' : Hp} (x : Ext S H H') : ∀ {d : PyData} {v : V}, Rep S H d v → Rep S H' d v
  | .none, _, h => h
  | .bool _, _, h => h
  | .int _, _, h => h
  | .str _, _, h => h
  | .tuple ds, _, h => by
    unfold Rep at h ⊢
    obtain ⟨a, xs, e, ha, hr⟩ := h
    exact ⟨a, xs, e, x.tup a xs ha, Reps.ext x hr⟩
  | .list ds, _, h => by
    unfold Rep at h ⊢
    obtain ⟨a, xs, e, ha, hs, hr⟩ := h
    exact ⟨a, xs, e, x.keep a _ hs ha, hs, Reps.ext x hr⟩
  | .dict _, _, h => h
theorem Reps.ext {S : List Addr} {H H' : Hp} (x : Ext S H H') : ∀ {ds : List PyData} {vs : List V}, Reps S H ds vs → Reps S H' ds vs
  | [], _, h => h
  | d :: ds, _, h => by
    unfold Reps at h ⊢
    obtain ⟨y, r, e, h1, h2⟩ := h
    exact ⟨y, r, e, Rep.ext x h1, Reps.ext x h2⟩
end
mutual
theorem Rep.less {S S' : List Addr} {H : Hp} (x : ∀ b ∈ S', b ∈ S) : ∀ {d : PyData} {v : V}, Rep S H d v → Rep S' H d v
  | .none, _, h => h
  | .bool _, _, h => h
  | .int _, _, h => h
  | .str _, _, h => h
  | .tuple ds, _, h => by
    unfold Rep at h ⊢
    obtain ⟨a, xs, e, ha, hr⟩ := h
    exact ⟨a, xs, e, ha, Reps.less x hr⟩
  | .list ds, _, h => by
    unfold Rep at h ⊢
    obtain ⟨a, xs, e, ha, hs, hr⟩ := h
    exact ⟨a, xs, e, ha, fun z => hs (x a z), Reps.less x hr⟩
  | .dict _, _, h => h
theorem Reps.less {S S' : List Addr} {H : Hp} (x : ∀ b ∈ S', b ∈ S) : ∀ {ds : List PyData} {vs : List V}, Reps S H ds vs → Reps S' H ds vs
  | [], _, h => h
  | d :: ds, _, h => by
    unfold Reps at h ⊢
    obtain ⟨y, r, e, h1, h2⟩ := h
    exact ⟨y, r, e, Rep.less x h1, Reps.less x h2⟩
end
section
variable {S : List Addr} {H : Hp}
theorem Reps.nil : Reps S H [] [] := by unfold Reps; rfl
theorem Reps.cons {d : PyData} {x : V} {ds : List PyData} {xs : List V} (h : Rep S H d x) (t : Reps S H ds xs) : Reps S H (d :: ds) (x :: xs) := by unfold Reps; exact ⟨x, xs, rfl, h, t⟩
theorem Reps.of_cons {d : PyData} {ds : List PyData} {xs : List V} (h : Reps S H (d :: ds) xs) : ∃ x r, xs = x :: r ∧ Rep S H d x ∧ Reps S H ds r := by unfold Reps at h; exact h
theorem Reps.of_nil {xs : List V} (h : Reps S H [] xs) : xs = [] := by unfold Reps at h; exact h
theorem Reps.length : ∀ {ds : List PyData} {xs : List V}, Reps S H ds xs → xs.length = ds.length
  | [], _, h => by rw [h.of_nil]; rfl
  | _ :: _, _, h => by
    obtain ⟨x, r, e, _, h2⟩ := h.of_cons
    subst e
    simp [h2.length]
theorem Reps.get : ∀ {ds : List PyData} {xs : List V} {i : Nat} {x : V}, Reps S H ds xs → xs[i]? = some x → ∃ d, ds[i]? = some d ∧ Rep S H d x
  | [], _, i, x, h, e => by rw [h.of_nil] at e; cases e
  | d :: ds, _, 0, x, h, e => by
    obtain ⟨y, r, e1, h1, h2⟩ := h.of_cons
    subst e1
    cases e
    exact ⟨d, rfl, h1⟩
  | d :: ds, _, i + 1, x, h, e => by
    obtain ⟨y, r, e1, h1, h2⟩ := h.of_cons
    subst e1
    obtain ⟨d', q, h3⟩ := Reps.get (i := i) h2 (by simpa using e)
    exact ⟨d', by simpa using q, h3⟩
theorem Reps.at : ∀ {ds : List PyData} {xs : List V} {i : Nat} {d : PyData}, Reps S H ds xs → ds[i]? = some d → ∃ x, xs[i]? = some x ∧ Rep S H d x
  | [], _, i, d, h, e => by cases e
  | d :: ds, _, 0, d', h, e => by
    obtain ⟨y, r, e1, h1, h2⟩ := h.of_cons
    subst e1
    cases e
    exact ⟨y, rfl, h1⟩
  | d :: ds, _, i + 1, d', h, e => by
    obtain ⟨y, r, e1, h1, h2⟩ := h.of_cons
    subst e1
    obtain ⟨x, q, h3⟩ := Reps.at (i := i) h2 (by simpa using e)
    exact ⟨x, by simpa using q, h3⟩
theorem Reps.append : ∀ {ds es : List PyData} {xs ys : List V}, Reps S H ds xs → Reps S H es ys → Reps S H (ds ++ es) (xs ++ ys)
  | [], _, _, _, h, k => by rw [h.of_nil]; exact k
  | d :: ds, _, _, _, h, k => by
    obtain ⟨y, r, e1, h1, h2⟩ := h.of_cons
    subst e1
    exact .cons h1 (Reps.append h2 k)
theorem Reps.take : ∀ {ds : List PyData} {xs : List V} (n : Nat), Reps S H ds xs → Reps S H (ds.take n) (xs.take n)
  | _, _, 0, _ => .nil
  | [], _, n + 1, h => by rw [h.of_nil]; exact .nil
  | d :: ds, _, n + 1, h => by
    obtain ⟨y, r, e1, h1, h2⟩ := h.of_cons
    subst e1
    exact .cons h1 (Reps.take n h2)
theorem Reps.drop : ∀ {ds : List PyData} {xs : List V} (n : Nat), Reps S H ds xs → Reps S H (ds.drop n) (xs.drop n)
  | _, _, 0, h => h
  | [], _, n + 1, h => by rw [h.of_nil]; exact .nil
  | d :: ds, _, n + 1, h => by
    obtain ⟨y, r, e1, h1, h2⟩ := h.of_cons
    subst e1
    exact Reps.drop n h2
theorem Reps.reverse : ∀ {ds : List PyData} {xs : List V}, Reps S H ds xs → Reps S H ds.reverse xs.reverse
  | [], _, h => by rw [h.of_nil]; exact .nil
  | d :: ds, _, h => by
    obtain ⟨y, r, e1, h1, h2⟩ := h.of_cons
    subst e1
    rw [List.reverse_cons, List.reverse_cons]
    exact (Reps.reverse h2).append (.cons h1 .nil)
theorem Reps.eraseIdx : ∀ {ds : List PyData} {xs : List V} (n : Nat), Reps S H ds xs → Reps S H (ds.eraseIdx n) (xs.eraseIdx n)
  | [], _, n, h => by rw [h.of_nil]; exact .nil
  | d :: ds, _, 0, h => by
    obtain ⟨y, r, e1, h1, h2⟩ := h.of_cons
    subst e1
    exact h2
  | d :: ds, _, n + 1, h => by
    obtain ⟨y, r, e1, h1, h2⟩ := h.of_cons
    subst e1
    exact .cons h1 (Reps.eraseIdx n h2)
theorem Reps.ints : ∀ (ns : List Int), Reps S H (ns.map PyData.int) (ns.map V.int)
  | [] => .nil
  | n :: ns => .cons (by unfold Rep; rfl) (Reps.ints ns)
theorem Rep.tup {a : Addr} {xs : List V} {ds : List PyData} (h : H a = some (.tup xs)) (r : Reps S H ds xs) : Rep S H (.tuple ds) (.ref a) := by unfold Rep; exact ⟨a, xs, rfl, h, r⟩
theorem Rep.lst {a : Addr} {xs : List V} {ds : List PyData} (h : H a = some (.lst xs)) (hs : a ∉ S) (r : Reps S H ds xs) : Rep S H (.list ds) (.ref a) := by unfold Rep; exact ⟨a, xs, rfl, h, hs, r⟩
theorem Rep.int (i : Int) : Rep S H (.int i) (.int i) := by unfold Rep; rfl
theorem Rep.bl (b : Bool) : Rep S H (.bool b) (.bl b) := by unfold Rep; rfl
theorem Rep.non : Rep S H .none .non := by unfold Rep; rfl
theorem Rep.str (x : Str) : Rep S H (.str x) (.str x) := by unfold Rep; rfl
theorem Rep.of_tup {ds : List PyData} {v : V} (h : Rep S H (.tuple ds) v) : ∃ a xs, v = .ref a ∧ H a = some (.tup xs) ∧ Reps S H ds xs := by unfold Rep at h; exact h
theorem Rep.of_lst {ds : List PyData} {v : V} (h : Rep S H (.list ds) v) : ∃ a xs, v = .ref a ∧ H a = some (.lst xs) ∧ a ∉ S ∧ Reps S H ds xs := by unfold Rep at h; exact h
theorem Rep.of_int {i : Int} {v : V} (h : Rep S H (.int i) v) : v = .int i := by unfold Rep at h; exact h
theorem Rep.of_bl {b : Bool} {v : V} (h : Rep S H (.bool b) v) : v = .bl b := by unfold Rep at h; exact h
theorem Rep.of_str {x : Str} {v : V} (h : Rep S H (.str x) v) : v = .str x := by unfold Rep at h; exact h
theorem Rep.of_non {v : V} (h : Rep S H .none v) : v = .non := by unfold Rep at h; exact h
end

/-! ### data is read by the model -/
mutual
theorem Rep.reads {P : Program} {w : World} {S : List Addr} {H : Hp} {h : Heap} (ok : HOk P w H h) : ∀ {d : PyData} {v : V} {u : Value}, Rep S H d v → RelV v u → ∃ as, Reads h u d as
  | .none, v, u, r, q => by cases r.of_non; cases (show u = Value.none from q); exact ⟨_, .none⟩
  | .bool b, v, u, r, q => by cases r.of_bl; cases (show u = Value.bool b from q); exact ⟨_, .bool b⟩
  | .int i, v, u, r, q => by cases r.of_int; obtain ⟨t, e⟩ := (show ∃ t, u = Value.int i t from q); cases e; exact ⟨_, .int i t⟩
  | .str x, v, u, r, q => by cases r.of_str; obtain ⟨t, e⟩ := (show ∃ t, u = Value.str x t from q); cases e; exact ⟨_, .str x t⟩
  | .tuple ds, v, u, r, q => by
    obtain ⟨a, xs, rfl, ha, hr⟩ := r.of_tup
    cases (show u = Value.ref a from q)
    obtain ⟨_, its, rv, o, e, c, n, d⟩ := ok a _ ha
    obtain ⟨as, ra⟩ := Reps.reads ok hr rv
    exact ⟨_, .tuple e c d (by simpa using ra)⟩
  | .list ds, v, u, r, q => by
    obtain ⟨a, xs, rfl, ha, _, hr⟩ := r.of_lst
    cases (show u = Value.ref a from q)
    obtain ⟨_, its, n, rv, e⟩ := ok a _ ha
    obtain ⟨as, ra⟩ := Reps.reads ok hr rv
    exact ⟨_, .list e rfl rfl (by simpa using ra)⟩
  | .dict _, v, u, r, q => by unfold Rep at r; exact r.elim
theorem Reps.reads {P : Program} {w : World} {S : List Addr} {H : Hp} {h : Heap} (ok : HOk P w H h) : ∀ {ds : List PyData} {xs : List V} {us : List Value}, Reps S H ds xs → Vals xs us → ∃ as, ReadsAll h us ds as
  | [], xs, us, r, q => by
    cases r.of_nil
    cases q
    exact ⟨_, .nil⟩
  | d :: ds, xs, us, r, q => by
    obtain ⟨x, t, rfl, h1, h2⟩ := r.of_cons
    cases q with
    | cons q1 q2 =>
      obtain ⟨as, a1⟩ := Rep.reads ok h1 q1
      obtain ⟨bs, b1⟩ := Reps.reads ok h2 q2
      exact ⟨_, .cons a1 b1⟩
end

/-! ### what is good to show and to compare -/
structure Good (d : PyData) : Prop where
  lay : d.canLay0 = true
  show' : d.showable = true
  short : d.leavesShort 60 = true
  deep : d.depth ≤ 60
  light : d.weight ≤ 200000
theorem Good.nodict {d : PyData} (g : Good d) : d.hasDict = false := PyData.hasDict_of_canLay d g.lay
theorem Good.fits {d : PyData} (g : Good d) : d.shown.length ≤ sizeLine := by
  have h := PyData.shown_le 60 (by decide) d g.short
  have h2 := g.light
  rw [sizeLine_eq]
  omega

section
variable {X : Cx} {k : Nat}
theorem call_reprD (hr : Room k X.A) : CallR X (.builtin "repr") (fun xs H Q => ∃ S d v, xs = [v] ∧ Rep S H d v ∧ Good d ∧ Q (.str d.shown) H) := by
  intro pins s σ H xs us Q I r h
  obtain ⟨S, d, v, rfl, rp, g, q⟩ := h
  obtain ⟨u, rfl, ru⟩ := vals1 r
  have hun := hr.units
  have fin : ∀ (h' : Heap) (t : Tok) (tk : Nat), (∀ b o, s.heap.get? b = some o → h'.get? b = some o) → EP X pins σ Q (.str d.shown t) { s with heap := h', toks := tk } := fun h' t tk kp => ⟨.str d.shown, H, I.kept kp, ⟨t, rfl⟩, q⟩
  have fin0 : ∀ (t : Tok) (tk : Nat), EP X pins σ Q (.str d.shown t) { s with toks := tk } := fun t tk => fin s.heap t tk fun _ _ e => e
  cases d with
  | none => cases rp.of_non; cases (show u = Value.none from ru); exact P.repr_of_none (fin0 _ _)
  | bool b => cases rp.of_bl; cases (show u = Value.bool b from ru); exact P.repr_of_bool (fin0 _ _)
  | int i => cases rp.of_int; obtain ⟨t, e⟩ := (show ∃ t, u = Value.int i t from ru); cases e; exact P.repr_of_int (by simpa [PyData.showable] using g.show') (fin0 _ _)
  | str x => cases rp.of_str; obtain ⟨t, e⟩ := (show ∃ t, u = Value.str x t from ru); cases e; exact P.repr_of_str (fin0 _ _) g.fits
  | tuple ds =>
    obtain ⟨as, ra⟩ := rp.reads I.hok ru
    obtain ⟨a, xs, rfl, _⟩ := rp.of_tup
    cases (show u = Value.ref a from ru)
    exact repr_of_reads' ra g.show' (PyData.noDict_hsm g.nodict) hr.gd (by have := g.deep; omega) (fun _ _ e => e) (fun h' t tk kp => fin h' t tk kp) g.fits
  | list ds =>
    obtain ⟨as, ra⟩ := rp.reads I.hok ru
    obtain ⟨a, xs, rfl, _⟩ := rp.of_lst
    cases (show u = Value.ref a from ru)
    exact repr_of_reads' ra g.show' (PyData.noDict_hsm g.nodict) hr.gd (by have := g.deep; omega) (fun _ _ e => e) (fun h' t tk kp => fin h' t tk kp) g.fits
  | dict _ => unfold Rep at rp; exact rp.elim
/-- data compared -/
def rEqD (neg : Bool) : R2 := fun x y H Q => ∃ S dx dy, Rep S H dx x ∧ Rep S H dy y ∧ dx.canLay0 = true ∧ dy.canLay0 = true ∧ dx.depth ≤ 60 ∧ Q (.bl (if neg then !PyData.eqv dx dy else PyData.eqv dx dy)) H
theorem op_eqD (hr : Room k X.A) : OpR X (compareOp .Eq) (rEqD false) := by
  intro pins s σ H x y v u Q I rx ry h
  obtain ⟨S, dx, dy, h1, h2, c1, c2, d1, q⟩ := h
  obtain ⟨as, ra⟩ := h1.reads I.hok rx
  obtain ⟨bs, rb⟩ := h2.reads I.hok ry
  have hun := hr.units
  exact SeqAt.compareEq_reads ra rb c1 c2 (by omega) ⟨.bl _, H, I, rfl, q⟩
theorem op_neD (hr : Room k X.A) : OpR X (compareOp .NotEq) (rEqD true) := by
  intro pins s σ H x y v u Q I rx ry h
  obtain ⟨S, dx, dy, h1, h2, c1, c2, d1, q⟩ := h
  obtain ⟨as, ra⟩ := h1.reads I.hok rx
  obtain ⟨bs, rb⟩ := h2.reads I.hok ry
  have hun := hr.units
  exact SeqAt.compareNe_reads ra rb c1 c2 (by omega) ⟨.bl _, H, I, rfl, q⟩

/-! ### isinstance against a built-in type -/
theorem call_isi : CallR X (.builtin "isinstance") (fun xs H Q => ∃ x t c b, xs = [x, .ty c] ∧ TyOf X.K H x (.type t) ∧ PySem.W.kitOne X.K (.type t) (.type c) = some b ∧ Q (.bl b) H) := by
  intro pins s σ H xs us Q I r h
  obtain ⟨x, t, c, b, rfl, ty, e, q⟩ := h
  obtain ⟨u, u2, rfl, rx, rc⟩ := vals2 r
  cases (show u2 = Value.type c from rc)
  exact isinst_ok I rx ty e fun tk => ⟨.bl b, H, I.tok tk, rfl, q⟩
end

/-- the type of data -/
def tyD : PyData → String
  | .none => "NoneType"
  | .bool _ => "bool"
  | .int _ => "int"
  | .str _ => "str"
  | .list _ => "list"
  | .tuple _ => "tuple"
  | .dict _ => "dict"
theorem Rep.ty {K : PySem.W.Frag} {S : List Addr} {H : Hp} {d : PyData} {v : V} (h : Rep S H d v) : TyOf K H v (.type (tyD d)) := by
  cases d with
  | none => cases h.of_non; exact .non
  | bool b => cases h.of_bl; exact .bl b
  | int i => cases h.of_int; exact .int i
  | str x => cases h.of_str; exact .str x
  | tuple ds => obtain ⟨a, xs, rfl, ha, _⟩ := h.of_tup; exact .tup ha
  | list ds => obtain ⟨a, xs, rfl, ha, _⟩ := h.of_lst; exact .lst ha
  | dict _ => unfold Rep at h; exact h.elim
end L2

set_option Elab.async false
set_option linter.all false
set_option maxRecDepth 100000
/-! Rules of our own: ranges as values, tuple(range), slices of tuples, sums of tuples, insert, min and max of a tuple. -/
namespace PySem
open Sem (wp)
open AutoSeq1 (wpAny_loadPart')
section
variable {prog : Program} {w : World} {A : Around} {E : Value → Shared → Prop} {s : Shared}
theorem collect_range_own {Q : List Value → Shared → Prop} {r : Addr} {a b c : Int} {t u v : Tok} {n : Nat} (hh : A.handled = none) (hr : IsRange s.heap r a b c t u v) (hsmall : Builtin.Range.small a b c = true)
    (hn : Builtin.Range.rangeSize a b c = n) (hlen : n ≤ 2 ^ 24)
    (hQ : ∀ h' tk (acc : Array Value), (∀ b o, s.heap.get? b = some o → h'.get? b = some o) → ItemsOf (fun i v => ∃ t, v = .int (a + i * c) t) acc n → Q acc.toList { s with heap := h', toks := tk }) :
    wpAny (model prog w) A (collect (.ref r)) Q E s := by
  unfold collect
  refine wpAny_bind (wpAny_runValue (codeAny_builtin F.entry_proto_collect ?_))
  rw [Around.under_plainId F.plain_proto_collect _]
  show wpAny _ A.in1 (newList [] >>= fun l => again (.builtin "list.__iadd__" ⟨[l, .ref r], []⟩)) _ _ s
  refine wpAny_bind (wpAny_newObj_type ?_)
  refine wpAny_pure ⟨plainId_quiet F.plain_list_iadd _, codeAny_builtin F.entry_list_iadd ?_⟩
  rw [Around.under_plainId F.plain_list_iadd _]
  show wpAny _ A.in1 (Builtin.List.listExtendWith (.ref s.heap.objs.size) (.ref r) (.ref s.heap.objs.size)) _ _ _
  have hS : (s.heap.push { cls := .type "list", data := .seq ([] : List Value).toArray }).get? s.heap.objs.size = some { cls := .type "list", data := .seq #[] 0 } := Heap.get?_push_size _ rfl
  have fin' : ∀ (h' : Heap) (tk : Nat) (acc : Array Value) (c' : Nat), (∀ b o, b ≠ s.heap.objs.size → (s.heap.push { cls := .type "list", data := .seq ([] : List Value).toArray }).get? b = some o → h'.get? b = some o) →
      h'.get? s.heap.objs.size = some { cls := .type "list", dict := none, data := .seq acc c', slots := #[] } → ItemsOf (fun i v => ∃ t, v = .int (a + i * c) t) acc n →
      wpAny (model prog w) A (match Value.ref s.heap.objs.size with
      | Value.ref a => do
        match (← load a).data with
          | Data.seq xs _ => pure xs.toList
          | _ => unsupported "internal:collect"
      | _ => unsupported "internal:collect") Q E { s with heap := h', toks := tk } := fun h' tk acc c' kp e hi => by
    show wpAny _ A (load s.heap.objs.size >>= _) _ _ _
    refine wpAny_bind (wpAny_load e ?_)
    exact wpAny_pure (hQ h' tk acc (fun b o hb => kp b o (Nat.ne_of_lt (Heap.lt_size hb)) (Heap.get?_push_of_some _ hb)) hi)
  refine wpAny_mono (wpAny_extend_range (A := A) (R := fun r' s' => r' = .ok (.ret (.ref s.heap.objs.size)) ∧ ∃ h' tk acc c', s' = { s with heap := h', toks := tk } ∧ (∀ b o, b ≠ s.heap.objs.size → (s.heap.push { cls := .type "list", data := .seq ([] : List Value).toArray }).get? b = some o → h'.get? b = some o) ∧
      h'.get? s.heap.objs.size = some { cls := .type "list", dict := none, data := .seq acc c', slots := #[] } ∧ ItemsOf (fun i v => ∃ t, v = .int (a + i * c) t) acc n)
    (s := { s with heap := s.heap.push { cls := .type "list", data := .seq ([] : List Value).toArray } }) hh (Heap.get?_push_of_some _ hr) hsmall hn hlen s.heap.objs.size (.ref s.heap.objs.size) 0 hS
    fun h' tk acc c' kp e hi => ⟨rfl, h', tk, acc, c', rfl, kp, e, hi⟩) (fun fin s' h => ?_) (fun e s' h => ?_)
  · cases fin with
    | done f =>
      obtain ⟨e, h', tk, acc, c', rfl, kp, q, hi⟩ := h
      cases e
      exact fin' h' tk acc c' kp q hi
    | again c' => exact ⟨h.1, codeAny_mono h.2 fun r s'' hr => by obtain ⟨rfl, h', tk, acc, c', rfl, kp, q, hi⟩ := hr; exact fin' h' tk acc c' kp q hi⟩
  · exact absurd h.1 (by simp)
end
end PySem
namespace L2
open PySem PySem.Spec PyProof.Rows
/-! ### ranges as values -/
def rngV (lo hi : Int) : List V := (List.range (hi - lo).toNat).map fun (k : Nat) => V.int (lo + k)
section
variable {X : Cx}
theorem call_rng : CallR X (.type "range") (fun xs H Q => ∃ j : Int, xs = [.int j] ∧ ∀ p, H p = none → Q (.ref p) (upd H p (.rng 0 j))) := by
  intro pins s σ H xs us Q I r h
  obtain ⟨j, rfl, q⟩ := h
  obtain ⟨u, rfl, ru⟩ := vals1 r
  obtain ⟨t, rfl⟩ := ru
  refine call_range_1 ?_
  refine ⟨.ref s.heap.objs.size, _, I.laid (o := .rng 0 j) (fun b o e => Heap.get?_push_of_some _ e) (Nat.le_refl _) ⟨_, _, _, Heap.get?_push_size _ rfl⟩, rfl, q _ (I.hok.fresh (Nat.le_refl _))⟩
theorem items_rng {lo hi : Int} {acc : Array Value} (h : ItemsOf (fun i v => ∃ t, v = Value.int (lo + i * 1) t) acc (hi - lo).toNat) : Vals (rngV lo hi) acc.toList := by
  obtain ⟨hs, hi'⟩ := h
  unfold rngV
  have : ∀ (l : List Value) (k : Nat), (∀ j v, l[j]? = some v → ∃ t, v = Value.int (lo + ((k + j : Nat) : Int)) t) → Vals ((List.range' k l.length).map fun (k : Nat) => V.int (lo + k)) l := by
    intro l
    induction l with
    | nil => intro k _; exact .nil
    | cons v l ih =>
      intro k hv
      rw [List.length_cons, List.range'_succ, List.map_cons]
      refine .cons (hv 0 v rfl) (ih (k + 1) fun j w hw => ?_)
      obtain ⟨t, e⟩ := hv (j + 1) w (by simpa using hw)
      exact ⟨t, by rw [e]; congr 2; omega⟩
  have q := this acc.toList 0 fun j v hv => by
    obtain ⟨t, e⟩ := hi' j v (by simpa using hv)
    exact ⟨t, by rw [e, Int.mul_one, Nat.zero_add]⟩
  rw [List.range_eq_range', ← hs]
  simpa using q
theorem rng_size (lo hi : Int) : Builtin.Range.rangeSize lo hi 1 = ((hi - lo).toNat : Int) := by rw [rangeSize_one]; split <;> omega
theorem call_list_rng (hc : X.calm = true) : CallR X (.type "list") (fun xs H Q => ∃ p lo hi, xs = [.ref p] ∧ H p = some (.rng lo hi) ∧ (-(2 ^ 62) ≤ lo ∧ lo < 2 ^ 62 ∧ -(2 ^ 62) ≤ hi ∧ hi < 2 ^ 62) ∧ (hi - lo).toNat ≤ 2 ^ 24 ∧ ∀ l, H l = none → Q (.ref l) (upd H l (.lst (rngV lo hi)))) := by
  intro pins s σ H xs us Q I r h
  obtain ⟨p, lo, hi, rfl, hp, ⟨h1, h2, h3, h4⟩, hl, q⟩ := h
  obtain ⟨u, rfl, ru⟩ := vals1 r
  cases ru
  obtain ⟨t, u, v, e⟩ := I.hok p _ hp
  refine call_list_range (I.ok.hd hc) e (small_one h1 h2 h3 h4) (rng_size lo hi) hl fun h' tk acc' c' kp e' hi' => ?_
  have hv := items_rng hi'
  have hlen := hv.length
  have hr : (rngV lo hi).length ≤ sizeLine := by
    unfold rngV; rw [List.length_map, List.length_range, sizeLine_eq]; omega
  refine ⟨.ref s.heap.objs.size, _, I.laid kp (Nat.le_refl _) (show ObjOk X.prog X.w _ h' _ (.lst (rngV lo hi)) from ⟨hr, acc'.toList, c', hv, by simpa using e'⟩), rfl, q _ (I.hok.fresh (Nat.le_refl _))⟩
theorem call_tuple_rng (hc : X.calm = true) : CallR X (.type "tuple") (fun xs H Q => ∃ p lo hi, xs = [.ref p] ∧ H p = some (.rng lo hi) ∧ (-(2 ^ 62) ≤ lo ∧ lo < 2 ^ 62 ∧ -(2 ^ 62) ≤ hi ∧ hi < 2 ^ 62) ∧ (hi - lo).toNat ≤ 2 ^ 24 ∧ ∀ l, H l = none → Q (.ref l) (upd H l (.tup (rngV lo hi)))) := by
  intro pins s σ H xs us Q I r h
  obtain ⟨p, lo, hi, rfl, hp, ⟨h1, h2, h3, h4⟩, hl, q⟩ := h
  obtain ⟨u, rfl, ru⟩ := vals1 r
  cases ru
  obtain ⟨t, u, v, e⟩ := I.hok p _ hp
  have hd := I.ok.hd hc
  have hr : (rngV lo hi).length ≤ sizeLine := by
    unfold rngV; rw [List.length_map, List.length_range, sizeLine_eq]; omega
  refine callType_new F.called_tuple (by decide) (F.typeCall_tuple_1 _) (F.newCall_tuple_1 _) (fun obj => F.args_object_init_2 obj _) F.entry_tuple_new
    (S := fun A' R s' => A'.handled = none ∧ s'.heap.get? p = some { cls := .type "range", data := .fields #[.int lo t, .int hi u, .int 1 v] } ∧ ∀ (h' : Heap) (tk : Nat) (acc : Array Value), (∀ b o', s'.heap.get? b = some o' → h'.get? b = some o') → ItemsOf (fun i v => ∃ t, v = .int (lo + i * 1) t) acc (hi - lo).toNat → R (.ok (.ret (.ref h'.objs.size))) { s' with heap := h'.push { cls := .type "tuple", data := .seq acc }, toks := tk })
    (.of_wp fun prog w A R s h => ?_) ⟨hd, e, fun h' tk acc kp hi' => ?_⟩
  · obtain ⟨hp, g, d, tk, os⟩ := s
    obtain ⟨hd', ht, h⟩ := h
    have hsub := sub_tuple_self
    have hinit := init_tuple_lookup
    have hmh := madeHere_tuple
    have hT : Shared.TypeIs ⟨hp, g, d, tk, os⟩ (.ref p) "range" := ⟨_, ht, rfl⟩
    wp_walk using AutoSeq1.wpAny_loadPart' ht, wpAny_typeOf hT, collect_range_own (A := A.in1) (show A.in1.handled = none from hd') ht (small_one h1 h2 h3 h4) (rng_size lo hi) hl
    intro h' tk' acc kp hi'
    show wpAny _ _ (Builtin.Tuple.tupleExact acc.toList.toArray >>= fun v => ret v) _ _ _
    unfold Builtin.Tuple.tupleExact
    have hsz : acc.toList.toArray.size ≤ sizeLine := by
      have := (items_rng hi').length
      simp at this ⊢
      omega
    refine wpAny_bind (wpAny_newObj_type ?_ hsz)
    refine wpAny_pure ⟨_, rfl, ?_⟩
    have ea : acc.toList.toArray = acc := by simp
    rw [ea]
    exact h h' tk' acc kp hi'
  · have hv := items_rng hi'
    have I1 : Inv X pins σ H { s with heap := h', toks := tk } := I.kept kp
    have I2 : Inv X pins σ (upd H h'.objs.size (.tup (rngV lo hi))) { s with heap := h'.push { cls := .type "tuple", data := .seq acc }, toks := tk } :=
      I1.laid (fun b o e => Heap.get?_push_of_some _ e) (Nat.le_refl _) (show ObjOk X.prog X.w _ _ _ (.tup (rngV lo hi)) from ⟨hr, acc.toList, hv, by simpa using IsTup.new _ _⟩)
    exact ⟨⟨_, Heap.get?_push_size _ rfl, rfl⟩, ⟨.ref h'.objs.size, _, I2, rfl, q _ (I1.hok.fresh (Nat.le_refl _))⟩⟩
/-! ### insert -/
def rInsert : V → List V → Hp → VK → Prop := fun x vs H Q => ∃ l xs i y, x = .ref l ∧ vs = [.int i, y] ∧ H l = some (.lst xs) ∧ xs.length < sizeLine ∧ 0 ≤ i ∧ i < 2 ^ 62 ∧ Q .non (upd H l (.lst (xs.take i.toNat ++ y :: xs.drop i.toNat)))
theorem mt_insert : MtM X "list.insert" rInsert := by
  intro pins s σ H x vs v us Q I rx rv h
  obtain ⟨l, xs, i, y, rfl, rfl, hH, hz, h0, h1, q⟩ := h
  cases rx
  obtain ⟨u, u2, rfl, ⟨t, e1⟩, ru⟩ := rv.two
  subst e1
  obtain ⟨z, its, n, r, hl, e⟩ := I.lstM hH
  refine call_meets F.slot_list_insert ⟨_, e, rfl⟩ F.entry_list_insert (F.args_list_insert_3 _ _ _) (AutoSeq1.list_insert_list_int_val_1 l its.toArray n i t u2 (by rw [fitsIndex_both (by omega) (by omega)]; decide) (by rw [List.size_toArray]; omega)) ⟨e, ?_⟩
  refine ⟨.non, _, I.lset (its' := its.take i.toNat ++ u2 :: its.drop i.toNat) hH e ?_ ((r.take i.toNat).append (.cons ru (r.drop i.toNat))) ?_, rfl, q⟩
  · have hi : ¬ i < 0 := by omega
    simp only [if_neg hi, List.size_toArray]
    apply Array.ext'
    simp
    by_cases hc : i.toNat ≤ its.length
    · rw [Nat.min_eq_left hc, show (its.drop i.toNat).take (its.length - i.toNat) = its.drop i.toNat from List.take_of_length_le (by rw [List.length_drop]; exact Nat.le_refl _)]
    · rw [Nat.min_eq_right (by omega)]
      simp [List.take_of_length_le (show its.length ≤ i.toNat by omega), List.drop_of_length_le (show its.length ≤ i.toNat by omega)]
  · rw [List.length_append, List.length_take, List.length_cons, List.length_drop]
    omega
end

/-! ### short words -/
section
variable {X : Cx}
theorem pe_ty (T : String) {x : Str} {pos : Pos} (hg : Gl X x) (hm : X.mg x = none) (hv : bootBuiltins x = some (.type T)) (hn : x ≠ "__name__" := by decide) (hd : (x == ("__debug__" : Str)) = false := by decide) : PE X (.Name x pos) (tC (.ty T)) := pe_bltn hg hm hv rfl hn hd
/-- a statement, then what holds behind it, then the rest -/
def tCut (t u : TS) : TS := fun D σ H => ∃ M : St → Hp → Prop, t { D with nx := M } σ H ∧ ∀ σ' H', M σ' H' → u D σ' H'
theorem pss_cut {st : Stmt} {rest : List Stmt} {t u : TS} (h1 : PS X st t) (h2 : PSs X rest u) : PSs X (st :: rest) (tCut t u) := by
  intro pins s σ H D I h
  obtain ⟨M, q, k⟩ := h
  refine wpAny_execs_cons (thn (h1 pins s σ H { D with nx := M } I q) fun f s1 e => ?_)
  cases f with
  | next => obtain ⟨σ1, H1, I1, m1⟩ := e; exact h2 pins s1 σ1 H1 D I1 (k σ1 H1 m1)
  | brk => exact e
  | cont => exact e
  | ret u => exact e
theorem atI_ex {α : Type} {xs : List α} {i : Int} (h0 : 0 ≤ i) (h1 : i < xs.length) : ∃ v, atI xs i = some v ∧ xs[i.toNat]? = some v := by
  have hlt : i.toNat < xs.length := by omega
  refine ⟨xs[i.toNat], ?_, by simp [hlt]⟩
  unfold atI ixN
  rw [if_pos h0, if_pos h1]
  simp [hlt]
end

/-! ### argument lists, looked at quickly -/
def notStar : Expr → Bool
  | .Starred .. => false
  | _ => true
theorem starEach_ns {e : Expr} {es : List Expr} {env : Env} (h : notStar e = true) : starEach (e :: es) env = (false, eval e env) :: starEach es env := by
  cases e <;> first | rfl | cases h
theorem backTo_ns {pos : Pos} {env : Env} : ∀ {es : List Expr}, es.all notStar = true → (backTo pos (starEach es env)).any (·.1) = false
  | [], _ => rfl
  | e :: es, h => by
    rw [List.all_cons, Bool.and_eq_true] at h
    rw [starEach_ns h.1]
    show (backTo pos ((false, eval e env) :: starEach es env)).any (·.1) = false
    have ih := backTo_ns (pos := pos) (env := env) h.2
    show (false || (backTo pos (starEach es env)).any (·.1)) = false
    rw [ih]
    rfl
theorem backTo_all {pos : Pos} {env : Env} : ∀ {es : List Expr}, es.all notStar = true → (backTo pos (starEach es env)).all (fun x => !x.1) = true
  | [], _ => rfl
  | e :: es, h => by
    rw [List.all_cons, Bool.and_eq_true] at h
    rw [starEach_ns h.1]
    have ih := backTo_all (pos := pos) (env := env) h.2
    show (true && (backTo pos (starEach es env)).all (fun x => !x.1)) = true
    rw [ih]
    rfl
theorem ns_hd {e : Expr} {es : List Expr} (h : (e :: es).all notStar = true) : notStar e = true ∧ es.all notStar = true := by
  rw [List.all_cons, Bool.and_eq_true] at h
  exact h
end L2

set_option Elab.async false
set_option linter.all false
set_option maxRecDepth 100000
/-! The judgements as structures (so that no elaborator unfolds them), and the rules over them: q.. for p... -/
namespace L2
open PySem PySem.Spec PyProof.Rows
structure QE (X : Cx) (e : Expr) (t : TE) : Prop where run : PE X e t
structure QT (X : Cx) (e : Expr) (t : TT) : Prop where run : PT X e t
structure QW (X : Cx) (e : Expr) (t : TT) : Prop where run : PW X e t
structure QA (X : Cx) (es : List Expr) (t : TA) : Prop where
  run : PA X es t
  ns : es.all notStar = true
structure QS (X : Cx) (st : Stmt) (t : TS) : Prop where run : PS X st t
structure QSs (X : Cx) (st : List Stmt) (t : TS) : Prop where run : PSs X st t
structure QG (X : Cx) (e : Expr) (t : TG) : Prop where run : PG X e t
structure QGs (X : Cx) (es : List Expr) (t : TGs) : Prop where run : PGs X es t
structure QI (X : Cx) (tg iter : Expr) (t : TI) : Prop where run : PI X tg iter t
structure QO (X : Cx) (e : Option Expr) (t : TO) : Prop where run : PO X e t
structure QK (X : Cx) (ifs : List Expr) (t : TT) : Prop where run : PCk X ifs t
section
variable {X : Cx} {a b c e o i' tg iter elt : Expr} {es : List Expr} {ta tb tc te to ti : TE} {tA tB' : TT} {t : TA} {pos p apos cpos p2 : Pos} {k : Nat} {x name : Str} {ps : List Str} {sp : Sp} {id T : String} {rest : List Expr}
theorem qv (i : Nat) {x : Str} {pos : Pos} (hN : X.N[i]? = some x := by rfl) (hv : Vis X.env.scope x := by first | exact Or.inl rfl | exact Or.inr (Or.inl rfl) | exact Or.inr (Or.inr rfl)) (hd : (x == ("__debug__" : Str)) = false := by decide)
    (hcd : (x == ("__classdict__" : Str)) = false := by decide) : QE X (.Name x pos) (tVar i) := ⟨pe_var hN hv hd hcd⟩
theorem qe_int {i j pos} : QE X (.Constant (.int i) j pos) (tC (.int i)) := ⟨pe_int⟩
theorem qe_bl {b j pos} : QE X (.Constant (.bool b) j pos) (tC (.bl b)) := ⟨pe_bl⟩
theorem qe_non {j pos} : QE X (.Constant .none j pos) (tC .non) := ⟨pe_non⟩
theorem qe_str {x j pos} : QE X (.Constant (.str x) j pos) (tC (.str x)) := ⟨pe_str⟩
theorem qe_ty (T : String) {x : Str} {pos : Pos} (hg : Gl X x) (hm : X.mg x = none) (hv : bootBuiltins x = some (.type T)) (hn : x ≠ "__name__" := by decide) (hd : (x == ("__debug__" : Str)) = false := by decide) : QE X (.Name x pos) (tC (.ty T)) := ⟨pe_ty T hg hm hv hn hd⟩
theorem qe_glob {x : Str} {v : V} {u : Value} {pos : Pos} (hg : Gl X x) (hm : X.mg x = some u) (r : RelV v u) (hd : (x == ("__debug__" : Str)) = false := by decide) : QE X (.Name x pos) (tC v) := ⟨pe_glob hg hm r hd⟩
theorem qe_op {op : Operator} {r : R2} (ho : OpR X (binaryOp op) r) (ha : QE X a ta) (hb : QE X b tb) : QE X (.BinOp a op b pos) (tOp r ta tb) := ⟨pe_op ho ha.run hb.run⟩
theorem qe_un {op : UnaryOp} {r : V → Hp → VK → Prop} (ho : UnR X (unaryOp op) r) (ha : QE X a ta) : QE X (.UnaryOp op a pos) (tUn r ta) := ⟨pe_un ho ha.run⟩
theorem qe_cmpR {op : CmpOp} {r : R2} (ho : OpR X (compareOp op) r) (ha : QE X a ta) (hb : QE X b tb) (hm : behindInMarks op b = false) : QE X (.Compare a [op] [b] pos) (tOp r ta tb) := ⟨pe_cmpR ho ha.run hb.run hm⟩
theorem qt_cmpR {op : CmpOp} {r : R2} (ho : OpR X (compareOp op) r) (ha : QE X a ta) (hb : QE X b tb) (hm : behindInMarks op b = false) : QT X (.Compare a [op] [b] pos) (tTest (tOp r ta tb)) := ⟨pt_cmpR ho ha.run hb.run hm⟩
theorem qe_chain {op op' : CmpOp} {r r' : R2} (ho : OpR X (compareOp op) r) (ho' : OpR X (compareOp op') r') (ha : QE X a ta) (hb : QE X b tb) (hc : QE X c tc)
    (hm : lastMarks [op, op'] [b, c] = false := by with_unfolding_all rfl) : QE X (.Compare a [op, op'] [b, c] pos) (tChain r r' ta tb tc) := ⟨pe_chain ho ho' ha.run hb.run hc.run hm⟩
theorem qt_chain {op op' : CmpOp} {r r' : R2} (ho : OpR X (compareOp op) r) (ho' : OpR X (compareOp op') r') (ha : QE X a ta) (hb : QE X b tb) (hc : QE X c tc)
    (hm : lastMarks [op, op'] [b, c] = false := by with_unfolding_all rfl) : QT X (.Compare a [op, op'] [b, c] pos) (tTest (tChain r r' ta tb tc)) := ⟨pt_chain ho ho' ha.run hb.run hc.run hm⟩
theorem qt_val (h : QE X e te) (he : ∀ whole, isTrue e X.env whole = (do let v ← whole; standAt e.pos; holding [v] (truthy v)) := by intro _; rfl) : QT X e (tB te) := ⟨pt_val h.run he⟩
theorem qw_and1 (ha : QT X a tA) : QW X (.BoolOp .And [a] pos) tA := ⟨pw_and1 ha.run⟩
theorem qw_or1 (ha : QT X a tA) : QW X (.BoolOp .Or [a] pos) tA := ⟨pw_or1 ha.run⟩
theorem qw_and (ha : QT X a tA) (hb : QW X (.BoolOp .And (b :: rest) pos) tB') : QW X (.BoolOp .And (a :: b :: rest) pos) (tAnd tA tB') := ⟨pw_and ha.run hb.run⟩
theorem qw_or (ha : QT X a tA) (hb : QW X (.BoolOp .Or (b :: rest) pos) tB') : QW X (.BoolOp .Or (a :: b :: rest) pos) (tOr tA tB') := ⟨pw_or ha.run hb.run⟩
theorem QW.pt (h : QW X e tA) : QT X e tA := ⟨h.run.pt⟩
theorem qt_not (ha : QT X a tA) : QT X (.UnaryOp .Not a pos) (tNot tA) := ⟨pt_not ha.run⟩
theorem qe_one {op} (h : QE X a ta) : QE X (.BoolOp op [a] pos) ta := ⟨pe_one h.run⟩
theorem qe_and (ha : QE X a ta) (hb : QE X (.BoolOp .And (b :: rest) pos) tb) : QE X (.BoolOp .And (a :: b :: rest) pos) (tAndV ta tb) := ⟨pe_and ha.run hb.run⟩
theorem qe_or (ha : QE X a ta) (hb : QE X (.BoolOp .Or (b :: rest) pos) tb) : QE X (.BoolOp .Or (a :: b :: rest) pos) (tOrV ta tb) := ⟨pe_or ha.run hb.run⟩
theorem qe_not (ha : QE X a ta) : QE X (.UnaryOp .Not a pos) (tNotV ta) := ⟨pe_not ha.run⟩
theorem qe_ifExp (hc : QT X c tA) (ha : QE X a ta) (hb : QE X b tb) : QE X (.IfExp c a b pos) (tIf tA ta tb) := ⟨pe_ifExp hc.run ha.run hb.run⟩
theorem qa_nil : QA X [] tNil := ⟨pa_nil, rfl⟩
theorem qa_c (ha : QE X e te) (hr : QA X es t) (hs : notStar e = true := by rfl) : QA X (e :: es) (tCons te t) := ⟨pa_cons ha.run hr.run (starEach_ns hs), by rw [List.all_cons, hs, hr.ns]; rfl⟩
theorem qe_lst (h : QA X es t) : QE X (.List es pos) (tLst t) := ⟨pe_lst h.run⟩
theorem qe_tup {x1} (h : QA X es t) : QE X (.Tuple es x1 pos) (tTup t) := ⟨pe_tup h.run⟩
theorem qe_ix {r : R2} (hr : IxR X r) (ha : QE X a ta) (hb : QE X b tb) (hs : PlainIx b) : QE X (.Subscript a b pos) (tOp r ta tb) := ⟨pe_ix hr ha.run hb.run hs⟩
theorem qo_none : QO X none tNoPart := ⟨po_none⟩
theorem qo_some (h : QE X e te) : QO X (some e) (tPart te) := ⟨po_some h.run⟩
theorem qe_slice {r : V → Option Int → Option Int → Hp → VK → Prop} {lo hi : Option Expr} {tl th : TO} (hr : SlR X r) (he : QE X e te) (hl : QO X lo tl) (hu : QO X hi th) : QE X (.Subscript e (.Slice lo hi none p2) pos) (tSl r te tl th) := ⟨pe_slice hr he.run hl.run hu.run⟩
theorem qe_callD (D : DefOk X.prog X.w X.K X.mg X.base k x ps sp) (hr : Room k X.A) (ha : QA X (e :: es) t) (hg : Gl X x := by rfl) (hdb : (x == ("__debug__" : Str)) = false := by decide) :
    QE X (.Call (.Name x p) (e :: es) [] pos) (tCallD sp t) := ⟨pe_callD D hr ha.run hg hdb (starEach_ns (ns_hd ha.ns).1) (backTo_ns (ns_hd ha.ns).2)⟩
theorem qe_callD0 (D : DefOk X.prog X.w X.K X.mg X.base k x ps sp) (hr : Room k X.A) (hg : Gl X x := by rfl) (hdb : (x == ("__debug__" : Str)) = false := by decide) : QE X (.Call (.Name x p) [] [] pos) (tCallD sp tNil) := ⟨pe_callD0 D hr hg hdb⟩
theorem qe_callB {r : List V → Hp → VK → Prop} (hc : CallR X (.builtin id) r) (hg : Gl X x) (hm : X.mg x = none) (hv : bootBuiltins x = some (.builtin id)) (ha : QA X (e :: es) t) (hn : x ≠ "__name__" := by decide) (hdb : (x == ("__debug__" : Str)) = false := by decide) :
    QE X (.Call (.Name x p) (e :: es) [] pos) (tCB r t) := ⟨pe_callB hc hg hm hv ha.run hn hdb (starEach_ns (ns_hd ha.ns).1) (backTo_ns (ns_hd ha.ns).2)⟩
theorem qe_callTy {r : List V → Hp → VK → Prop} (hc : CallR X (.type T) r) (hg : Gl X x) (hm : X.mg x = none) (hv : bootBuiltins x = some (.type T)) (ha : QA X (e :: es) t) (hn : x ≠ "__name__" := by decide) (hdb : (x == ("__debug__" : Str)) = false := by decide) :
    QE X (.Call (.Name x p) (e :: es) [] pos) (tCB r t) := ⟨pe_callTy hc hg hm hv ha.run hn hdb (starEach_ns (ns_hd ha.ns).1) (backTo_ns (ns_hd ha.ns).2)⟩
theorem qe_bm {r : V → List V → Hp → VK → Prop} (pa : PlainAttrs T) (slot : Slot T name id) (hty : typeOf (.builtin id) = pure (.type "method_descriptor")) (hm : MtR X id r) (ho : QE X o to) (ha : QA X (e :: es) t)
    (hbase : attributeBase o name X.env (eval o X.env) = eval o X.env := by rfl) (hl : decide ((e :: es).length + 0 + 0 < 30) = true := by rfl)
    (hline : (apos.endLine == cpos.line) = true := by rfl) : QE X (.Call (.Attribute o name apos) (e :: es) [] cpos) (tBM X.K T r to t) := by
  refine ⟨pe_bm pa slot hty hm ho.run ha.run hbase ?_ hline (starEach_ns (ns_hd ha.ns).1) (backTo_ns (ns_hd ha.ns).2)⟩
  rw [backTo_all ha.ns]
  exact hl
/-! targets, iterators -/
theorem qg_name {i : Nat} {x : Str} (hN : X.N.Nodup) (hi : X.N[i]? = some x) (hx : Loc X.env.scope x) (hf : X.fn x = true ∨ X.env.scope.names.lookup x = some .local := by first | exact .inl rfl | exact .inr rfl | assumption) : QG X (.Name x pos) (gName i) := ⟨pg_name hN hi hx hf⟩
theorem qgs_nil : QGs X [] gNil := ⟨pgs_nil⟩
theorem qgs_cons {tt : TG} {u : TGs} (h1 : QG X e tt) (h2 : QGs X es u) (hs : (assignEach (e :: es) X.env).map (·.2) = assign e X.env :: (assignEach es X.env).map (·.2) := by rfl) : QGs X (e :: es) (gCons tt u) := ⟨pgs_cons h1.run h2.run hs⟩
theorem qg_tup {k n : Nat} {tt : TGs} (hc : X.calm = true) (h : QGs X es tt) (hn : (assignEach es X.env).length = n := by rfl) (hst : (assignEach es X.env).findIdx? (·.1) = none := by rfl) : QG X (.Tuple es k pos) (gTup X.K n tt) := ⟨pg_tup hc h.run hn hst⟩
theorem qg_sub {tt : TSet} (ho : QE X o to) (hi : QE X i' ti) (hs : PSet X tt)
    (ha : ∀ v, assign (.Subscript o i' pos) X.env v = (do
      let ov ← holding [v] (eval o X.env)
      let iv ← holding [v, ov] (eval i' X.env)
      standAt pos
      holding [v, ov, iv] (setItem ov iv v)
      release [v, ov, iv] []) := by intro _; rfl) : QG X (.Subscript o i' pos) (gSub to ti tt) := ⟨pg_sub ho.run hi.run hs ha⟩
theorem qi_list (hl : QE X a ta) : QI X tg a (iList X.K ta) := ⟨pi_list hl.run⟩
theorem qi_tup (hl : QE X a ta) : QI X tg a (iTup X.K ta) := ⟨pi_tup hl.run⟩
theorem qi_range1 (hg : Gl X "range") (hm : X.mg "range" = none) (ha : QA X [a] t) : QI X tg (.Call (.Name "range" p) [a] [] pos) (iRng1 t) := ⟨pi_range1 hg hm ha.run (starEach_ns (ns_hd ha.ns).1)⟩
theorem qi_range2 (hg : Gl X "range") (hm : X.mg "range" = none) (ha : QA X [a, b] t) : QI X tg (.Call (.Name "range" p) [a, b] [] pos) (iRng2 t) :=
  ⟨pi_range2 hg hm ha.run ((starEach_ns (ns_hd ha.ns).1).trans (by rw [starEach_ns (ns_hd (ns_hd ha.ns).2).1]; rfl)) (starEach_ns (ns_hd (ns_hd ha.ns).2).1)⟩
theorem qk_nil : QK X [] tTrue := ⟨pk_nil1⟩
theorem qk_one (h : QT X c tA) : QK X [c] tA := ⟨pk_one1 h.run⟩
/-! statements -/
variable {st : Stmt} {sts body els : List Stmt} {ts us : TS} {ifs : List Expr} {sc : Scope} {N : List Str} {mp : List (Option Nat)} {wi : TI} {g : TG}
theorem qss_nil : QSs X [] tNext := ⟨pss_nil⟩
theorem qss_cons (h1 : QS X st ts) (h2 : QSs X sts us) : QSs X (st :: sts) (tSeq ts us) := ⟨pss_cons h1.run h2.run⟩
theorem qss_cut (h1 : QS X st ts) (h2 : QSs X sts us) : QSs X (st :: sts) (tCut ts us) := ⟨pss_cut h1.run h2.run⟩
theorem qss_one (h1 : QS X st ts) : QSs X [st] ts := ⟨pss_one h1.run⟩
theorem qs_pass : QS X (.Pass pos) tNext := ⟨ps_pass⟩
theorem qs_expr (he : QE X e te) (hs : swapsWith e none pos.line X.env = pure false := by rfl) : QS X (.Expr e pos) (tDrop te) := ⟨ps_expr he.run hs⟩
theorem qs_ret (he : QE X e te) : QS X (.Return (some e) pos) (tRet te) := ⟨ps_ret he.run⟩
theorem qs_retN : QS X (.Return none pos) tRetN := ⟨ps_retN⟩
theorem qs_if (hc : QT X c tA) (ha : QSs X body ts) (hb : QSs X els us) : QS X (.If c body els pos) (tIfS tA ts us) := ⟨ps_if hc.run ha.run hb.run⟩
theorem qs_set {i : Nat} {x : Str} {pos' : Pos} (hN : X.N.Nodup) (hi : X.N[i]? = some x) (hx : Loc X.env.scope x) (he : QE X e te) (hs : swapsWith e (some (.Name x pos')) pos.line X.env = pure false := by rfl)
    (hf : X.fn x = true ∨ X.env.scope.names.lookup x = some .local := by first | exact .inl rfl | exact .inr rfl | assumption) : QS X (.Assign [.Name x pos'] e pos) (tAsg te (gName i)) := ⟨ps_set hN hi hx he.run hs hf⟩
theorem qs_asg (he : QE X e te) (hg : QG X tg g) (hs : swapsWithSole [tg] e pos.line X.env = pure false := by rfl) (hw : swappedStores [tg] e X.env = pure none := by rfl)
    (h1 : (assignEach [tg] X.env).map (·.2) = [assign tg X.env] := by rfl) : QS X (.Assign [tg] e pos) (tAsg te g) := ⟨ps_asg he.run hg.run hs hw h1⟩
theorem qs_par {i j : Nat} {x y : Str} {px py pt : Pos} {kt k2 pt2} (hc : X.calm = true) (hN : X.N.Nodup) (hi : X.N[i]? = some x) (hj : X.N[j]? = some y) (hij : i ≠ j)
    (hx : X.env.scope.names.lookup x = some .local) (hy : X.env.scope.names.lookup y = some .local) (ha : QA X [a, b] t)
    (hw : swappedStores [.Tuple [.Name x px, .Name y py] kt pt] (.Tuple [a, b] k2 pt2) X.env = pure (some [x, y]))
    (hs : swapsWithSole [.Tuple [.Name x px, .Name y py] kt pt] (.Tuple [a, b] k2 pt2) pos.line X.env = pure false := by rfl) :
    QS X (.Assign [.Tuple [.Name x px, .Name y py] kt pt] (.Tuple [a, b] k2 pt2) pos) (tPar i j t) := ⟨ps_par hc hN hi hj hij hx hy ha.run hw hs⟩
theorem qs_for (hp : PassesOwn (model X.prog X.w) X.A X.env X.xe) (hc : X.calm = true) (hi : QI X tg iter wi) (hg : QG X tg g) (hb : QSs X body ts) (hs : ∀ x, foldedSetIterable iter X.env x = pure x := by intro _; rfl) :
    QS X (.For tg iter body [] pos) (tFor wi g ts) := ⟨ps_for hp hc hi.run hg.run hb.run hs⟩
theorem qs_while (hp : PassesOwn (model X.prog X.w) X.A X.env X.xe) (hc : QT X c tA) (hb : QSs X body ts) : QS X (.While c body [] pos) (tWhile tA ts) := ⟨ps_while hp hc.run hb.run⟩
theorem qe_comp (hc : X.calm = true) (hi : QI X tg iter wi) (hk : sc.kind = .function) (hm : compOk X.N X.env.scope sc N mp = true)
    (hb : ∀ (cl : List (Str × Addr)) (C : Addr) (s₂ : Shared) (H₂ : Hp) (fp : List Addr), QG (cxComp X sc N cl C s₂ H₂ fp) tg g ∧ QK (cxComp X sc N cl C s₂ H₂ fp) ifs tA ∧ QE (cxComp X sc N cl C s₂ H₂ fp) elt te)
    (hs : ∀ x, foldedSetIterable iter X.env x = pure x := by intro _; rfl) : QE X (.ListComp elt [⟨tg, iter, ifs, 0⟩] sc pos) (tCompE (tComp wi mp g tA te)) :=
  ⟨pe_comp hc hi.run hk hm (fun cl C s₂ H₂ fp => ⟨(hb cl C s₂ H₂ fp).1.run, (hb cl C s₂ H₂ fp).2.1.run, (hb cl C s₂ H₂ fp).2.2.run⟩) hs⟩
theorem qs_comp {i : Nat} {x : Str} {py spos : Pos} (hN : X.N.Nodup) (hix : X.N[i]? = some x) (hx : X.env.scope.names.lookup x = some .local) (hc : X.calm = true) (hi : QI X tg iter wi) (hk : sc.kind = .function) (hm : compOk X.N X.env.scope sc N mp = true)
    (hb : ∀ (cl : List (Str × Addr)) (C : Addr) (s₂ : Shared) (H₂ : Hp) (fp : List Addr), QG (cxComp X sc N cl C s₂ H₂ fp) tg g ∧ QK (cxComp X sc N cl C s₂ H₂ fp) ifs tA ∧ QE (cxComp X sc N cl C s₂ H₂ fp) elt te)
    (hsw : swapsWith (.ListComp elt [⟨tg, iter, ifs, 0⟩] sc pos) (some (.Name x py)) spos.line X.env = pure true := by rfl)
    (hs : ∀ x, foldedSetIterable iter X.env x = pure x := by intro _; rfl) : QS X (.Assign [.Name x py] (.ListComp elt [⟨tg, iter, ifs, 0⟩] sc pos) spos) (tCompS i (tComp wi mp g tA te)) :=
  ⟨ps_comp hN hix hx hc hi.run hk hm (fun cl C s₂ H₂ fp => ⟨(hb cl C s₂ H₂ fp).1.run, (hb cl C s₂ H₂ fp).2.1.run, (hb cl C s₂ H₂ fp).2.2.run⟩) hsw hs⟩
end
theorem Fun.okQ {P : Program} {w : World} {K : PySem.W.Frag} {mg : Str → Option Value} {base : Heap} {x qual : Str} {st : Stmt} {f : Addr} {fd : FuncData} {N ps : List Str} {k : Nat} {sp : Sp} (F : Fun K x qual st f fd) (S : FnScope N ps (defScope st)) (len : ∀ vs H Q E, sp vs H Q E → vs.length = ps.length)
    (hbody : ∀ (cdv : Value) (A : Around) (outer : List Env) (s : Shared) (H : Hp) (vs : List V) (Q : VK) (E : XK), Room k (A.deeper (envOfC qual (defScope st) s.heap.objs.size f cdv)) → sp vs H Q E →
      ∃ t, QSs (cxOf CX0 P w K mg base N qual (defScope st) f cdv A outer s H E).nox (defBody st) t ∧ t { nx := fun _ H' => Q .non H', rt := Q } (start N vs) H) : FnOk P w K mg base CX0 (k + 1) f fd ps sp :=
  F.ok S len fun cdv A outer s H vs Q E hr h => let ⟨t, q, r⟩ := hbody cdv A outer s H vs Q E hr h; ⟨t, q.run, r⟩
/-! ### the rules that name the written part: K said outright (a block's own context must not stand in a reading) -/
section
variable {X : Cx} (K : PySem.W.Frag)
theorem ixT (h : X.K = K := by rfl) : IxR X (rIxT K) := by subst h; exact ix_tup
theorem ixL (h : X.K = K := by rfl) : IxR X (rIxL K) := by subst h; exact ix_list
theorem slL (h : X.K = K := by rfl) : SlR X (rSlL K) := by subst h; exact sl_list
theorem lenK (h : X.K = K := by rfl) : CallR X (.builtin "len") (fun xs H Q => ∃ p ys, xs = [.ref p] ∧ (SqL K H p ys ∨ SqT K H p ys) ∧ Q (.int ys.length) H) := by subst h; exact call_len_seq
theorem isiK (h : X.K = K := by rfl) : CallR X (.builtin "isinstance") (fun xs H Q => ∃ x t c b, xs = [x, .ty c] ∧ TyOf K H x (.type t) ∧ PySem.W.kitOne K (.type t) (.type c) = some b ∧ Q (.bl b) H) := by subst h; exact call_isi
theorem inK (h : X.K = K := by rfl) : OpR X (compareOp .In) (rIn K false) := by subst h; exact op_in_seq
theorem ninK (h : X.K = K := by rfl) : OpR X (compareOp .NotIn) (rIn K true) := by subst h; exact op_notIn_seq
theorem listK (h : X.K = K := by rfl) : CallR X (.type "list") (fun xs H Q => ∃ p ys, xs = [.ref p] ∧ (SqL K H p ys ∨ SqT K H p ys) ∧ ∀ l, H l = none → Q (.ref l) (upd H l (.lst ys))) := by subst h; exact call_list_of
theorem tupleK (h : X.K = K := by rfl) : CallR X (.type "tuple") (fun xs H Q => ∃ p ys, xs = [.ref p] ∧ ((SqL K H p ys ∧ ∀ l, H l = none → Q (.ref l) (upd H l (.tup ys))) ∨ (SqT K H p ys ∧ Q (.ref p) H))) := by subst h; exact call_tuple_of
variable {a o e tg : Expr} {es : List Expr} {ta to : TE} {t : TA} {apos cpos : Pos} {name : Str} {id T : String}
theorem qi_listK (hl : QE X a ta) (h : X.K = K := by rfl) : QI X tg a (iList K ta) := by subst h; exact qi_list hl
theorem qi_tupK (hl : QE X a ta) (h : X.K = K := by rfl) : QI X tg a (iTup K ta) := by subst h; exact qi_tup hl
theorem qe_bmK {r : V → List V → Hp → VK → Prop} (pa : PlainAttrs T) (slot : Slot T name id) (hty : typeOf (.builtin id) = pure (.type "method_descriptor")) (hm : MtR X id r) (ho : QE X o to) (ha : QA X (e :: es) t) (h : X.K = K := by rfl)
    (hbase : attributeBase o name X.env (eval o X.env) = eval o X.env := by rfl) (hl : decide ((e :: es).length + 0 + 0 < 30) = true := by rfl)
    (hline : (apos.endLine == cpos.line) = true := by rfl) : QE X (.Call (.Attribute o name apos) (e :: es) [] cpos) (tBM K T r to t) := by subst h; exact qe_bm pa slot hty hm ho ha hbase hl hline
theorem qg_tupK {k n : Nat} {pos : Pos} {tt : TGs} (hc : X.calm = true) (hh : QGs X es tt) (h : X.K = K := by rfl) (hn : (assignEach es X.env).length = n := by rfl) (hst : (assignEach es X.env).findIdx? (·.1) = none := by rfl) : QG X (.Tuple es k pos) (gTup K n tt) := by subst h; exact qg_tup hc hh hn hst
end
end L2

set_option Elab.async false
set_option linter.all false
set_option maxRecDepth 100000
/-! Slices of tuples: the whole, turned about; sums with an empty tuple. -/
namespace HT
open PySem PyProof.Rows
section
variable {prog : Program} {w : World} {A : Around} {E : Value → Shared → Prop} {s : Shared}
theorem getItem_tuple_whole {t sl : Addr} {items : Array Value} {vl vu : Value} {lo hi : Option Int} {Q : Value → Shared → Prop} (ht : IsTup s.heap t items) (hs : s.heap.IsSliceOf sl vl vu .none) (pl : IsPart vl lo) (pu : IsPart vu hi)
    (hw : sIx items.size 0 lo = 0 ∧ sIx items.size items.size hi = items.size) (h : Q (.ref t) s) : wpAny (model prog w) A (getItem (.ref t) (.ref sl)) Q E s := by
  obtain ⟨os, hos, hcs, hds⟩ := id hs
  have hTs : s.TypeIs (.ref sl) "slice" := ⟨os, hos, hcs⟩
  unfold getItem
  try with_reducible refine wpAny_holding ?_
  first | refine wpAny_bind (wpAny_pure ?_) | skip
  refine wpAny_bind (wpAny_sequenceKey ht.typeIs (by decide) ?_)
  refine wpAny_bind (wpAny_callSpecial?_slot (name := Str.ofString "__getitem__") ht.typeIs PyProof.Rows.slot_tuple_getitem
    (wpAny_call_entry PyProof.Rows.slot_tuple_getitem ht.typeIs entry_tuple_getitem ?_ (args_tuple_getitem _ _)))
  show wpAny _ _ (Builtin.Tuple.tupleItemsOf (.ref t) >>= _) _ _ s
  refine wpAny_bind (tupleItemsOf_ ht ?_)
  refine wpAny_bind (wpAny_typeOf hTs ?_)
  rw [if_pos (by decide)]
  refine wpAny_bind (sliceApplied_gen hs pl pu ?_)
  have hyes : ((((sIx items.size 0 lo : Nat) : Int) == 0 && (1 : Int) == 1 && (sIx items.size items.size hi - sIx items.size 0 lo) == items.size) = true) := by
    rw [hw.1, hw.2]; simp
  show wpAny _ _ (if (((sIx items.size 0 lo : Nat) : Int) == 0 && (1 : Int) == 1 && (sIx items.size items.size hi - sIx items.size 0 lo) == items.size) = true then _ else _) _ _ s
  rw [if_pos hyes]
  refine wpAny_bind ?_
  unfold Builtin.Tuple.tupleIsExact
  refine wpAny_bind (wpAny_typeOf ht.typeIs (wpAny_pure ?_))
  show wpAny _ _ (if (Value.type "tuple" == Value.type "tuple") = true then _ else _) _ _ s
  rw [if_pos (by decide)]
  exact wpAny_bind (wpAny_rule (wpAny_pure ⟨_, rfl, wpAny_pure h⟩))
theorem sliceApplied_rev {sl : Addr} {tk : Tok} {n : Nat} {Q : Int × Int × Nat → Shared → Prop} (hs : s.heap.IsSliceOf sl .none .none (.int (-1) tk))
    (h : Q ((n : Int) - 1, -1, n) s) : wpAny (model prog w) A (Builtin.Slice.sliceApplied (.ref sl) (pure (n : Int))) Q E s := by
  obtain ⟨os, hos, hcs, hds⟩ := id hs
  unfold Builtin.Slice.sliceApplied Builtin.Slice.sliceFields
  refine wpAny_bind (wpAny_bind (wpAny_field hos hds (x := .none) rfl (wpAny_bind (wpAny_field hos hds (x := .none) rfl (wpAny_bind (wpAny_field hos hds (x := .int (-1) tk) rfl (wpAny_pure ?_)))))))
  refine wpAny_bind (slicePart_int ?_)
  show wpAny _ _ (if ((-1 : Int) == 0) = true then _ else _) _ _ s
  rw [if_neg (by decide)]
  refine wpAny_bind (slicePart_none (wpAny_bind (slicePart_none (wpAny_bind (wpAny_pure ?_)))))
  have e1 : Builtin.Slice.sliceAdjust none none (-1) (n : Int) = ((n : Int) - 1, -1) := rfl
  have e2 : Builtin.Slice.slicePlaces ((n : Int) - 1) (-1) (-1) = n := by
    unfold Builtin.Slice.slicePlaces
    rw [if_neg (by decide)]
    by_cases hn : (n : Int) - 1 > -1
    · rw [if_pos hn]
      have : ((n : Int) - 1 - -1 - 1) / (- -1) + 1 = n := by
        rw [show (- -1 : Int) = 1 from rfl, Int.ediv_one]
        omega
      rw [this]
      simp
    · rw [if_neg hn]
      omega
  show wpAny _ _ (match Builtin.Slice.sliceAdjust none none (-1) (n : Int) with | (lo, hi) => pure (lo, (-1 : Int), Builtin.Slice.slicePlaces lo hi (-1))) _ _ s
  rw [e1]
  show wpAny _ _ (pure ((n : Int) - 1, (-1 : Int), Builtin.Slice.slicePlaces ((n : Int) - 1) (-1) (-1))) _ _ s
  rw [e2]
  exact wpAny_pure h
theorem fm_map {α β : Type} {f : α → Option β} {g : α → β} : ∀ {l : List α}, (∀ m ∈ l, f m = some (g m)) → l.filterMap f = l.map g
  | [], _ => rfl
  | a :: l, h => by
    rw [List.filterMap_cons, h a List.mem_cons_self, List.map_cons, fm_map fun m hm => h m (List.mem_cons_of_mem _ hm)]
theorem pick_rev (xs : Array Value) : ((List.range xs.size).filterMap fun (m : Nat) => xs[(((xs.size : Nat) : Int) - 1 + (m : Int) * -1).toNat]?).toArray = xs.toList.reverse.toArray := by
  congr 1
  apply List.ext_getElem?
  intro i
  have key : ∀ m ∈ List.range xs.size, (fun (m : Nat) => xs[(((xs.size : Nat) : Int) - 1 + (m : Int) * -1).toNat]?) m = some (xs.getD (xs.size - 1 - m) .none) := by
    intro m hm
    have hm' := List.mem_range.mp hm
    have e : (((xs.size : Nat) : Int) - 1 + (m : Int) * -1).toNat = xs.size - 1 - m := by omega
    show xs[_]? = _
    rw [e]
    simp [Array.getD, show xs.size - 1 - m < xs.size by omega]
  have e3 : (List.range xs.size).filterMap (fun (m : Nat) => xs[(((xs.size : Nat) : Int) - 1 + (m : Int) * -1).toNat]?) = (List.range xs.size).map fun m => xs.getD (xs.size - 1 - m) .none := by
    exact fm_map key
  rw [e3, List.getElem?_map]
  by_cases hi : i < xs.size
  · rw [List.getElem?_range hi, List.getElem?_reverse (by simpa using hi)]
    simp [Array.getD, show xs.size - 1 - i < xs.size by omega]
  · rw [List.getElem?_eq_none (by simp; omega), List.getElem?_eq_none (by simp; omega)]
    rfl
theorem getItem_tuple_rev {t sl : Addr} {items : Array Value} {tk : Tok} {Q : Value → Shared → Prop} (ht : IsTup s.heap t items) (hs : s.heap.IsSliceOf sl .none .none (.int (-1) tk))
    (h : Q (.ref s.heap.objs.size) { s with heap := s.heap.push { cls := .type "tuple", data := .seq items.toList.reverse.toArray } }) (hsz : items.size ≤ sizeLine) : wpAny (model prog w) A (getItem (.ref t) (.ref sl)) Q E s := by
  obtain ⟨os, hos, hcs, hds⟩ := id hs
  have hTs : s.TypeIs (.ref sl) "slice" := ⟨os, hos, hcs⟩
  have hz : sizeOk (.seq items.toList.reverse.toArray) := by
    show items.toList.reverse.toArray.size ≤ sizeLine
    simpa using hsz
  unfold getItem
  try with_reducible refine wpAny_holding ?_
  first | refine wpAny_bind (wpAny_pure ?_) | skip
  refine wpAny_bind (wpAny_sequenceKey ht.typeIs (by decide) ?_)
  refine wpAny_bind (wpAny_callSpecial?_slot (name := Str.ofString "__getitem__") ht.typeIs PyProof.Rows.slot_tuple_getitem
    (wpAny_call_entry PyProof.Rows.slot_tuple_getitem ht.typeIs entry_tuple_getitem ?_ (args_tuple_getitem _ _)))
  show wpAny _ _ (Builtin.Tuple.tupleItemsOf (.ref t) >>= _) _ _ s
  refine wpAny_bind (tupleItemsOf_ ht ?_)
  refine wpAny_bind (wpAny_typeOf hTs ?_)
  rw [if_pos (by decide)]
  refine wpAny_bind (sliceApplied_rev (n := items.size) hs ?_)
  have hno : ¬ ((((items.size : Nat) : Int) - 1 == 0 && (-1 : Int) == 1 && items.size == items.size) = true) := by
    intro q
    rw [Bool.and_eq_true, Bool.and_eq_true] at q
    exact absurd q.1.2 (by decide)
  show wpAny _ _ (if (((items.size : Nat) : Int) - 1 == 0 && (-1 : Int) == 1 && items.size == items.size) = true then _ else _) _ _ s
  rw [if_neg hno, pick_rev]
  first
    | exact wpAny_bind (m := Builtin.Tuple.tupleExact _) (wpAny_newObj_type (wpAny_pure ⟨_, rfl, wpAny_pure h⟩) hz)
    | exact wpAny_bind (m := Builtin.Tuple.tupleExact _) (wpAny_newObj_type (wpAny_bind (wpAny_pure (wpAny_pure ⟨_, rfl, wpAny_pure h⟩))) hz)
    | exact wpAny_bind (wpAny_bind (m := Builtin.Tuple.tupleExact _) (wpAny_newObj_type (wpAny_pure (wpAny_pure ⟨_, rfl, wpAny_pure h⟩)) hz))
    | exact wpAny_bind (wpAny_bind (m := Builtin.Tuple.tupleExact _) (wpAny_newObj_type (wpAny_pure ⟨_, rfl, wpAny_pure h⟩) hz))
end
end HT
namespace L2
open PySem PySem.Spec PyProof.Rows
/-- t[lo:hi], also the whole (t itself) -/
def rSlTA (K : PySem.W.Frag) : V → Option Int → Option Int → Hp → VK → Prop := fun x lo hi H Q => ∃ a xs, x = .ref a ∧ SqT K H a xs ∧ (cutV xs lo hi = xs → Q (.ref a) H) ∧ ∀ p, H p = none → Q (.ref p) (upd H p (.tup (cutV xs lo hi)))
section
variable {X : Cx} (K : PySem.W.Frag)
theorem slT (h : X.K = K := by rfl) : SlR X (rSlTA K) := by
  subst h
  intro pins s σ H x v vl vu lo hi sl Q I rx hs pl pu h
  obtain ⟨a, xs, rfl, hx, hw, q⟩ := h
  by_cases hc : HT.sIx xs.length 0 lo = 0 ∧ HT.sIx xs.length xs.length hi = xs.length
  · cases rx
    obtain ⟨its, r, ht, hz⟩ := I.tuple hx
    have hlen : its.toArray.size = xs.length := by rw [List.size_toArray]; exact r.length.symm
    refine ⟨"tuple", _, PyProof.Rows.slot_tuple_getitem.lookup, ht.typeIs, ?_⟩
    refine HT.getItem_tuple_whole ht hs pl pu (by rw [hlen]; exact hc) ⟨.ref a, H, I, rfl, hw ?_⟩
    unfold cutV
    rw [hc.1, hc.2]
    simp
  · exact sl_tup pins s σ H (.ref a) v vl vu lo hi sl Q I rx hs pl pu ⟨a, xs, rfl, hx, hc, q⟩
/-- t[::-1] -/
def tRev (K : PySem.W.Frag) (te : TE) : TE := fun σ H Q => te σ H fun x H1 => ∃ a xs, x = .ref a ∧ SqT K H1 a xs ∧ ∀ p, H1 p = none → Q (.ref p) (upd H1 p (.tup xs.reverse))
theorem qe_rev {e : Expr} {te : TE} {pos p2 p3 p4 : Pos} {k : Nat} (he : QE X e te) (h : X.K = K := by rfl) : QE X (.Subscript e (.Slice none none (some (.UnaryOp .USub (.Constant (.int 1) k p4) p3)) p2) pos) (tRev K te) := by
  subst h
  refine ⟨fun pins s σ H Q I h => ?_⟩
  have hst : PE X (.UnaryOp .USub (.Constant (.int 1) k p4) p3) (tUn (rU fun i => .int (-i)) (tC (.int 1))) := pe_un un_neg pe_int
  refine Subscript_ (thn (he.run pins s σ H _ I h) fun v s1 ⟨x, H1, I1, r1, a, xs, ex, hx, q⟩ => ?_)
  subst ex
  cases r1
  refine wpAny_Slice ?_
  rw [evalPart_none]
  refine wpAny_pure (wpAny_pure ?_)
  rw [evalPart_some]
  refine thn (hst pins s1 σ H1 (fun z H2 => z = .int (-1) ∧ H2 = H1) I1 ⟨1, rfl, rfl, rfl⟩) fun u s3 ⟨z, H3, I3, r3, ez, eH⟩ => ?_
  subst ez eH
  obtain ⟨tk, rfl⟩ := r3
  have I4 : Inv X pins σ H3 { s3 with heap := s3.heap.push { cls := .type "slice", data := .fields #[.none, .none, .int (-1) tk] } } := I3.kept (t' := s3.toks) fun b ob q => Heap.get?_push_of_some _ q
  obtain ⟨its, r, ht, hz⟩ := I4.tuple hx
  show wpAny (model X.prog X.w) X.A (subscriptTail e (.Slice none none (some (.UnaryOp .USub (.Constant (.int 1) k p4) p3)) p2) (.ref a) (.ref s3.heap.objs.size)) (EP X pins σ Q) X.xe { s3 with heap := s3.heap.push { cls := .type "slice", data := .fields #[.none, .none, .int (-1) tk] } }
  refine tail_any (ops := [.ref a, .ref s3.heap.objs.size]) ht.typeIs PyProof.Rows.slot_tuple_getitem.lookup (HT.getItem_tuple_rev ht (Heap.IsSliceOf.new ..) ?_ (by rw [List.size_toArray, ← r.length]; exact hz)) (by with_unfolding_all rfl)
  refine ⟨.ref _, _, I4.laid (t' := s3.toks) (o := .tup xs.reverse) (fun b ob q => Heap.get?_push_of_some _ q) (Nat.le_refl _) ?_, rfl, q _ (I4.hok.fresh (Nat.le_refl _))⟩
  exact ⟨by rw [List.length_reverse]; exact hz, _, by simpa using r.reverse, IsTup.new _ _⟩
end
/-- t + u, any -/
def rCatA (K : PySem.W.Frag) : R2 := fun x y H Q => ∃ a b xs ys, x = .ref a ∧ y = .ref b ∧ SqT K H a xs ∧ SqT K H b ys ∧ xs.length + ys.length ≤ sizeLine ∧ (xs = [] → Q (.ref b) H) ∧ (ys = [] → Q (.ref a) H) ∧ ∀ p, H p = none → Q (.ref p) (upd H p (.tup (xs ++ ys)))
theorem catT {X : Cx} (K : PySem.W.Frag) (h : X.K = K := by rfl) : OpR X (binaryOp .Add) (rCatA K) := by
  subst h
  intro pins s σ H x y v u Q I rx ry h
  obtain ⟨a, b, xs, ys, rfl, rfl, ha, hb, hz, q0, q1, q2⟩ := h
  by_cases hx : xs = []
  · cases rx
    cases ry
    obtain ⟨its, r1, p1, _⟩ := I.tuple ha
    obtain ⟨its2, r2, p2, _⟩ := I.tuple hb
    have hi : its = [] := r1.nil_iff.mpr hx
    obtain ⟨⟨cls, dd, data, sl⟩, ho, hc, n, hd⟩ := id p1
    obtain ⟨⟨cls2, dd2, data2, sl2⟩, ho2, hc2, n2, hd2⟩ := id p2
    simp only at hc hd hc2 hd2
    subst hc hd hc2 hd2
    exact concat_meets ⟨_, ho, rfl⟩ ⟨_, ho2, rfl⟩ noFill_tuple_add seq_tuple_add PySem.F.slot_tuple_add PySem.F.entry_tuple_add (PySem.F.args_tuple_add_2 _ _)
      (tuple_addW0 a b its.toArray its2.toArray n n2 dd dd2 sl sl2 (by simp [hi])) ⟨ho, ho2, ⟨.ref b, H, I, rfl, q0 hx⟩⟩
  · exact op_catT pins s σ H _ _ v u Q I rx ry ⟨a, b, xs, ys, rfl, rfl, ha, hb, hx, hz, q1, fun _ => q2⟩
end L2

set_option Elab.async false
set_option linter.all false
set_option maxRecDepth 100000
/-! min and max of a tuple of two ints. -/
namespace L2
open PySem PySem.Spec PyProof.Rows
section
variable {X : Cx}
theorem call_minT (K : PySem.W.Frag) (hc : X.calm = true) (hk : X.K = K := by rfl) : CallR X (.builtin "min") (fun xs H Q => ∃ p i j, xs = [.ref p] ∧ SqT K H p [.int i, .int j] ∧ Q (.int (if j < i then j else i)) H) := by
  subst hk
  intro pins s σ H xs us Q I r h
  obtain ⟨p, i, j, rfl, hp, q⟩ := h
  obtain ⟨u, rfl, ru⟩ := vals1 r
  cases ru
  obtain ⟨its, rv, ht, hz⟩ := I.tuple hp
  obtain ⟨u1, u2, rfl, ⟨t1, rfl⟩, ⟨t2, rfl⟩⟩ := vals2 rv
  have hh := I.ok.hd hc
  have hpl : p < s.heap.objs.size := ht.lt
  refine call_min_walk (wpAny_pyIter_tuple (show s.heap.IsTuple p _ from ht) ⟨s.heap.objs.size, _, _, 2, _, _, fun a b => decide ((if a = 0 then i else j) < (if b = 0 then i else j)), rfl, Walks.tuple (A := X.A.in1) hh _ p (Nat.ne_of_lt hpl) #[.int i t1, .int j t2], ⟨⟨_, Heap.get?_push_size _ rfl, rfl, rfl⟩, (show s.heap.IsTuple p _ from ht).at fun o e => Heap.get?_push_of_some _ e⟩, ?_, by decide, ?_, ?_⟩)
  · intro b hb
    rw [Heap.size_push]
    rcases List.mem_cons.mp hb with e | hb
    · rw [e]; exact Nat.lt_succ_self _
    · have e : b = p := by simpa using hb
      rw [e]; exact Nat.lt_succ_of_lt hpl
  · have key : ∀ (a : Nat) (v : Value), #[Value.int i t1, Value.int j t2][a]? = some v → ∃ t, v = .int (if a = 0 then i else j) t := by
      intro a v e
      match a, e with
      | 0, e => exact ⟨t1, (Option.some.inj e).symm⟩
      | 1, e => exact ⟨t2, (Option.some.inj e).symm⟩
      | a + 2, e => cases e
    intro a b va vb s' Q' E' ha hb hq
    obtain ⟨ta, rfl⟩ := key a va ha
    obtain ⟨tb, rfl⟩ := key b vb hb
    show wpAny _ _ (compareOp .Lt _ _) _ _ _
    exact lt_int hq
  · intro v h' tk hv kp
    have I1 : Inv X pins σ H { s with heap := h', toks := tk } := I.kept fun b o e => kp b o (fun z => by
      have e2 : b = s.heap.objs.size := by simpa using z
      rw [e2] at e
      exact absurd (Heap.lt_size e) (Nat.lt_irrefl _)) (Heap.get?_push_of_some _ e)
    by_cases hji : j < i
    · have e : argBest (fun a b => decide ((if a = 0 then i else j) < (if b = 0 then i else j))) (2 - 1) = 1 := by
        show (if decide (j < i) = true then 1 else 0) = 1
        rw [if_pos (decide_eq_true hji)]
      rw [e] at hv
      have hv' : Value.int j t2 = v := Option.some.inj hv
      subst hv'
      rw [if_pos hji] at q
      exact ⟨.int j, H, I1, ⟨_, rfl⟩, q⟩
    · have e : argBest (fun a b => decide ((if a = 0 then i else j) < (if b = 0 then i else j))) (2 - 1) = 0 := by
        show (if decide (j < i) = true then 1 else 0) = 0
        rw [if_neg (fun z => hji (of_decide_eq_true z))]
      rw [e] at hv
      have hv' : Value.int i t1 = v := Option.some.inj hv
      subst hv'
      rw [if_neg hji] at q
      exact ⟨.int i, H, I1, ⟨_, rfl⟩, q⟩
theorem call_maxT (K : PySem.W.Frag) (hc : X.calm = true) (hk : X.K = K := by rfl) : CallR X (.builtin "max") (fun xs H Q => ∃ p i j, xs = [.ref p] ∧ SqT K H p [.int i, .int j] ∧ Q (.int (if i < j then j else i)) H) := by
  subst hk
  intro pins s σ H xs us Q I r h
  obtain ⟨p, i, j, rfl, hp, q⟩ := h
  obtain ⟨u, rfl, ru⟩ := vals1 r
  cases ru
  obtain ⟨its, rv, ht, hz⟩ := I.tuple hp
  obtain ⟨u1, u2, rfl, ⟨t1, rfl⟩, ⟨t2, rfl⟩⟩ := vals2 rv
  have hh := I.ok.hd hc
  have hpl : p < s.heap.objs.size := ht.lt
  refine call_max_walk (wpAny_pyIter_tuple (show s.heap.IsTuple p _ from ht) ⟨s.heap.objs.size, _, _, 2, _, _, fun a b => decide ((if b = 0 then i else j) < (if a = 0 then i else j)), rfl, Walks.tuple (A := X.A.in1) hh _ p (Nat.ne_of_lt hpl) #[.int i t1, .int j t2], ⟨⟨_, Heap.get?_push_size _ rfl, rfl, rfl⟩, (show s.heap.IsTuple p _ from ht).at fun o e => Heap.get?_push_of_some _ e⟩, ?_, by decide, ?_, ?_⟩)
  · intro b hb
    rw [Heap.size_push]
    rcases List.mem_cons.mp hb with e | hb
    · rw [e]; exact Nat.lt_succ_self _
    · have e : b = p := by simpa using hb
      rw [e]; exact Nat.lt_succ_of_lt hpl
  · have key : ∀ (a : Nat) (v : Value), #[Value.int i t1, Value.int j t2][a]? = some v → ∃ t, v = .int (if a = 0 then i else j) t := by
      intro a v e
      match a, e with
      | 0, e => exact ⟨t1, (Option.some.inj e).symm⟩
      | 1, e => exact ⟨t2, (Option.some.inj e).symm⟩
      | a + 2, e => cases e
    intro a b va vb s' Q' E' ha hb hq
    obtain ⟨ta, rfl⟩ := key a va ha
    obtain ⟨tb, rfl⟩ := key b vb hb
    show wpAny _ _ (compareOp .Gt _ _) _ _ _
    exact gt_int hq
  · intro v h' tk hv kp
    have I1 : Inv X pins σ H { s with heap := h', toks := tk } := I.kept fun b o e => kp b o (fun z => by
      have e2 : b = s.heap.objs.size := by simpa using z
      rw [e2] at e
      exact absurd (Heap.lt_size e) (Nat.lt_irrefl _)) (Heap.get?_push_of_some _ e)
    by_cases hji : i < j
    · have e : argBest (fun a b => decide ((if b = 0 then i else j) < (if a = 0 then i else j))) (2 - 1) = 1 := by
        show (if decide (i < j) = true then 1 else 0) = 1
        rw [if_pos (decide_eq_true hji)]
      rw [e] at hv
      have hv' : Value.int j t2 = v := Option.some.inj hv
      subst hv'
      rw [if_pos hji] at q
      exact ⟨.int j, H, I1, ⟨_, rfl⟩, q⟩
    · have e : argBest (fun a b => decide ((if b = 0 then i else j) < (if a = 0 then i else j))) (2 - 1) = 0 := by
        show (if decide (i < j) = true then 1 else 0) = 0
        rw [if_neg (fun z => hji (of_decide_eq_true z))]
      rw [e] at hv
      have hv' : Value.int i t1 = v := Option.some.inj hv
      subst hv'
      rw [if_neg hji] at q
      exact ⟨.int i, H, I1, ⟨_, rfl⟩, q⟩
end
end L2

set_option Elab.async false
set_option linter.all false
set_option maxRecDepth 100000
/-! Displays of plain data read at once; all(..) of a list of truths; a tuple times a number. -/
namespace PySem
open Sem (wp)
theorem noFill_tuple_mul : fillsNumberSlot (.type "tuple") "mul" = pure false :=
  fillsNumberSlot_seq (id := "tuple.__mul__") (r := some (.builtin "tuple.__rmul__")) F.slot_tuple_mul.lookup (by decide +kernel) F.slot_tuple_rmul.lookup (by decide +kernel)
theorem repeat_tuple : seqRepeat? (.type "tuple") = pure (some (.builtin "tuple.__mul__")) := by
  unfold seqRepeat?
  rw [seqSlot_of (T := "tuple") (name := "__mul__") (id := "tuple.__mul__") F.slot_tuple_mul.lookup (by decide +kernel), seqSlot_of (T := "tuple") (name := "__rmul__") (id := "tuple.__rmul__") F.slot_tuple_rmul.lookup (by decide +kernel)]
  rfl
theorem int_rmul_tuple (a : Int) (t : Tok) (l : Addr) (items : Array Value) (n : Nat) (dd : Option Addr) (sl : Array (Option Value)) :
    Meets (Builtin.«int.__rmul__» ⟨[.int a t, .ref l], []⟩) (fun _ R s => s.heap.get? l = some { cls := .type "tuple", dict := dd, data := .seq items n, slots := sl } ∧ R (.ok (.ret Value.notImplemented)) s) :=
  .of_wp fun prog w A R s h => by obtain ⟨hp, g, d, tk, os⟩ := s; obtain ⟨hl, h⟩ := h; wp_walk; exact ⟨_, rfl, h⟩
theorem tuple_mul_int (l : Addr) (items : Array Value) (n : Nat) (dd : Option Addr) (sl : Array (Option Value)) (k : Int) (t : Tok) (hne : items.isEmpty = false) (h2 : 2 ≤ k) (hk : k < 2 ^ 40) (hz : items.size * k.toNat ≤ 16000000) :
    Meets (Builtin.«tuple.__mul__» ⟨[.ref l, .int k t], []⟩) (fun _ R s => s.heap.get? l = some { cls := .type "tuple", dict := dd, data := .seq items n, slots := sl } ∧ R (.ok (.ret (Value.ref s.heap.objs.size))) { s with heap := s.heap.push { cls := Value.type "tuple", data := Data.seq (List.foldl (fun x1 x2 => x1 ++ x2) #[] (List.replicate k.toNat items)) }, toks := s.toks }) :=
  .of_wp fun prog w A R s h => by
    obtain ⟨hp, g, d, tk, os⟩ := s
    obtain ⟨hl, h⟩ := h
    have f1 := AutoSeq1.idx_int
    have c0 : ¬ (decide (k < -(2 ^ 63)) || decide (k ≥ 2 ^ 63)) = true := by simp; omega
    have c1 : ¬ (items.isEmpty || k == 1) = true := by rw [hne]; simp; omega
    have c2 : ¬ (decide (k ≤ 0) || items.isEmpty) = true := by rw [hne]; simp; omega
    wp_walk
    have hk2 : k = ((k.toNat : Nat) : Int) := by omega
    have hm : (items.size : Int) * k = ((items.size * k.toNat : Nat) : Int) := by rw [Int.natCast_mul, ← hk2]
    have c3 : ¬ (items.size : Int) * k > (2 ^ 63 - 1) / 8 := by rw [hm]; omega
    have c4 : ¬ Builtin.Tuple.tupleTooMany ((items.size : Int) * k) = true := by
      rw [hm]
      unfold Builtin.Tuple.tupleTooMany
      rw [decide_eq_true_eq, show sizeLine = 16777216 by decide]
      omega
    have hit : PyProof.Rows.IsTup hp l items := ⟨_, hl, rfl, n, rfl⟩
    have hsz : (List.foldl (fun x1 x2 => x1 ++ x2) #[] (List.replicate k.toNat items)).size ≤ sizeLine := by
      have e := AutoListH.size_joined items k.toNat #[]
      have e0 : (#[] : Array Value).size = 0 := rfl
      rw [e0, Nat.zero_add, Nat.mul_comm] at e
      rw [e]
      exact Nat.le_trans hz (by decide)
    rw [if_neg c0]
    show wpAny _ _ (Builtin.Tuple.tupleItemsOf (.ref l) >>= _) _ _ _
    refine wpAny_bind (PyProof.Rows.tupleItemsOf_ hit ?_)
    dsimp only
    rw [if_neg c1, if_neg c2, if_neg c3, if_neg c4]
    first
      | exact wpAny_bind (m := Builtin.Tuple.tupleExact _) (wpAny_newObj_type (wpAny_pure ⟨_, rfl, h⟩) hsz)
      | exact wpAny_bind (m := Builtin.Tuple.tupleExact _) (wpAny_newObj_type (wpAny_bind (wpAny_pure (wpAny_pure ⟨_, rfl, h⟩))) hsz)
      | exact wpAny_bind (wpAny_bind (m := Builtin.Tuple.tupleExact _) (wpAny_newObj_type (wpAny_pure (wpAny_pure ⟨_, rfl, h⟩)) hsz))
      | exact wpAny_bind (wpAny_bind (m := Builtin.Tuple.tupleExact _) (wpAny_newObj_type (wpAny_pure ⟨_, rfl, h⟩) hsz))
end PySem
namespace L2
open PySem PySem.Spec PyProof.Rows
section
variable {X : Cx}
theorem QE.weaken {e : Expr} {t t' : TE} (h : QE X e t) (w : ∀ σ H Q, t' σ H Q → t σ H Q) : QE X e t' := ⟨fun pins s σ H Q I q => h.run pins s σ H Q I (w σ H Q q)⟩
theorem QA.weaken {es : List Expr} {t t' : TA} (h : QA X es t) (w : ∀ σ H Q, t' σ H Q → t σ H Q) : QA X es t' := ⟨fun pos pins s σ H Q I q => h.run pos pins s σ H Q I (w σ H Q q), h.ns⟩
end
/-- what a display asks: the data of the names in it (ints in slots ui, any in slots us) -/
def Has (us ui : List Nat) (S : List Addr) (ρ : Nat → PyData) (ι : Nat → Int) (σ : St) (H : Hp) : Prop :=
  (∀ b ∈ S, H b ≠ none) ∧ (∀ i ∈ us, ∃ v, σ[i]? = some (some v) ∧ Rep S H (ρ i) v) ∧ (∀ i ∈ ui, σ[i]? = some (some (.int (ι i))))
theorem Has.ext {us ui : List Nat} {S : List Addr} {ρ : Nat → PyData} {ι : Nat → Int} {σ : St} {H H' : Hp} (h : Has us ui S ρ ι σ H) (x : Ext [] H H') : Has us ui S ρ ι σ H' := by
  refine ⟨fun b hb => ?_, fun i hi => ?_, h.2.2⟩
  · have := h.1 b hb
    cases e : H b with
    | none => exact absurd e this
    | some o => rw [x.keep b o (by simp) e]; simp
  · obtain ⟨v, e, r⟩ := h.2.1 i hi
    exact ⟨v, e, r.ext (x.mono (by simp))⟩
abbrev DD := (Nat → PyData) → (Nat → Int) → PyData
def tDat (us ui : List Nat) (d : DD) : TE := fun σ H Q => ∃ S ρ ι, Has us ui S ρ ι σ H ∧ ∀ v H', Ext [] H H' → Rep S H' (d ρ ι) v → Q v H'
def tDats (us ui : List Nat) (d : (Nat → PyData) → (Nat → Int) → List PyData) : TA := fun σ H Q => ∃ S ρ ι, Has us ui S ρ ι σ H ∧ ∀ v H', Ext [] H H' → Reps S H' (d ρ ι) v → Q v H'
section
variable {X : Cx} {us ui : List Nat} {a b e : Expr} {es : List Expr} {pos : Pos}
theorem qd_of {v : V} {d : PyData} (h : QE X e (tC v)) (r : ∀ S H, Rep S H d v) : QE X e (tDat us ui fun _ _ => d) := h.weaken fun σ H Q ⟨S, ρ, ι, hh, k⟩ => k v H (.refl _ _) (r S H)
theorem qd_int {i : Int} {j pos} : QE X (.Constant (.int i) j pos) (tDat us ui fun _ _ => .int i) := qd_of qe_int fun _ _ => .int i
theorem qd_bl {i : Bool} {j pos} : QE X (.Constant (.bool i) j pos) (tDat us ui fun _ _ => .bool i) := qd_of qe_bl fun _ _ => .bl i
theorem qd_non {j pos} : QE X (.Constant .none j pos) (tDat us ui fun _ _ => .none) := qd_of qe_non fun _ _ => .non
theorem qd_str {x j pos} : QE X (.Constant (.str x) j pos) (tDat us ui fun _ _ => .str x) := qd_of qe_str fun _ _ => .str x
theorem qd_var (i : Nat) (h : QE X e (tVar i)) (hi : i ∈ us := by decide) : QE X e (tDat us ui fun ρ _ => ρ i) := h.weaken fun σ H Q ⟨S, ρ, ι, hh, k⟩ => by
  obtain ⟨v, e, r⟩ := hh.2.1 i hi
  exact ⟨v, e, k v H (.refl _ _) r⟩
theorem qd_ivar (i : Nat) (h : QE X e (tVar i)) (hi : i ∈ ui := by decide) : QE X e (tDat us ui fun _ ι => .int (ι i)) := h.weaken fun σ H Q ⟨S, ρ, ι, hh, k⟩ => ⟨_, hh.2.2 i hi, k _ H (.refl _ _) (.int _)⟩
theorem qd_neg {n : (Nat → PyData) → (Nat → Int) → Int} (h : QE X e (tDat us ui fun ρ ι => .int (n ρ ι))) : QE X (.UnaryOp .USub e pos) (tDat us ui fun ρ ι => .int (-(n ρ ι))) :=
  (qe_un un_neg h).weaken fun σ H Q ⟨S, ρ, ι, hh, k⟩ => ⟨S, ρ, ι, hh, fun v H' x r => ⟨_, r.of_int, k _ H' x (.int _)⟩⟩
theorem qd_add {n m : (Nat → PyData) → (Nat → Int) → Int} (ha : QE X a (tDat us ui fun ρ ι => .int (n ρ ι))) (hb : QE X b (tDat us ui fun ρ ι => .int (m ρ ι))) : QE X (.BinOp a .Add b pos) (tDat us ui fun ρ ι => .int (n ρ ι + m ρ ι)) :=
  (qe_op op_add ha hb).weaken fun σ H Q ⟨S, ρ, ι, hh, k⟩ => ⟨S, ρ, ι, hh, fun v H' x r => ⟨S, ρ, ι, hh.ext x, fun v2 H2 x2 r2 => ⟨_, _, r.of_int, r2.of_int, k _ H2 (x.trans x2) (.int _)⟩⟩⟩
theorem qd_sub {n m : (Nat → PyData) → (Nat → Int) → Int} (ha : QE X a (tDat us ui fun ρ ι => .int (n ρ ι))) (hb : QE X b (tDat us ui fun ρ ι => .int (m ρ ι))) : QE X (.BinOp a .Sub b pos) (tDat us ui fun ρ ι => .int (n ρ ι - m ρ ι)) :=
  (qe_op op_sub ha hb).weaken fun σ H Q ⟨S, ρ, ι, hh, k⟩ => ⟨S, ρ, ι, hh, fun v H' x r => ⟨S, ρ, ι, hh.ext x, fun v2 H2 x2 r2 => ⟨_, _, r.of_int, r2.of_int, k _ H2 (x.trans x2) (.int _)⟩⟩⟩
theorem qd_pow {i j : Int} (ha : QE X a (tDat us ui fun _ _ => .int i)) (hb : QE X b (tDat us ui fun _ _ => .int j)) (hc : CPow i j) : QE X (.BinOp a .Pow b pos) (tDat us ui fun _ _ => .int (i ^ j.toNat)) :=
  (qe_op op_pow ha hb).weaken fun σ H Q ⟨S, ρ, ι, hh, k⟩ => ⟨S, ρ, ι, hh, fun v H' x r => ⟨S, ρ, ι, hh.ext x, fun v2 H2 x2 r2 => ⟨_, _, r.of_int, r2.of_int, hc, k _ H2 (x.trans x2) (.int _)⟩⟩⟩
theorem qds_nil : QA X [] (tDats us ui fun _ _ => []) := qa_nil.weaken fun σ H Q ⟨S, ρ, ι, hh, k⟩ => k [] H (.refl _ _) .nil
theorem qds_c {d : DD} {ds : (Nat → PyData) → (Nat → Int) → List PyData} (ha : QE X e (tDat us ui d)) (hr : QA X es (tDats us ui ds)) (hs : notStar e = true := by rfl) : QA X (e :: es) (tDats us ui fun ρ ι => d ρ ι :: ds ρ ι) :=
  (qa_c ha hr hs).weaken fun σ H Q ⟨S, ρ, ι, hh, k⟩ => ⟨S, ρ, ι, hh, fun v H' x r => ⟨S, ρ, ι, hh.ext x, fun v2 H2 x2 r2 => k _ H2 (x.trans x2) (.cons (r.ext (x2.mono (by simp))) r2)⟩⟩
theorem qd_tup {x1 : Nat} {ds : (Nat → PyData) → (Nat → Int) → List PyData} (h : QA X es (tDats us ui ds)) (hl : ∀ ρ ι, (ds ρ ι).length = es.length := by intro _ _; rfl) (hn : es.length ≤ sizeLine := by decide) : QE X (.Tuple es x1 pos) (tDat us ui fun ρ ι => .tuple (ds ρ ι)) :=
  (qe_tup h).weaken fun σ H Q ⟨S, ρ, ι, hh, k⟩ => ⟨S, ρ, ι, hh, fun v H' x r => ⟨by rw [r.length, hl]; exact hn, fun p hp => k _ _ (x.trans (.new hp)) (.tup upd_same (r.ext (.new hp)))⟩⟩
theorem qd_lst {ds : (Nat → PyData) → (Nat → Int) → List PyData} (h : QA X es (tDats us ui ds)) (hl : ∀ ρ ι, (ds ρ ι).length = es.length := by intro _ _; rfl) (hn : es.length ≤ sizeLine := by decide) : QE X (.List es pos) (tDat us ui fun ρ ι => .list (ds ρ ι)) :=
  (qe_lst h).weaken fun σ H Q ⟨S, ρ, ι, hh, k⟩ => ⟨S, ρ, ι, hh, fun v H' x r => ⟨by rw [r.length, hl]; exact hn, fun p hp => k _ _ (x.trans (.new hp)) (.lst upd_same (fun z => (hh.ext x).1 p z hp) (r.ext (.new hp)))⟩⟩
/-- a tuple, not empty, times a number from 2 on -/
def rRepT (K : PySem.W.Frag) : R2 := fun x y H Q => ∃ a k xs, x = .ref a ∧ y = .int k ∧ SqT K H a xs ∧ xs ≠ [] ∧ 2 ≤ k ∧ k < 2 ^ 40 ∧ xs.length * k.toNat ≤ 16000000 ∧ ∀ p, H p = none → Q (.ref p) (upd H p (.tup (List.replicate k.toNat xs).flatten))
theorem op_repT (K : PySem.W.Frag) (h : X.K = K := by rfl) : OpR X (binaryOp .Mult) (rRepT K) := by
  subst h
  intro pins s σ H x y v u Q I rx ry h
  obtain ⟨a, k, xs, rfl, rfl, hx, hne, h2, hk, hz, q⟩ := h
  cases rx
  obtain ⟨t, rfl⟩ := ry
  obtain ⟨its, r, ht, hl⟩ := I.tuple hx
  obtain ⟨⟨cls, dd, data, sl⟩, ho, hc, n, hd⟩ := id ht
  simp only at hc hd
  subst hc hd
  have hne' : its.toArray.isEmpty = false := by
    cases its with
    | nil => exact absurd (r.nil_iff.mp rfl) hne
    | cons _ _ => rfl
  have hsz : its.toArray.size * k.toNat ≤ 16000000 := by rw [List.size_toArray, ← r.length]; exact hz
  refine wpAny_binaryOp_repeat_ref (T := "tuple") (U := "int") (by decide) ⟨_, ho, rfl⟩ (fun s' => typeIs_int s' k t) noFill_tuple_mul F.fills_int_mul F.slot_int_rmul repeat_tuple F.slot_int_index.lookup
    (call_meets F.slot_int_rmul (typeIs_int s k t) F.entry_int_rmul (F.args_int_rmul_2 _ _) (int_rmul_tuple k t a its.toArray n dd sl)
      ⟨ho, rfl, ⟨_, ho, rfl⟩, call_meets F.slot_tuple_mul ⟨_, ho, rfl⟩ F.entry_tuple_mul (F.args_tuple_mul_2 _ _) (tuple_mul_int a its.toArray n dd sl k t hne' h2 hk hsz) ⟨ho, ?_⟩⟩)
  have hnew : List.foldl (fun x1 x2 => x1 ++ x2) #[] (List.replicate k.toNat its.toArray) = (List.replicate k.toNat its).flatten.toArray := by
    have := foldl_rep its k.toNat []
    rw [List.nil_append] at this
    exact this
  rw [hnew]
  have hlen : (List.replicate k.toNat xs).flatten.length ≤ sizeLine := by
    rw [len_rep, Nat.mul_comm, show sizeLine = 16777216 by decide]
    omega
  exact ⟨.ref _, _, I.laid (t' := s.toks) (o := .tup (List.replicate k.toNat xs).flatten) (fun b o e => Heap.get?_push_of_some _ e) (Nat.le_refl _) ⟨hlen, _, r.rep k.toNat, IsTup.new _ _⟩, rfl, q _ (I.hok.fresh (Nat.le_refl _))⟩
theorem Reps.rep {S : List Addr} {H : Hp} {ds : List PyData} {xs : List V} (r : Reps S H ds xs) : ∀ k : Nat, Reps S H (List.replicate k ds).flatten (List.replicate k xs).flatten
  | 0 => .nil
  | k + 1 => by
    rw [List.replicate_succ, List.replicate_succ, List.flatten_cons, List.flatten_cons]
    exact r.append (Reps.rep r k)
theorem qd_repT (K : PySem.W.Frag) {k : Int} {j pos2} {n : Nat} {ds : (Nat → PyData) → (Nat → Int) → List PyData} (ha : QE X a (tDat us ui fun ρ ι => .tuple (ds ρ ι))) (h : X.K = K := by rfl) (hl : ∀ ρ ι, (ds ρ ι).length = n + 1 := by intro _ _; rfl) (h2 : 2 ≤ k := by decide) (hk : k < 2 ^ 40 := by decide) (hz : (n + 1) * k.toNat ≤ 16000000 := by decide) :
    QE X (.BinOp a .Mult (.Constant (.int k) j pos2) pos) (tDat us ui fun ρ ι => .tuple (List.replicate k.toNat (ds ρ ι)).flatten) :=
  (qe_op (op_repT K h) ha qe_int).weaken fun σ H Q ⟨S, ρ, ι, hh, q⟩ => ⟨S, ρ, ι, hh, fun v H' x r => by
    obtain ⟨p, xs, rfl, hp, rs⟩ := r.of_tup
    have hxl := rs.length
    rw [hl] at hxl
    exact ⟨p, k, xs, rfl, rfl, SqT.of hp, (fun z => by rw [z] at hxl; cases hxl), h2, hk, by rw [hxl]; exact hz, fun p' hp' => q _ _ (x.trans (.new hp')) (.tup upd_same ((rs.rep _).ext (.new hp')))⟩⟩
/-- a name of the module that holds an int -/
theorem qe_globI {x : Str} {i : Int} (hg : Gl X x) (hm : ∃ t, X.mg x = some (.int i t)) (hd : (x == ("__debug__" : Str)) = false := by decide) : QE X (.Name x pos) (tC (.int i)) := by
  obtain ⟨t, e⟩ := hm
  exact ⟨pe_glob hg e ⟨t, rfl⟩ hd⟩
theorem Vals.at' {xs : List V} {us : List Value} {i : Nat} {u : Value} (r : Vals xs us) (h : us[i]? = some u) : ∃ x, xs[i]? = some x ∧ RelV x u := by
  have hi : i < us.length := (List.getElem?_eq_some_iff.mp h).1
  have hi' : i < xs.length := by rw [r.length]; exact hi
  have e : xs[i]? = some xs[i] := by simp [hi']
  obtain ⟨w, hw, rw'⟩ := r.get e
  rw [h] at hw
  cases hw
  exact ⟨_, e, rw'⟩
/-- all of a list of truths -/
theorem call_allL (K : PySem.W.Frag) (hc : X.calm = true) (hk : X.K = K := by rfl) : CallR X (.builtin "all") (fun xs H Q => ∃ (p : Addr) (bs : List Bool), xs = [.ref p] ∧ SqL K H p (bs.map V.bl) ∧ Q (.bl (bs.all id)) H) := by
  subst hk
  intro pins s σ H xs us Q I r h
  obtain ⟨p, bs, rfl, hp, q⟩ := h
  obtain ⟨u, rfl, ru⟩ := vals1 r
  cases ru
  obtain ⟨its, rv, ht, hz⟩ := I.list hp
  have hh := I.ok.hd hc
  have hpl : p < s.heap.objs.size := ht.lt
  have hlen : its.toArray.size = bs.length := by rw [List.size_toArray, ← rv.length, List.length_map]
  have key : ∀ (a : Nat) (v : Value), its.toArray[a]? = some v → v = .bool (bs.getD a true) := by
    intro a v e
    have e' : its[a]? = some v := by simpa using e
    obtain ⟨x, hx, rx⟩ := rv.at' e'
    rw [List.getElem?_map] at hx
    cases hb : bs[a]? with
    | none => rw [hb] at hx; cases hx
    | some b =>
      rw [hb] at hx
      cases hx
      rw [List.getD_eq_getElem?_getD, hb]
      exact rx
  refine call_all_walk (wpAny_pyIter_list ht.isList ⟨s.heap.objs.size, _, _, its.toArray.size, _, _, fun a => bs.getD a true, rfl, Walks.list (A := X.A.in1) hh _ p (Nat.ne_of_lt hpl) its.toArray, ⟨⟨_, Heap.get?_push_size _ rfl, rfl, rfl⟩, ht.isList.at fun o e => Heap.get?_push_of_some _ e⟩, ?_, ?_⟩)
  · intro i v s' Q' E' hP hq
    rw [key i v hP]
    exact wpAny_truthy_bool hq
  · intro h' tk kp
    have I1 : Inv X pins σ H { s with heap := h', toks := tk } := I.kept fun b o e => kp b o (fun z => by
      have e2 : b = s.heap.objs.size := by simpa using z
      rw [e2] at e
      exact absurd (Heap.lt_size e) (Nat.lt_irrefl _)) (Heap.get?_push_of_some _ e)
    have e : (List.range its.toArray.size).all (fun a => bs.getD a true) = bs.all id := by
      rw [hlen]
      clear q hp rv hlen key hz
      induction bs with
      | nil => rfl
      | cons b bs ih =>
        rw [List.length_cons, List.range_succ_eq_map, List.all_cons, List.all_map, List.all_cons]
        have : ((fun a => (b :: bs).getD a true) ∘ Nat.succ) = fun a => bs.getD a true := rfl
        rw [this, ih]
        rfl
    rw [e]
    exact ⟨.bl _, H, I1, rfl, q⟩
end
end L2

set_option Elab.async false
set_option linter.all false
set_option maxRecDepth 100000
namespace L2
open PySem PySem.Spec PyProof.Rows

/-! ### lists of pairs as tables -/
section
variable {κ : Type} [DecidableEq κ]
def valV (kvs : List (κ × V)) (k : κ) : Option V := (kvs.find? fun kv => decide (kv.1 = k)).map (·.2)
/-- in its place, or at the end -/
def putK (kvs : List (κ × V)) (k : κ) (v : V) : List (κ × V) :=
  if (kvs.any fun kv => decide (kv.1 = k)) = true then kvs.map (fun kv => if kv.1 = k then (kv.1, v) else kv) else kvs ++ [(k, v)]
def dropK (kvs : List (κ × V)) (k : κ) : List (κ × V) := kvs.filter fun kv => decide (kv.1 ≠ k)

theorem valV_nil {k : κ} : valV ([] : List (κ × V)) k = none := rfl
theorem valV_pos {p : κ × V} {r : List (κ × V)} {k : κ} (e : p.1 = k) : valV (p :: r) k = some p.2 := by simp [valV, List.find?_cons, e]
theorem valV_neg {p : κ × V} {r : List (κ × V)} {k : κ} (e : ¬ p.1 = k) : valV (p :: r) k = valV r k := by simp [valV, List.find?_cons, e]
theorem valV_any (k : κ) : ∀ kvs : List (κ × V), (kvs.any fun kv => decide (kv.1 = k)) = (valV kvs k).isSome
  | [] => rfl
  | p :: r => by
    rw [List.any_cons]
    by_cases e : p.1 = k
    · simp only [valV_pos e, decide_eq_true e, Bool.true_or, Option.isSome_some]
    · rw [valV_neg e, decide_eq_false e, Bool.false_or]; exact valV_any k r
theorem valV_map (k j : κ) (y : V) : ∀ kvs : List (κ × V), valV (kvs.map fun kv => if kv.1 = k then (kv.1, y) else kv) j = (valV kvs j).map fun x => if j = k then y else x
  | [] => rfl
  | p :: r => by
    have ih := valV_map k j y r
    rw [List.map_cons]
    by_cases h : p.1 = k
    · rw [if_pos h]
      by_cases e : p.1 = j
      · rw [valV_pos (p := (p.1, y)) e, valV_pos e, Option.map_some, if_pos (e.symm.trans h)]
      · rw [valV_neg (p := (p.1, y)) e, valV_neg e, ih]
    · rw [if_neg h]
      by_cases e : p.1 = j
      · rw [valV_pos (p := p) e, valV_pos e, Option.map_some, if_neg (fun z => h (e.trans z))]
      · rw [valV_neg (p := p) e, valV_neg e, ih]
theorem valV_snoc (k j : κ) (y : V) : ∀ kvs : List (κ × V), valV kvs k = none → valV (kvs ++ [(k, y)]) j = if j = k then some y else valV kvs j
  | [], _ => by
    by_cases e : k = j
    · rw [if_pos e.symm]; exact valV_pos (p := (k, y)) e
    · rw [if_neg (fun z => e z.symm)]; exact valV_neg (p := (k, y)) e
  | p :: r, hn => by
    rw [List.cons_append]
    have hk : ¬ p.1 = k := fun z => by rw [valV_pos z] at hn; cases hn
    rw [valV_neg hk] at hn
    have ih := valV_snoc k j y r hn
    by_cases e : p.1 = j
    · rw [valV_pos e, valV_pos e, if_neg (fun z => hk (e.trans z))]
    · rw [valV_neg e, valV_neg e, ih]
theorem valV_put (kvs : List (κ × V)) (k j : κ) (y : V) : valV (putK kvs k y) j = if j = k then some y else valV kvs j := by
  unfold putK
  by_cases a : (kvs.any fun kv => decide (kv.1 = k)) = true
  · rw [if_pos a, valV_map]
    rw [valV_any] at a
    by_cases e : j = k
    · obtain ⟨x, hx⟩ := Option.isSome_iff_exists.mp a
      rw [if_pos e, e, hx, Option.map_some, if_pos rfl]
    · rw [if_neg e]
      cases valV kvs j with
      | none => rfl
      | some x => rw [Option.map_some, if_neg e]
  · rw [if_neg a]
    refine valV_snoc k j y kvs ?_
    rw [valV_any] at a
    cases q : valV kvs k with
    | none => rfl
    | some x => rw [q] at a; exact (a rfl).elim
theorem length_putK (kvs : List (κ × V)) (k : κ) (v : V) : (putK kvs k v).length ≤ kvs.length + 1 := by
  unfold putK
  split
  · rw [List.length_map]; omega
  · rw [List.length_append, List.length_cons, List.length_nil]; omega
theorem putK_new {kvs : List (κ × V)} {k : κ} (v : V) (h : valV kvs k = none) : putK kvs k v = kvs ++ [(k, v)] := by
  unfold putK
  rw [valV_any, h]
  exact if_neg (by decide)

theorem RelO.isSome_eq {o : Option V} {u : Option Value} (r : RelO o u) : o.isSome = u.isSome := by
  cases o with
  | none => cases u with
    | none => rfl
    | some _ => exact (show False from r).elim
  | some _ => cases u with
    | none => exact (show False from r).elim
    | some _ => rfl
theorem RelO.getD {o : Option V} {u : Option Value} {d : V} {d' : Value} (r : RelO o u) (rd : RelV d d') : RelV (o.getD d) (u.getD d') := by
  cases o with
  | none => cases u with
    | none => exact rd
    | some _ => exact (show False from r).elim
  | some _ => cases u with
    | none => exact (show False from r).elim
    | some _ => exact r

/-- raw tables of the same keys -/
theorem KV.val {kvs : List (κ × V)} {vs : List (κ × Value)} (r : KV kvs vs) (k : κ) : RelO (valV kvs k) (valueAt vs k) := by
  unfold KV at r
  induction r with
  | nil => exact True.intro
  | @cons p q ps qs h t ih =>
    obtain ⟨h1, h2⟩ := h
    by_cases e : p.1 = k
    · have e' : q.1 = k := h1.symm.trans e
      have b : valueAt (q :: qs) k = some q.2 := by simp [valueAt, List.find?_cons, e']
      rw [valV_pos e, b]; exact h2
    · have e' : ¬ q.1 = k := fun z => e (h1.trans z)
      have b : valueAt (q :: qs) k = valueAt qs k := by simp [valueAt, List.find?_cons, e']
      rw [valV_neg e, b]; exact ih
theorem KV.any {kvs : List (κ × V)} {vs : List (κ × Value)} (r : KV kvs vs) (k : κ) : (kvs.any fun kv => decide (kv.1 = k)) = vs.any fun kv => decide (kv.1 = k) := by
  unfold KV at r
  induction r with
  | nil => rfl
  | cons h t ih => rw [List.any_cons, List.any_cons, ih, h.1]
theorem KV.repl {kvs : List (κ × V)} {vs : List (κ × Value)} (r : KV kvs vs) (k : κ) {y : V} {u : Value} (ry : RelV y u) :
    KV (kvs.map fun kv => if kv.1 = k then (kv.1, y) else kv) (vs.map fun kv => if kv.1 = k then (kv.1, u) else kv) := by
  unfold KV at r ⊢
  induction r with
  | nil => exact .nil
  | @cons p q ps qs h t ih =>
    rw [List.map_cons, List.map_cons]
    refine .cons ?_ ih
    obtain ⟨h1, h2⟩ := h
    by_cases e : p.1 = k
    · rw [if_pos e, if_pos (h1.symm.trans e)]; exact ⟨h1, ry⟩
    · rw [if_neg e, if_neg (fun z => e (h1.trans z))]; exact ⟨h1, h2⟩
theorem KV.put {kvs : List (κ × V)} {vs : List (κ × Value)} (r : KV kvs vs) (k : κ) {y : V} {u : Value} (ry : RelV y u) : KV (putK kvs k y) (stored vs k u) := by
  unfold putK stored
  rw [r.any k]
  by_cases e : (vs.any fun kv => decide (kv.1 = k)) = true
  · rw [if_pos e, if_pos e]; exact r.repl k ry
  · rw [if_neg e, if_neg e]; exact Paired.snoc r ⟨rfl, ry⟩
theorem KV.drop {kvs : List (κ × V)} {vs : List (κ × Value)} (r : KV kvs vs) (k : κ) : KV (dropK kvs k) (without vs k) := by
  unfold KV at r ⊢
  unfold dropK without
  induction r with
  | nil => exact .nil
  | @cons p q ps qs h t ih =>
    obtain ⟨h1, h2⟩ := h
    rw [List.filter_cons, List.filter_cons]
    by_cases e : p.1 = k
    · have a : ¬ decide (p.1 ≠ k) = true := by simp [e]
      have b : ¬ decide (q.1 ≠ k) = true := by simp [h1.symm.trans e]
      rw [if_neg a, if_neg b]; exact ih
    · have e' : ¬ q.1 = k := fun z => e (h1.trans z)
      have a : decide (p.1 ≠ k) = true := by simp [e]
      have b : decide (q.1 ≠ k) = true := by simp [e']
      rw [if_pos a, if_pos b]; exact .cons ⟨h1, h2⟩ ih
theorem KV.keys {kvs : List (κ × V)} {vs : List (κ × Value)} (r : KV kvs vs) : kvs.map (·.1) = vs.map (·.1) := by
  unfold KV at r
  induction r with
  | nil => rfl
  | cons h t ih => rw [List.map_cons, List.map_cons, ih, h.1]
theorem KV.length {kvs : List (κ × V)} {vs : List (κ × Value)} (r : KV kvs vs) : kvs.length = vs.length := Paired.length r
theorem dropK_le (kvs : List (κ × V)) (k : κ) : (dropK kvs k).length ≤ kvs.length := List.length_filter_le _ _
end


/-! ### a tracked dict, its keys ints and texts or tuples of these -/
theorem kV_is {P : Program} {w : World} {k : Key} {u : Value} (r : RelV (kV k) u) : (mixKind P w).is k u = true := by
  cases k with
  | inl i => obtain ⟨t, e⟩ := (show ∃ t, u = Value.int i t from r); subst e; exact mixKind_int P w i t
  | inr x => obtain ⟨t, e⟩ := (show ∃ t, u = Value.str x t from r); subst e; exact mixKind_str P w x t
theorem kV_inj {a b : Key} (e : kV a = kV b) : a = b := by
  cases a with
  | inl i => cases b with
    | inl j => have e' : V.int i = V.int j := e; injection e' with e'; rw [e']
    | inr y => exact nomatch (show V.int i = V.str y from e)
  | inr x => cases b with
    | inl j => exact nomatch (show V.str x = V.int j from e)
    | inr y => have e' : V.str x = V.str y := e; injection e' with e'; rw [e']
theorem kVs_inj : ∀ {a b : List Key}, a.map kV = b.map kV → a = b
  | [], [], _ => rfl
  | [], _ :: _, e => by simp at e
  | _ :: _, [], e => by simp at e
  | x :: xs, y :: ys, e => by
    rw [List.map_cons, List.map_cons] at e
    injection e with e1 e2
    rw [kV_inj e1, kVs_inj e2]
theorem items_are {P : Program} {w : World} : ∀ {ks : List Key} {us : List Value}, Vals (ks.map kV) us → ItemsAre (mixKind P w) ks us
  | [], _, r => by rw [List.map_nil] at r; cases r; exact .nil
  | k :: ks, _, r => by
    rw [List.map_cons] at r
    cases r with
    | cons h t => exact .cons (kV_is h) (items_are t)

/-- raw entries of a dict with tuple keys -/
abbrev KT (H : Hp) : List (List Key × V) → List (List Key × Addr × Value) → Prop := Paired fun p q => p.1 = q.1 ∧ H q.2.1 = some (.tup (p.1.map kV)) ∧ RelV p.2 q.2.2
theorem KT.val {H : Hp} {kvs : List (List Key × V)} {xs : List (List Key × Addr × Value)} (r : KT H kvs xs) (k : List Key) : RelO (valV kvs k) ((atKey xs k).map (·.2)) := by
  induction r with
  | nil => exact True.intro
  | @cons p q ps qs h t ih =>
    obtain ⟨h1, _, h2⟩ := h
    by_cases e : p.1 = k
    · have e' : q.1 = k := h1.symm.trans e
      have b : atKey (q :: qs) k = some q.2 := by simp [atKey, List.find?_cons, e']
      rw [valV_pos e, b]; exact h2
    · have e' : ¬ q.1 = k := fun z => e (h1.trans z)
      have b : atKey (q :: qs) k = atKey qs k := by simp [atKey, List.find?_cons, e']
      rw [valV_neg e, b]; exact ih
theorem KT.repl {H : Hp} {kvs : List (List Key × V)} {xs : List (List Key × Addr × Value)} (r : KT H kvs xs) (k : List Key) {y : V} {u : Value} (ry : RelV y u) :
    KT H (kvs.map fun kv => if kv.1 = k then (kv.1, y) else kv) (xs.map (putAt k u)) := by
  induction r with
  | nil => exact .nil
  | @cons p q ps qs h t ih =>
    rw [List.map_cons, List.map_cons]
    refine .cons ?_ ih
    obtain ⟨h1, h2, h3⟩ := h
    unfold putAt
    by_cases e : p.1 = k
    · rw [if_pos e, if_pos (h1.symm.trans e)]; exact ⟨h1, h2, ry⟩
    · rw [if_neg e, if_neg (fun z => e (h1.trans z))]; exact ⟨h1, h2, h3⟩
theorem KT.put {H : Hp} {kvs : List (List Key × V)} {xs : List (List Key × Addr × Value)} (r : KT H kvs xs) (k : List Key) {b : Addr} {y : V} {u : Value} (hb : H b = some (.tup (k.map kV))) (ry : RelV y u) :
    KT H (putK kvs k y) (storedH xs k b u) := by
  have e : (kvs.any fun kv => decide (kv.1 = k)) = (atKey xs k).isSome := by
    rw [valV_any, (r.val k).isSome_eq, Option.isSome_map]
  unfold putK storedH
  rw [e]
  by_cases q : (atKey xs k).isSome = true
  · rw [if_pos q, if_pos q]; exact r.repl k ry
  · rw [if_neg q, if_neg q]; exact Paired.snoc r ⟨rfl, hb, ry⟩
theorem KT.keeps {H H' : Hp} {kvs : List (List Key × V)} {xs : List (List Key × Addr × Value)} (r : KT H kvs xs) (ht : ∀ b ys, H b = some (.tup ys) → H' b = some (.tup ys)) : KT H' kvs xs :=
  Paired.mapP r fun _ _ z => ⟨z.1, ht _ _ z.2.1, z.2.2⟩

section
variable {P : Program} {w : World} {H : Hp} {h : Heap} {a : Addr}
theorem rd_of {u : HO} (ok : HOk P w H h) (e : Rd H a u) : ObjOk P w H h a u := e.ok ok
theorem dk_rd {kvs : List (Key × V)} (ok : HOk P w H h) (e : Rd H a (.dK kvs)) : kvs.length ≤ sizeLine ∧ (a == sysModules) = false ∧ ∃ vs, KV kvs vs ∧ h.DictOf (mixKind P w) a vs :=
  show ObjOk P w H h a (.dK kvs) from rd_of ok e
theorem dk_of {kvs : List (Key × V)} (ok : HOk P w H h) (e : H a = some (.dK kvs)) : kvs.length ≤ sizeLine ∧ (a == sysModules) = false ∧ ∃ vs, KV kvs vs ∧ h.DictOf (mixKind P w) a vs := dk_rd ok (.inl e)
/-- a tracked tuple of ints and texts is a key -/
theorem key_of {ks : List Key} (ok : HOk P w H h) (e : H a = some (.tup (ks.map kV))) : (tupleKind (mixKind P w)).is h ks a := by
  obtain ⟨_, its, r, o, h1, h2, n, h3⟩ := (show ObjOk P w H h a (.tup (ks.map kV)) from ok a _ e)
  exact ⟨o, its.toArray, n, h1, h2, h3, by simpa using items_are r⟩
theorem dt_rd {kvs : List (List Key × V)} (ok : HOk P w H h) (e : Rd H a (.dT kvs)) : kvs.length ≤ sizeLine ∧ (a == sysModules) = false ∧
    ∃ xs, KT H kvs xs ∧ h.DictOfH (tupleKind (mixKind P w)) a xs := by
  obtain ⟨z, y, xs, r, o, es, ep, h1, h2, h3, h4, h5⟩ := (show ObjOk P w H h a (.dT kvs) from rd_of ok e)
  refine ⟨z, y, xs, r, o, es, ep, h1, h2, h3, h4, fun x hx => ?_, h5⟩
  have all : ∀ {l : List (List Key × V)} {m : List (List Key × Addr × Value)}, KT H l m → ∀ x ∈ m, (tupleKind (mixKind P w)).is h x.1 x.2.1 := by
    intro l m q
    induction q with
    | nil => intro x hx; exact nomatch hx
    | @cons p q ps qs hq t ih =>
      intro x hx
      rcases List.mem_cons.mp hx with e | hx
      · subst e
        exact key_of ok (by rw [← hq.1]; exact hq.2.1)
      · exact ih x hx
  exact all r x hx
theorem dt_of {kvs : List (List Key × V)} (ok : HOk P w H h) (e : H a = some (.dT kvs)) : kvs.length ≤ sizeLine ∧ (a == sysModules) = false ∧
    ∃ xs, KT H kvs xs ∧ h.DictOfH (tupleKind (mixKind P w)) a xs := dt_rd ok (.inl e)
end

/-- what the dict at a holds at the key y -/
def DGet (H : Hp) (a : Addr) (y : V) (r : Option V) : Prop :=
  (∃ kvs k, Rd H a (.dK kvs) ∧ y = kV k ∧ r = valV kvs k) ∨ ∃ kvs k b, Rd H a (.dT kvs) ∧ y = .ref b ∧ H b = some (.tup (k.map kV)) ∧ r = valV kvs k
/-- the heap behind a[y] = v -/
def DPut (H : Hp) (a : Addr) (y v : V) (H' : Hp) : Prop :=
  (∃ kvs k, H a = some (.dK kvs) ∧ y = kV k ∧ kvs.length < sizeLine ∧ H' = upd H a (.dK (putK kvs k v))) ∨
  ∃ kvs k b, H a = some (.dT kvs) ∧ y = .ref b ∧ H b = some (.tup (k.map kV)) ∧ kvs.length < sizeLine ∧ H' = upd H a (.dT (putK kvs k v))
theorem DGet.k {H : Hp} {a : Addr} {kvs : List (Key × V)} {k : Key} (e : H a = some (.dK kvs)) : DGet H a (kV k) (valV kvs k) := .inl ⟨kvs, k, .inl e, rfl, rfl⟩
theorem DGet.t {H : Hp} {a b : Addr} {kvs : List (List Key × V)} {k : List Key} (e : H a = some (.dT kvs)) (eb : H b = some (.tup (k.map kV))) : DGet H a (.ref b) (valV kvs k) := .inr ⟨kvs, k, b, .inl e, rfl, eb, rfl⟩
theorem DPut.k {H : Hp} {a : Addr} {kvs : List (Key × V)} {k : Key} {v : V} (e : H a = some (.dK kvs)) (hl : kvs.length < sizeLine) : DPut H a (kV k) v (upd H a (.dK (putK kvs k v))) := .inl ⟨kvs, k, e, rfl, hl, rfl⟩
theorem DPut.t {H : Hp} {a b : Addr} {kvs : List (List Key × V)} {k : List Key} {v : V} (e : H a = some (.dT kvs)) (eb : H b = some (.tup (k.map kV))) (hl : kvs.length < sizeLine) :
    DPut H a (.ref b) v (upd H a (.dT (putK kvs k v))) := .inr ⟨kvs, k, b, e, rfl, eb, hl, rfl⟩


section
variable {X : Cx} {pins : List (Addr × Obj)} {σ : St} {H : Hp} {s : Shared} {a : Addr} {y v : V} {u r : Value} {o : Option V} {A : Around} {E : Value → Shared → Prop}

theorem Inv.big (I : Inv X pins σ H s) : sysModules < s.heap.objs.size := by
  have h : mainGlobals < s.heap.objs.size := (I.mod.glob.keeps I.bk).lt
  exact Nat.lt_trans (by decide) h

/-- d[y], there -/
theorem d_getItem {Q : Value → Shared → Prop} (hu : A.units + 1 < cLine) (I : Inv X pins σ H s) (g : DGet H a y (some v)) (ry : RelV y u) (h : ∀ w' s', Inv X pins σ H s' → RelV v w' → Q w' s') :
    wpAny (model X.prog X.w) A (getItem (.ref a) u) Q E s := by
  rcases g with ⟨kvs, k, e, ey, l⟩ | ⟨kvs, k, b, e, ey, eb, l⟩
  · subst ey
    obtain ⟨z, hd, vs, rel, dd⟩ := dk_rd I.hok e
    obtain ⟨w', hw, rw'⟩ := RelO.some_of (v := v) (o := valueAt vs k) (by rw [l]; exact rel.val k)
    exact wpAny_getItem_of (kV_is ry) dd.mapOf hw (h w' _ (I.tok _) rw')
  · subst ey
    cases (show u = Value.ref b from ry)
    obtain ⟨z, hd, xs, rel, dd⟩ := dt_rd I.hok e
    obtain ⟨w', hw, rw'⟩ := RelO.some_of (v := v) (o := (atKey xs k).map (·.2)) (by rw [l]; exact rel.val k)
    obtain ⟨p, hp, hp2⟩ := Option.map_eq_some_iff.mp hw
    refine wpAny_getItem_heap (tupleKind_room_in1 hu) (key_of I.hok eb) dd hp ?_
    rw [hp2]
    exact h w' _ (I.tok _) rw'
/-- y in d -/
theorem d_in {Q : Value → Shared → Prop} (hu : A.units + 1 < cLine) (I : Inv X pins σ H s) (g : DGet H a y o) (ry : RelV y u) (h : ∀ s', Inv X pins σ H s' → Q (.bool o.isSome) s') :
    wpAny (model X.prog X.w) A (compareOp .In u (.ref a)) Q E s := by
  rcases g with ⟨kvs, k, e, ey, l⟩ | ⟨kvs, k, b, e, ey, eb, l⟩
  · subst ey
    obtain ⟨z, hd, vs, rel, dd⟩ := dk_rd I.hok e
    refine wpAny_in_of (kV_is ry) hd dd.mapOf ?_
    rw [← (rel.val k).isSome_eq, ← l]
    exact h _ (I.tok _)
  · subst ey
    cases (show u = Value.ref b from ry)
    obtain ⟨z, hd, xs, rel, dd⟩ := dt_rd I.hok e
    refine wpAny_in_heap (tupleKind_room_in1 hu) (key_of I.hok eb) hd dd ?_
    have q := (rel.val k).isSome_eq
    rw [Option.isSome_map] at q
    rw [← q, ← l]
    exact h _ (I.tok _)
theorem d_notIn {Q : Value → Shared → Prop} (hu : A.units + 1 < cLine) (I : Inv X pins σ H s) (g : DGet H a y o) (ry : RelV y u) (h : ∀ s', Inv X pins σ H s' → Q (.bool (!o.isSome)) s') :
    wpAny (model X.prog X.w) A (compareOp .NotIn u (.ref a)) Q E s := by
  rcases g with ⟨kvs, k, e, ey, l⟩ | ⟨kvs, k, b, e, ey, eb, l⟩
  · subst ey
    obtain ⟨z, hd, vs, rel, dd⟩ := dk_rd I.hok e
    refine wpAny_notIn_of (kV_is ry) hd dd.mapOf ?_
    rw [← (rel.val k).isSome_eq, ← l]
    exact h _ (I.tok _)
  · subst ey
    cases (show u = Value.ref b from ry)
    obtain ⟨z, hd, xs, rel, dd⟩ := dt_rd I.hok e
    refine wpAny_notIn_heap (tupleKind_room_in1 hu) (key_of I.hok eb) hd dd ?_
    have q := (rel.val k).isSome_eq
    rw [Option.isSome_map] at q
    rw [← q, ← l]
    exact h _ (I.tok _)
/-- a dict's object is replaced -/
theorem d_write {h' : Heap} {t' : Nat} {ob : HO} (I : Inv X pins σ H s) (mu : Mut (H a)) (hs : Heap.SameBut a s.heap h') (he : ∃ q, h'.get? a = some q) (new : ObjOk X.prog X.w (upd H a ob) h' a ob) :
    Inv X pins σ (upd H a ob) { s with heap := h', toks := t' } :=
  I.write (x := a) (e := a) mu (.inl rfl) (fun b q hb z => (hs.2 b hb).trans z) he new
theorem dk_new {P : Program} {w : World} {H' : Hp} {h' : Heap} {kvs : List (Key × V)} {vs : List (Key × Value)} (z : kvs.length ≤ sizeLine) (hd : (a == sysModules) = false) (rel : KV kvs vs) (dd : h'.DictOf (mixKind P w) a vs) :
    ObjOk P w H' h' a (.dK kvs) := ⟨z, hd, vs, rel, dd⟩
/-- d[y] = v -/
theorem d_setItem {H' : Hp} {Q : Unit → Shared → Prop} (hu : A.units + 1 < cLine) (I : Inv X pins σ H s) (g : DPut H a y v H') (ry : RelV y u) (rv : RelV v r) (h : ∀ s', Inv X pins σ H' s' → Q () s') :
    wpAny (model X.prog X.w) A (setItem (.ref a) u r) Q E s := by
  rcases g with ⟨kvs, k, e, ey, l, eH⟩ | ⟨kvs, k, b, e, ey, eb, l, eH⟩
  · subst ey eH
    obtain ⟨z, hd, vs, rel, dd⟩ := dk_of I.hok e
    have hz : vs.length ≤ sizeLine := by rw [← rel.length]; exact z
    have hl : (putK kvs k v).length ≤ sizeLine := by have := length_putK kvs k v; omega
    refine wpAny_setItem_pairs (hsz := hz) (kV_is ry) dd fun h' dd' hs => h _ ?_
    have he : ∃ q, h'.get? a = some q := let ⟨q, _, _, hq, _⟩ := dd'; ⟨q, hq⟩
    exact d_write I (by rw [e]; exact True.intro) hs he (dk_new hl hd (rel.put k rv) dd')
  · subst ey eH
    cases (show u = Value.ref b from ry)
    obtain ⟨z, hd, xs, rel, dd⟩ := dt_of I.hok e
    have hz : xs.length ≤ sizeLine := by rw [← Paired.length rel]; exact z
    have hl : (putK kvs k v).length ≤ sizeLine := by have := length_putK kvs k v; omega
    refine wpAny_setItem_heap (hsz := hz) (tupleKind_room_in1 hu) (key_of I.hok eb) dd fun h' dd' hs => h _ ?_
    obtain ⟨q, es, ep, hq, h2, h3, h4, _, h5⟩ := dd'
    refine d_write I (by rw [e]; exact True.intro) hs ⟨q, hq⟩ ⟨hl, hd, _, (rel.put k eb rv).keeps fun c ys ec => ?_, q, es, ep, hq, h2, h3, h4, h5⟩
    rw [upd_ne (ne_of ec e (fun z => nomatch z))]
    exact ec
end

section
variable {X : Cx} {pins : List (Addr × Obj)} {σ : St} {H : Hp} {s : Shared} {a : Addr} {kvs : List (Key × V)} {k : Key} {u : Value} {A : Around} {E : Value → Shared → Prop}
/-- del d[k] -/
theorem d_delItem {Q : Unit → Shared → Prop} (I : Inv X pins σ H s) (e : H a = some (.dK kvs)) (ry : RelV (kV k) u) (l : (valV kvs k).isSome = true) (h : ∀ s', Inv X pins σ (upd H a (.dK (dropK kvs k))) s' → Q () s') :
    wpAny (model X.prog X.w) A (delItem (.ref a) u) Q E s := by
  obtain ⟨z, hd, vs, rel, dd⟩ := dk_of I.hok e
  refine wpAny_delItem_slot dd.typeIs (by decide) PySem.F.slot_dict_delitem
    (call_meetsIn PySem.F.slot_dict_delitem dd.typeIs PySem.F.entry_dict_delitem (PySem.F.args_dict_delitem_2 _ _) (meets_dict_delitem_pairs (mixKind X.prog X.w) a (kV_is ry)) ⟨vs, dd, by rw [← rel.length]; exact z, by rw [← (rel.val k).isSome_eq]; exact l, fun h' dd' hs => h _ ?_⟩)
  have he : ∃ q, h'.get? a = some q := let ⟨q, _, _, hq, _⟩ := dd'; ⟨q, hq⟩
  exact d_write I (by rw [e]; exact True.intro) hs he (dk_new (Nat.le_trans (dropK_le kvs k) z) hd (rel.drop k) dd')
/-- d.pop(k[, x]), there -/
theorem d_pop {v : V} {more : List Value} {Q : Value → Shared → Prop} (I : Inv X pins σ H s) (e : H a = some (.dK kvs)) (ry : RelV (kV k) u) (l : valV kvs k = some v) (hm : more = [] ∨ ∃ x, more = [x])
    (h : ∀ w' s', Inv X pins σ (upd H a (.dK (dropK kvs k))) s' → RelV v w' → Q w' s') : wpAny (model X.prog X.w) A (call (.builtin "dict.pop") (.ref a :: u :: more)) Q E s := by
  obtain ⟨z, hd, vs, rel, dd⟩ := dk_of I.hok e
  obtain ⟨w', hw, rw'⟩ := RelO.some_of (v := v) (o := valueAt vs k) (by rw [← l]; exact rel.val k)
  have hp : (keyPart u).isSome = true := by
    cases k with
    | inl i => obtain ⟨t, q⟩ := (show ∃ t, u = Value.int i t from ry); subst q; rfl
    | inr x => obtain ⟨t, q⟩ := (show ∃ t, u = Value.str x t from ry); subst q; rfl
  have ha : argsOk "dict.pop" ⟨.ref a :: u :: more, []⟩ := by
    rcases hm with q | ⟨x, q⟩
    · subst q; exact PySem.F.args_dict_pop_2 _ _
    · subst q; exact PySem.F.args_dict_pop_3 _ _ _
  refine call_meetsIn PySem.F.slot_dict_pop dd.typeIs PySem.F.entry_dict_pop ha (meets_dict_pop_there (mixKind X.prog X.w) a (kV_is ry) more hm hp)
    ⟨vs, w', dd, by rw [← rel.length]; exact z, hw, fun h' dd' hs => h w' _ ?_ rw'⟩
  have he : ∃ q, h'.get? a = some q := let ⟨q, _, _, hq, _⟩ := dd'; ⟨q, hq⟩
  exact d_write I (by rw [e]; exact True.intro) hs he (dk_new (Nat.le_trans (dropK_le kvs k) z) hd (rel.drop k) dd')
/-- d.pop(k, x), not there -/
theorem d_popD {r : Value} {Q : Value → Shared → Prop} (I : Inv X pins σ H s) (e : H a = some (.dK kvs)) (ry : RelV (kV k) u) (l : valV kvs k = none) (h : ∀ s', Inv X pins σ H s' → Q r s') :
    wpAny (model X.prog X.w) A (call (.builtin "dict.pop") [.ref a, u, r]) Q E s := by
  obtain ⟨z, hd, vs, rel, dd⟩ := dk_of I.hok e
  have hn : valueAt vs k = none := RelO.none_of (by rw [← l]; exact rel.val k)
  have hp : (keyPart u).isSome = true := by
    cases k with
    | inl i => obtain ⟨t, q⟩ := (show ∃ t, u = Value.int i t from ry); subst q; rfl
    | inr x => obtain ⟨t, q⟩ := (show ∃ t, u = Value.str x t from ry); subst q; rfl
  exact call_meetsIn PySem.F.slot_dict_pop dd.typeIs PySem.F.entry_dict_pop (PySem.F.args_dict_pop_3 _ _ _) (meets_dict_pop_default (mixKind X.prog X.w) a (kV_is ry) hd hp r) ⟨vs, dd, hn, h _ (I.tok _)⟩
/-- d.clear() -/
theorem d_clear {Q : Value → Shared → Prop} (I : Inv X pins σ H s) (e : H a = some (.dK kvs)) (h : ∀ s', Inv X pins σ (upd H a (.dK [])) s' → Q .none s') : wpAny (model X.prog X.w) A (call (.builtin "dict.clear") [.ref a]) Q E s := by
  obtain ⟨z, hd, vs, rel, dd⟩ := dk_of I.hok e
  refine call_meetsIn PySem.F.slot_dict_clear dd.typeIs PySem.F.entry_dict_clear (PySem.F.args_dict_clear_1 _) (meets_dict_clear (mixKind X.prog X.w) a) ⟨vs, dd, by rw [← rel.length]; exact z, fun h' dd' hs => h _ ?_⟩
  have he : ∃ q, h'.get? a = some q := let ⟨q, _, _, hq, _⟩ := dd'; ⟨q, hq⟩
  exact d_write (t' := s.toks) I (by rw [e]; exact True.intro) hs he (dk_new (Nat.zero_le _) hd .nil dd')
/-- len(d) -/
theorem d_len {Q : Value → Shared → Prop} (I : Inv X pins σ H s) (e : Rd H a (.dK kvs)) (h : ∀ t s', Inv X pins σ H s' → Q (.int kvs.length t) s') : wpAny (model X.prog X.w) A (call (.builtin "len") [.ref a]) Q E s := by
  obtain ⟨z, hd, vs, rel, dd⟩ := dk_rd I.hok e
  refine call_len_dict hd dd (by rw [← rel.length]; rw [sizeLine_eq] at z; omega) ?_
  rw [← rel.length]
  exact h _ _ (I.tok _)
/-- if d -/
theorem d_truth {Q : Bool → Shared → Prop} (I : Inv X pins σ H s) (e : Rd H a (.dK kvs)) (h : ∀ s', Inv X pins σ H s' → Q (!kvs.isEmpty) s') : wpAny (model X.prog X.w) A (truthy (.ref a)) Q E s := by
  obtain ⟨z, hd, vs, rel, dd⟩ := dk_rd I.hok e
  refine wpAny_truthy_dict hd dd (by rw [← rel.length]; rw [sizeLine_eq] at z; omega) ?_
  have q : kvs.isEmpty = vs.isEmpty := by cases rel <;> rfl
  rw [← q]
  exact h _ (I.tok _)
end


/-! ### readings and rules -/
/-- the element of a subscription, not a slice -/
def NoSl (i : Expr) : Prop := ∀ ov iv, subscripted i false ov iv = operate [ov, iv] (getItem ov iv)
theorem subD_of {prog : Program} {w : World} {A : Around} {E : Value → Shared → Prop} {s : Shared} {env : Env} {value slice : Expr} {pos : Pos} {T id : String} {Q : Value → Shared → Prop}
    (hl : typeLookup (.type T) "__getitem__" = pure (some (.builtin id))) (hs : NoSl slice)
    (h : wpAny (model prog w) A (eval value env) (fun o s₁ => wpAny (model prog w) A (eval slice env) (fun i s₂ => s₂.TypeIs o T ∧ wpAny (model prog w) A (getItem o i) Q E s₂) E s₁) E s) :
    wpAny (model prog w) A (eval (.Subscript value slice pos) env) Q E s := by
  refine Subscript_ (wpAny_mono h (fun o s₁ h₁ => wpAny_mono h₁ (fun i s₂ h₂ => ?_) fun _ _ x => x) fun _ _ x => x)
  obtain ⟨hT, h₂⟩ := h₂
  unfold subscriptTail
  refine wpAny_bind ?_
  rw [getitemInPython_of_ne hT.not_modules]
  refine wpAny_bind (wpAny_specialOf hT hl ?_)
  have fin : wpAny (model prog w) A (subscripted slice false o i) (fun r s₃ => wpAny (model prog w) A (letTemporaryGo value o r >>= fun _ => pure r) Q E s₃) E s₂ := by
    rw [hs o i]
    exact wpAny_operating (wpAny_mono h₂ (fun r s₃ h₃ => wpAny_bind (wpAny_letTemporaryGo (wpAny_pure h₃))) fun _ _ x => x)
  first
    | exact wpAny_pure (wpAny_bind fin)
    | exact wpAny_bind (wpAny_pure (wpAny_bind fin))
    | exact wpAny_bind fin

theorem dict_typeIs {X : Cx} {pins : List (Addr × Obj)} {σ : St} {H : Hp} {s : Shared} {a : Addr} {y : V} {o : Option V} (I : Inv X pins σ H s) (g : DGet H a y o) : s.TypeIs (.ref a) "dict" := by
  rcases g with ⟨kvs, k, e, _, _⟩ | ⟨kvs, k, b, e, _, _, _⟩
  · obtain ⟨_, _, vs, _, dd⟩ := dk_rd I.hok e
    exact dd.typeIs
  · obtain ⟨_, _, xs, _, dd⟩ := dt_rd I.hok e
    exact dd.typeIs
theorem dict_noDict {X : Cx} {pins : List (Addr × Obj)} {σ : St} {H : Hp} {s : Shared} {a : Addr} {y : V} {o : Option V} (I : Inv X pins σ H s) (g : DGet H a y o) :
    ∀ b, Value.ref a = .ref b → ∃ ob, s.heap.get? b = some ob ∧ ob.dict = none := fun b q => by
  cases q
  rcases g with ⟨kvs, k, e, _, _⟩ | ⟨kvs, k, b, e, _, _, _⟩
  · obtain ⟨_, _, vs, _, ob, _, _, h1, h2, _⟩ := dk_rd I.hok e
    exact ⟨ob, h1, h2.2.1⟩
  · obtain ⟨_, _, xs, _, ob, _, _, h1, h2, _⟩ := dt_rd I.hok e
    exact ⟨ob, h1, h2.2.1⟩

/-- d[y] -/
def tDGet (td ty : TE) : TE := fun σ H Q => td σ H fun x H1 => ty σ H1 fun y H2 => ∃ a v, x = .ref a ∧ DGet H2 a y (some v) ∧ Q v H2
/-- y in d, y not in d -/
def tDIn (ty td : TE) : TE := fun σ H Q => ty σ H fun y H1 => td σ H1 fun x H2 => ∃ a o, x = .ref a ∧ DGet H2 a y o ∧ Q (.bl o.isSome) H2
def tDNotIn (ty td : TE) : TE := fun σ H Q => ty σ H fun y H1 => td σ H1 fun x H2 => ∃ a o, x = .ref a ∧ DGet H2 a y o ∧ Q (.bl (!o.isSome)) H2
/-- d[y] = v -/
def sDPut (td ty tv : TE) : TS := fun D σ H => tv σ H fun v H1 => td σ H1 fun x H2 => ty σ H2 fun y H3 => ∃ a H4, x = .ref a ∧ DPut H3 a y v H4 ∧ D.nx σ H4
/-- d[y] op= v -/
def sDAug (td ty tv : TE) (rd : V → V → Hp → VK → Prop) : TS := fun D σ H => td σ H fun x H1 => ty σ H1 fun y H2 => ∃ a v, x = .ref a ∧ DGet H2 a y (some v) ∧
  tv σ H2 fun y2 H3 => rd v y2 H3 fun z H4 => ∃ H5, DPut H4 a y z H5 ∧ D.nx σ H5
/-- del d[y] -/
def sDDel (td ty : TE) : TS := fun D σ H => td σ H fun x H1 => ty σ H1 fun y H2 => ∃ a kvs k, x = .ref a ∧ H2 a = some (.dK kvs) ∧ y = kV k ∧ (valV kvs k).isSome = true ∧ D.nx σ (upd H2 a (.dK (dropK kvs k)))

section
variable {X : Cx} {o i e value : Expr} {pos pos' tpos : Pos} {td ty tv : TE}
theorem pe_dget (hu : X.A.units + 1 < cLine) (ho : PE X o td) (hi : PE X i ty) (hs : NoSl i) : PE X (.Subscript o i pos) (tDGet td ty) := by
  intro pins s σ H Q I h
  refine subD_of PySem.F.slot_dict_getitem.lookup hs (thn (ho pins s σ H _ I h) fun u s1 ⟨x, H1, I1, rx, q1⟩ => thn (hi pins s1 σ H1 _ I1 q1) fun iv s2 ⟨y, H2, I2, ry, a, v, ex, g, q2⟩ => ?_)
  subst ex
  obtain rfl : u = Value.ref a := rx
  exact ⟨dict_typeIs I2 g, d_getItem hu I2 g ry fun w' s3 I3 rw' => ⟨v, H2, I3, rw', q2⟩⟩
theorem pc_din (hu : X.A.units + 1 < cLine) (hi : PE X i ty) (ho : PE X o td) : PC X .In i o (tDIn ty td) := by
  intro pins s σ H Q I h
  refine thn (hi pins s σ H _ I h) fun iv s1 ⟨y, H1, I1, ry, q1⟩ => thn (ho pins s1 σ H1 _ I1 q1) fun u s2 ⟨x, H2, I2, rx, a, ov, ex, g, q2⟩ => ?_
  subst ex
  obtain rfl : u = Value.ref a := rx
  exact d_in hu I2 g ry fun s3 I3 => ⟨.bl ov.isSome, H2, I3, rfl, q2⟩
theorem pc_dnotin (hu : X.A.units + 1 < cLine) (hi : PE X i ty) (ho : PE X o td) : PC X .NotIn i o (tDNotIn ty td) := by
  intro pins s σ H Q I h
  refine thn (hi pins s σ H _ I h) fun iv s1 ⟨y, H1, I1, ry, q1⟩ => thn (ho pins s1 σ H1 _ I1 q1) fun u s2 ⟨x, H2, I2, rx, a, ov, ex, g, q2⟩ => ?_
  subst ex
  obtain rfl : u = Value.ref a := rx
  exact d_notIn hu I2 g ry fun s3 I3 => ⟨.bl (!ov.isSome), H2, I3, rfl, q2⟩
theorem ps_dput (hu : X.A.units + 1 < cLine) (ho : PE X o td) (hi : PE X i ty) (hv : PE X value tv) (hs : swapsWith value (some (.Subscript o i pos')) pos.line X.env = pure false) :
    PS X (.Assign [.Subscript o i pos'] value pos) (sDPut td ty tv) := by
  intro pins s σ H D I h
  refine wpAny_Assign_Subscript (thn (hv pins s σ H _ I h) fun r s1 ⟨v, H1, I1, rv, q1⟩ => thn (ho pins s1 σ H1 _ I1 q1) fun u s2 ⟨x, H2, I2, rx, q2⟩ => thn (hi pins s2 σ H2 _ I2 q2) fun iv s3 ⟨y, H3, I3, ry, a, H4, ex, g, q3⟩ => ?_) hs
  subst ex
  obtain rfl : u = Value.ref a := rx
  exact d_setItem hu I3 g ry rv fun s4 I4 => ⟨σ, H4, I4, q3⟩
theorem ps_daug {op : Operator} {rd : V → V → Hp → VK → Prop} (hu : X.A.units + 1 < cLine) (ho : PE X o td) (hi : PE X i ty) (hv : PE X value tv) (hop : InOp X op rd)
    (ha : ∀ ov iv new, augStore i ov iv new = (do holding [new, ov, iv] (setItem ov iv new); release [new, ov, iv] []; pure .next)) : PS X (.AugAssign (.Subscript o i tpos) op value pos) (sDAug td ty tv rd) := by
  intro pins s σ H D I h
  refine wpAny_AugAssign_SubscriptAny (thn (ho pins s σ H _ I h) fun u s1 ⟨x, H1, I1, rx, q1⟩ => thn (hi pins s1 σ H1 _ I1 q1) fun iv s2 ⟨y, H2, I2, ry, a, v, ex, g, q2⟩ => ?_) ha
  subst ex
  obtain rfl : u = Value.ref a := rx
  refine d_getItem hu I2 g ry fun w' s3 I3 rw' => thn (hv pins s3 σ H2 _ I3 q2) fun w2 s4 ⟨y2, H3, I4, ry2, q3⟩ => thn (hop pins s4 σ H3 v y2 w' w2 _ I4 rw' ry2 q3) fun w3 s5 ⟨z, H4, I5, rz, H5, g5, q4⟩ => ?_
  exact d_setItem hu I5 g5 ry rz fun s6 I6 => ⟨σ, H5, I6, q4⟩
theorem ps_ddel (ho : PE X o td) (hi : PE X i ty) : PS X (.Delete [.Subscript o i tpos] pos) (sDDel td ty) := by
  intro pins s σ H D I h
  refine wpAny_Delete (wpAny_deleteEach_cons (wpAny_delete_Subscript (thn (ho pins s σ H _ I h) fun u s1 ⟨x, H1, I1, rx, q1⟩ => thn (hi pins s1 σ H1 _ I1 q1) fun iv s2 ⟨y, H2, I2, ry, a, kvs, k, ex, e, ey, l, q2⟩ => ?_)))
  subst ex ey
  obtain rfl : u = Value.ref a := rx
  exact d_delItem I2 e ry l fun s3 I3 => wpAny_deleteEach_nil ⟨σ, _, I3, q2⟩
end


/-! ### displays -/
theorem dk_empty {P : Program} {w : World} {H : Hp} (h : Heap) (hb : sysModules < h.objs.size) : ObjOk P w H (h.push { cls := .type "dict", data := .dict #[] }) h.objs.size (.dK []) :=
  ⟨Nat.zero_le _, beq_eq_false_iff_ne.mpr (Ne.symm (Nat.ne_of_lt hb)), [], .nil, Heap.DictOf.new h⟩
theorem dt_empty {P : Program} {w : World} {H : Hp} (h : Heap) (hb : sysModules < h.objs.size) : ObjOk P w H (h.push { cls := .type "dict", data := .dict #[] }) h.objs.size (.dT []) :=
  ⟨Nat.zero_le _, beq_eq_false_iff_ne.mpr (Ne.symm (Nat.ne_of_lt hb)), [], .nil, _, #[], 0, Heap.get?_push_size _ rfl, ⟨rfl, rfl, rfl⟩, rfl, rfl, List.nodup_nil⟩
/-- {}, to be a dict of the kind that is wanted -/
def tDNewK : TE := fun _ H Q => ∀ p, H p = none → Q (.ref p) (upd H p (.dK []))
def tDNewT : TE := fun _ H Q => ∀ p, H p = none → Q (.ref p) (upd H p (.dT []))
section
variable {X : Cx} {pos : Pos}
theorem pe_dnewK : PE X (.Dict [] [] pos) tDNewK := fun pins s σ H Q I h =>
  wpAny_Dict_empty ⟨.ref s.heap.objs.size, _, I.laid (a := s.heap.objs.size) (o := .dK []) (t' := s.toks) (fun _ _ q => Heap.get?_push_of_some _ q) (Nat.le_refl _) (dk_empty s.heap I.big), rfl, h _ (I.hok.fresh (Nat.le_refl _))⟩
theorem pe_dnewT : PE X (.Dict [] [] pos) tDNewT := fun pins s σ H Q I h =>
  wpAny_Dict_empty ⟨.ref s.heap.objs.size, _, I.laid (a := s.heap.objs.size) (o := .dT []) (t' := s.toks) (fun _ _ q => Heap.get?_push_of_some _ q) (Nat.le_refl _) (dt_empty s.heap I.big), rfl, h _ (I.hok.fresh (Nat.le_refl _))⟩
end

/-- the pairs of a display, from the left -/
def tPairs : List (TE × TE) → St → Hp → (List (V × V) → Hp → Prop) → Prop
  | [], _, H, Q => Q [] H
  | (tk, tv) :: r, σ, H, Q => tk σ H fun x H1 => tv σ H1 fun y H2 => tPairs r σ H2 fun ps H3 => Q ((x, y) :: ps) H3
abbrev VV : List (V × V) → List (Value × Value) → Prop := Paired fun p q => RelV p.1 q.1 ∧ RelV p.2 q.2
def PPs (X : Cx) (pos : Pos) (keys : List (Option Expr)) (values : List Expr) (trs : List (TE × TE)) : Prop :=
  ∀ (pins : List (Addr × Obj)) (s : Shared) (σ : St) (H : Hp) (Q : List (V × V) → Hp → Prop), Inv X pins σ H s → tPairs trs σ H Q →
    wpAny (model X.prog X.w) X.A (evalPairs (pairTrees keys values X.env pos)) (fun vs s' => ∃ ps H', Inv X pins σ H' s' ∧ VV ps vs ∧ Q ps H') X.xe s
theorem pps_nil {X : Cx} {pos : Pos} : PPs X pos [] [] [] := fun pins s σ H Q I h => pairTrees_nil_walk ⟨[], H, I, .nil, h⟩
theorem pps_cons {X : Cx} {pos : Pos} {k v : Expr} {ks : List (Option Expr)} {vs : List Expr} {tk tv : TE} {trs : List (TE × TE)} (hk : PE X k tk) (hv : PE X v tv) (hr : PPs X pos ks vs trs) :
    PPs X pos (some k :: ks) (v :: vs) ((tk, tv) :: trs) := fun pins s σ H Q I h =>
  pairTrees_cons_walk (thn (hk pins s σ H _ I h) fun u s1 ⟨x, H1, I1, rx, q1⟩ => thn (hv pins s1 σ H1 _ I1 q1) fun w2 s2 ⟨y, H2, I2, ry, q2⟩ =>
    thn (hr pins s2 σ H2 _ I2 q2) fun ws s3 ⟨ps, H3, I3, rel, q3⟩ => ⟨(x, y) :: ps, H3, I3, .cons ⟨rx, ry⟩ rel, q3⟩)

def mergeK (kvs more : List (Key × V)) : List (Key × V) := more.foldl (fun acc kv => putK acc kv.1 kv.2) kvs
theorem KV.merge : ∀ {more : List (Key × V)} {rs : List (Key × Value)} {kvs : List (Key × V)} {vs : List (Key × Value)}, KV more rs → KV kvs vs → KV (mergeK kvs more) (merged vs rs) := by
  intro more rs kvs vs r
  unfold KV at r
  induction r generalizing kvs vs with
  | nil => intro q; exact q
  | @cons p q ps qs h t ih =>
    intro r0
    have e : KV (putK kvs p.1 p.2) (stored vs q.1 q.2) := by
      have := r0.put p.1 h.2
      rw [← h.1]; exact this
    exact ih e
theorem length_mergeK : ∀ (more kvs : List (Key × V)), (mergeK kvs more).length ≤ kvs.length + more.length
  | [], kvs => by show kvs.length ≤ kvs.length + 0; omega
  | p :: r, kvs => by
    have h1 := length_mergeK r (putK kvs p.1 p.2)
    have h2 := length_putK kvs p.1 p.2
    show (mergeK (putK kvs p.1 p.2) r).length ≤ _
    rw [List.length_cons]; omega
theorem carries_of {P : Program} {w : World} : ∀ {kvs : List (Key × V)} {ws : List (Value × Value)}, VV (kvs.map fun kv => (kV kv.1, kv.2)) ws → ∃ rs, Carries (mixKind P w) ws rs ∧ KV kvs rs
  | [], _, r => by rw [List.map_nil] at r; cases r; exact ⟨[], True.intro, .nil⟩
  | p :: kvs, _, r => by
    rw [List.map_cons] at r
    cases r with
    | @cons a b as bs h t =>
      obtain ⟨rs, c, q⟩ := carries_of (P := P) (w := w) t
      obtain ⟨b1, b2⟩ := b
      exact ⟨(p.1, b2) :: rs, ⟨kV_is h.1, rfl, c⟩, .cons ⟨rfl, h.2⟩ q⟩
/-- {k: v, ..} with keys ints and texts; the new dict stands empty while the pairs are made -/
def tDisp (trs : List (TE × TE)) : TE := fun σ H Q => ∀ p, H p = none → tPairs trs σ (upd H p (.dK [])) fun ps H2 => H2 p = some (.dK []) ∧ ∃ kvs : List (Key × V), ps = kvs.map (fun kv => (kV kv.1, kv.2)) ∧ kvs.length ≤ 15 ∧ Q (.ref p) (upd H2 p (.dK (mergeK [] kvs)))
theorem pe_disp {X : Cx} {pos : Pos} {keys : List (Option Expr)} {values : List Expr} {trs : List (TE × TE)} (h : PPs X pos keys values trs) (hall : keys.all (·.isSome) = true) (hl : keys.length = values.length) (h0 : keys ≠ [])
    (h15 : keys.length ≤ 15) : PE X (.Dict keys values pos) (tDisp trs) := by
  intro pins s σ H Q I q
  have hn := I.hok.fresh (Nat.le_refl s.heap.objs.size)
  have I1 := I.laid (a := s.heap.objs.size) (o := .dK []) (h' := s.heap.push { cls := .type "dict", data := .dict #[] }) (t' := s.toks) (fun _ _ q => Heap.get?_push_of_some _ q) (Nat.le_refl _) (dk_empty s.heap I.big)
  refine wpAny_Dict_walk (knd := mixKind X.prog X.w) hall hl h0 h15 (thn (h pins _ σ _ _ I1 (q _ hn)) fun ws s2 ⟨ps, H2, I2, rel, e, kvs, ep, lk, q2⟩ => ?_)
  subst ep
  obtain ⟨rs, c, rk⟩ := carries_of (P := X.prog) (w := X.w) rel
  obtain ⟨z, hd, vs0, r0, dd⟩ := dk_of I2.hok e
  cases r0
  refine ⟨rs, c, dd, fun h' dd' hs => ⟨.ref s.heap.objs.size, _, ?_, rfl, q2⟩⟩
  have hz : (mergeK [] kvs).length ≤ sizeLine := by
    have h1 := length_mergeK kvs []
    rw [List.length_nil] at h1
    rw [sizeLine_eq]; omega
  have he : ∃ q, h'.get? s.heap.objs.size = some q := let ⟨q, _, _, hq, _⟩ := dd'; ⟨q, hq⟩
  exact d_write I2 (by rw [e]; exact True.intro) hs he (dk_new hz hd (rk.merge .nil) dd')


/-! ### methods -/
/-- a method call o.m(e) of a built-in, with one argument: what must be seen of the text -/
structure M1 (X : Cx) (o : Expr) (m : Str) (apos : Pos) (e : Expr) (cpos : Pos) : Prop where
  base : attributeBase o m X.env (eval o X.env) = eval o X.env
  few : ((backTo cpos (starEach [e] X.env)).all (fun x => !x.1) && (backToKw cpos (keywordEach [] X.env)).all (fun x => x.1.isSome)
    && decide (([e] : List Expr).length + ([] : List Keyword).length + (if ([] : List Keyword).isEmpty then 0 else 1) < 30)) = true
  line : (apos.endLine == cpos.line) = true
  trees : backTo cpos (starEach [e] X.env) = [(false, eval e X.env)]
structure M2 (X : Cx) (o : Expr) (m : Str) (apos : Pos) (e f : Expr) (cpos : Pos) : Prop where
  base : attributeBase o m X.env (eval o X.env) = eval o X.env
  few : ((backTo cpos (starEach [e, f] X.env)).all (fun x => !x.1) && (backToKw cpos (keywordEach [] X.env)).all (fun x => x.1.isSome)
    && decide (([e, f] : List Expr).length + ([] : List Keyword).length + (if ([] : List Keyword).isEmpty then 0 else 1) < 30)) = true
  line : (apos.endLine == cpos.line) = true
  trees : backTo cpos (starEach [e, f] X.env) = [(false, eval e X.env), (false, eval f X.env)]

/-- a is a dict, whatever its keys -/
def IsD (H : Hp) (a : Addr) : Prop := (∃ kvs, Rd H a (.dK kvs)) ∨ ∃ kvs, Rd H a (.dT kvs)
theorem isD_at {X : Cx} {pins : List (Addr × Obj)} {σ : St} {H : Hp} {s : Shared} {a : Addr} (I : Inv X pins σ H s) (d : IsD H a) :
    s.TypeIs (.ref a) "dict" ∧ (∀ b, Value.ref a = .ref b → ∃ ob, s.heap.get? b = some ob ∧ ob.dict = none) ∧ (a == sysModules) = false := by
  rcases d with ⟨kvs, e⟩ | ⟨kvs, e⟩
  · obtain ⟨_, hd, vs, _, dd⟩ := dk_rd I.hok e
    refine ⟨dd.typeIs, fun b q => ?_, hd⟩
    cases q
    obtain ⟨ob, _, _, h1, h2, _⟩ := dd
    exact ⟨ob, h1, h2.2.1⟩
  · obtain ⟨_, hd, xs, _, dd⟩ := dt_rd I.hok e
    refine ⟨dd.typeIs, fun b q => ?_, hd⟩
    cases q
    obtain ⟨ob, _, _, h1, h2, _⟩ := dd
    exact ⟨ob, h1, h2.2.1⟩

section
variable {X : Cx} {pins : List (Addr × Obj)} {σ : St} {H : Hp} {s : Shared} {a : Addr} {y d : V} {u r : Value} {o : Option V} {A : Around} {E : Value → Shared → Prop}
/-- d.get(y) -/
theorem d_get1 {Q : Value → Shared → Prop} (hu : A.units + 1 < cLine) (I : Inv X pins σ H s) (g : DGet H a y o) (ry : RelV y u) (h : ∀ w' s', Inv X pins σ H s' → RelV (o.getD .non) w' → Q w' s') :
    wpAny (model X.prog X.w) A (call (.builtin "dict.get") [.ref a, u]) Q E s := by
  rcases g with ⟨kvs, k, e, ey, l⟩ | ⟨kvs, k, b, e, ey, eb, l⟩
  · subst ey
    obtain ⟨z, hd, vs, rel, dd⟩ := dk_rd I.hok e
    refine call_meetsIn PySem.F.slot_dict_get dd.typeIs PySem.F.entry_dict_get (PySem.F.args_dict_get_2 _ _) (meets_dict_get (mixKind X.prog X.w) a (kV_is ry) hd) ⟨_, dd.mapOf, h _ _ (I.tok _) ?_⟩
    rw [l]
    exact (rel.val k).getD rfl
  · subst ey
    cases (show u = Value.ref b from ry)
    obtain ⟨z, hd, xs, rel, dd⟩ := dt_rd I.hok e
    refine call_meetsIn PySem.F.slot_dict_get dd.typeIs PySem.F.entry_dict_get (PySem.F.args_dict_get_2 _ _) (meetsH_dict_get (tupleKind (mixKind X.prog X.w)) a b hd) ⟨tupleKind_room_in1 hu, k, xs, key_of I.hok eb, dd, h _ _ (I.tok _) ?_⟩
    rw [l]
    exact (rel.val k).getD rfl
/-- d.get(y, x) -/
theorem d_get2 {Q : Value → Shared → Prop} (hu : A.units + 1 < cLine) (I : Inv X pins σ H s) (g : DGet H a y o) (ry : RelV y u) (rd : RelV d r) (h : ∀ w' s', Inv X pins σ H s' → RelV (o.getD d) w' → Q w' s') :
    wpAny (model X.prog X.w) A (call (.builtin "dict.get") [.ref a, u, r]) Q E s := by
  rcases g with ⟨kvs, k, e, ey, l⟩ | ⟨kvs, k, b, e, ey, eb, l⟩
  · subst ey
    obtain ⟨z, hd, vs, rel, dd⟩ := dk_rd I.hok e
    refine call_meetsIn PySem.F.slot_dict_get dd.typeIs PySem.F.entry_dict_get (PySem.F.args_dict_get_3 _ _ _) (meets_dict_get_default (mixKind X.prog X.w) a (kV_is ry) hd r) ⟨_, dd.mapOf, h _ _ (I.tok _) ?_⟩
    rw [l]
    exact (rel.val k).getD rd
  · subst ey
    cases (show u = Value.ref b from ry)
    obtain ⟨z, hd, xs, rel, dd⟩ := dt_rd I.hok e
    refine call_meetsIn PySem.F.slot_dict_get dd.typeIs PySem.F.entry_dict_get (PySem.F.args_dict_get_3 _ _ _) (meetsH_dict_get_default (tupleKind (mixKind X.prog X.w)) a b hd r) ⟨tupleKind_room_in1 hu, k, xs, key_of I.hok eb, dd, h _ _ (I.tok _) ?_⟩
    rw [l]
    exact (rel.val k).getD rd
end

def tDGet1 (td ty : TE) : TE := fun σ H Q => td σ H fun x H1 => ∃ a, x = .ref a ∧ IsD H1 a ∧ ty σ H1 fun y H2 => ∃ o, DGet H2 a y o ∧ Q (o.getD .non) H2
def tDGet2 (td ty tx : TE) : TE := fun σ H Q => td σ H fun x H1 => ∃ a, x = .ref a ∧ IsD H1 a ∧ ty σ H1 fun y H2 => tx σ H2 fun z H3 => ∃ o, DGet H3 a y o ∧ Q (o.getD z) H3
/-- d.pop(k): there; d.pop(k, x): there or not -/
def tDPop1 (td ty : TE) : TE := fun σ H Q => td σ H fun x H1 => ∃ a, x = .ref a ∧ IsD H1 a ∧ ty σ H1 fun y H2 => ∃ kvs k v, H2 a = some (.dK kvs) ∧ y = kV k ∧ valV kvs k = some v ∧ Q v (upd H2 a (.dK (dropK kvs k)))
def tDPop2 (td ty tx : TE) : TE := fun σ H Q => td σ H fun x H1 => ∃ a, x = .ref a ∧ IsD H1 a ∧ ty σ H1 fun y H2 => tx σ H2 fun z H3 => ∃ kvs k, H3 a = some (.dK kvs) ∧ y = kV k ∧
  (∀ v, valV kvs k = some v → Q v (upd H3 a (.dK (dropK kvs k)))) ∧ (valV kvs k = none → Q z H3)
section
variable {X : Cx} {o e f : Expr} {apos cpos : Pos} {td ty tx : TE}
theorem pe_dget1 (hu : X.A.units + 1 < cLine) (ho : PE X o td) (he : PE X e ty) (m : M1 X o "get" apos e cpos) : PE X (.Call (.Attribute o "get" apos) [e] [] cpos) (tDGet1 td ty) := by
  intro pins s σ H Q I h
  refine wpAny_Call_method m.base m.few m.line PySem.F.plainAttrs_dict PySem.F.slot_dict_get PySem.F.type_dict_get (thn (ho pins s σ H _ I h) fun u s1 ⟨x, H1, I1, rx, a, ex, d, q1⟩ => ?_)
  subst ex
  obtain rfl : u = Value.ref a := rx
  obtain ⟨t1, t2, _⟩ := isD_at I1 d
  refine ⟨t1, t2, ?_⟩
  rw [m.trees]
  refine Calls.callWith_builtin rfl (Calls.evalArgs_plain (Calls.spliced_cons (thn (he pins s1 σ H1 _ I1 q1) fun iv s2 ⟨y, H2, I2, ry, ov, g, q2⟩ => Calls.spliced_nil ?_)))
  exact d_get1 hu I2 g ry fun w' s3 I3 rw' => ⟨_, H2, I3, rw', q2⟩
theorem pe_dget2 (hu : X.A.units + 1 < cLine) (ho : PE X o td) (he : PE X e ty) (hf : PE X f tx) (m : M2 X o "get" apos e f cpos) : PE X (.Call (.Attribute o "get" apos) [e, f] [] cpos) (tDGet2 td ty tx) := by
  intro pins s σ H Q I h
  refine wpAny_Call_method m.base m.few m.line PySem.F.plainAttrs_dict PySem.F.slot_dict_get PySem.F.type_dict_get (thn (ho pins s σ H _ I h) fun u s1 ⟨x, H1, I1, rx, a, ex, d, q1⟩ => ?_)
  subst ex
  obtain rfl : u = Value.ref a := rx
  obtain ⟨t1, t2, _⟩ := isD_at I1 d
  refine ⟨t1, t2, ?_⟩
  rw [m.trees]
  refine Calls.callWith_builtin rfl (Calls.evalArgs_plain (Calls.spliced_cons (thn (he pins s1 σ H1 _ I1 q1) fun iv s2 ⟨y, H2, I2, ry, q2⟩ =>
    Calls.spliced_cons (thn (hf pins s2 σ H2 _ I2 q2) fun fv s3 ⟨z, H3, I3, rz, ov, g, q3⟩ => Calls.spliced_nil ?_))))
  exact d_get2 hu I3 g ry rz fun w' s4 I4 rw' => ⟨_, H3, I4, rw', q3⟩
theorem pe_dpop1 (ho : PE X o td) (he : PE X e ty) (m : M1 X o "pop" apos e cpos) : PE X (.Call (.Attribute o "pop" apos) [e] [] cpos) (tDPop1 td ty) := by
  intro pins s σ H Q I h
  refine wpAny_Call_method m.base m.few m.line PySem.F.plainAttrs_dict PySem.F.slot_dict_pop PySem.F.type_dict_pop (thn (ho pins s σ H _ I h) fun u s1 ⟨x, H1, I1, rx, a, ex, d, q1⟩ => ?_)
  subst ex
  obtain rfl : u = Value.ref a := rx
  obtain ⟨t1, t2, _⟩ := isD_at I1 d
  refine ⟨t1, t2, ?_⟩
  rw [m.trees]
  refine Calls.callWith_builtin rfl (Calls.evalArgs_plain (Calls.spliced_cons (thn (he pins s1 σ H1 _ I1 q1) fun iv s2 ⟨y, H2, I2, ry, kvs, k, v, ea, ey, l, q2⟩ => Calls.spliced_nil ?_)))
  subst ey
  exact d_pop I2 ea ry l (.inl rfl) fun w' s3 I3 rw' => ⟨v, _, I3, rw', q2⟩
theorem pe_dpop2 (ho : PE X o td) (he : PE X e ty) (hf : PE X f tx) (m : M2 X o "pop" apos e f cpos) : PE X (.Call (.Attribute o "pop" apos) [e, f] [] cpos) (tDPop2 td ty tx) := by
  intro pins s σ H Q I h
  refine wpAny_Call_method m.base m.few m.line PySem.F.plainAttrs_dict PySem.F.slot_dict_pop PySem.F.type_dict_pop (thn (ho pins s σ H _ I h) fun u s1 ⟨x, H1, I1, rx, a, ex, d, q1⟩ => ?_)
  subst ex
  obtain rfl : u = Value.ref a := rx
  obtain ⟨t1, t2, _⟩ := isD_at I1 d
  refine ⟨t1, t2, ?_⟩
  rw [m.trees]
  refine Calls.callWith_builtin rfl (Calls.evalArgs_plain (Calls.spliced_cons (thn (he pins s1 σ H1 _ I1 q1) fun iv s2 ⟨y, H2, I2, ry, q2⟩ =>
    Calls.spliced_cons (thn (hf pins s2 σ H2 _ I2 q2) fun fv s3 ⟨z, H3, I3, rz, kvs, k, ea, ey, q3, q4⟩ => Calls.spliced_nil ?_))))
  subst ey
  cases l : valV kvs k with
  | some v => exact d_pop I3 ea ry l (.inr ⟨fv, rfl⟩) fun w' s4 I4 rw' => ⟨v, _, I4, rw', q3 v l⟩
  | none => exact d_popD I3 ea ry l fun s4 I4 => ⟨z, H3, I4, rz, q4 l⟩
end

/-! ### dict(d): a copy -/
section
variable {X : Cx} {pins : List (Addr × Obj)} {σ : St} {H : Hp} {s : Shared} {a : Addr} {kvs : List (Key × V)} {A : Around} {E : Value → Shared → Prop}
theorem d_copyOf {Q : Value → Shared → Prop} (I : Inv X pins σ H s) (e : Rd H a (.dK kvs)) (h : ∀ p s', H p = none → Inv X pins σ (upd H p (.dK kvs)) s' → Q (.ref p) s') : wpAny (model X.prog X.w) A (call (.type "dict") [.ref a]) Q E s := by
  obtain ⟨z, hd, vs, rel, dd⟩ := dk_rd I.hok e
  refine kt_call_dict hd dd (by rw [← rel.length]; exact z) fun h' dd' hs => ?_
  refine h _ _ (I.hok.fresh (Nat.le_refl _)) (I.laid (a := s.heap.objs.size) (o := .dK kvs) (t' := s.toks) (fun b q hq => ?_) (Nat.le_refl _) (dk_new z (beq_eq_false_iff_ne.mpr (Ne.symm (Nat.ne_of_lt I.big))) rel dd'))
  exact (hs.2 b (Nat.ne_of_lt (Heap.lt_size hq))).trans (Heap.get?_push_of_some _ hq)
end


section
variable {X : Cx} {pins : List (Addr × Obj)} {σ : St} {H : Hp} {s : Shared} {a : Addr} {y : V} {u : Value} {A : Around} {E : Value → Shared → Prop}
/-- d[y], not there: a KeyError -/
theorem d_missing {Q : Value → Shared → Prop} (hu : A.units + 1 < cLine) (hh : A.handled = none) (I : Inv X pins σ H s) (g : DGet H a y none) (ry : RelV y u)
    (h : ∀ h' e t', Heap.NewExc s.heap h' e "KeyError" → E (.ref e) { s with heap := h', toks := t' }) : wpAny (model X.prog X.w) A (getItem (.ref a) u) Q E s := by
  rcases g with ⟨kvs, k, e, ey, l⟩ | ⟨kvs, k, b, e, ey, eb, l⟩
  · subst ey
    obtain ⟨z, hd, vs, rel, dd⟩ := dk_rd I.hok e
    have hn : valueAt vs k = none := RelO.none_of (by rw [l]; exact rel.val k)
    exact wpAny_getItem_missing_of (kV_is ry) hd hh dd.mapOf hn fun h' ex ne => h h' ex _ ne
  · subst ey
    cases (show u = Value.ref b from ry)
    obtain ⟨z, hd, xs, rel, dd⟩ := dt_rd I.hok e
    have hn : (atKey xs k).map (·.2) = none := RelO.none_of (by rw [l]; exact rel.val k)
    exact wpAny_getItem_missing_heap (tupleKind_room_in1 hu) (key_of I.hok eb) hd hh dd (Option.map_eq_none_iff.mp hn) fun h' ex ne => h h' ex _ ne
end
end L2

namespace L2
open PySem PySem.Spec PyProof.Rows
/-! ### a dict's pairs: keys that differ -/
section
variable {κ : Type} [DecidableEq κ]
theorem valV_not {kvs : List (κ × V)} {k : κ} (h : valV kvs k = none) : ¬ k ∈ kvs.map (·.1) := by
  intro m
  obtain ⟨p, hp, e⟩ := List.mem_map.mp m
  have q : (kvs.any fun kv => decide (kv.1 = k)) = true := List.any_eq_true.mpr ⟨p, hp, decide_eq_true e⟩
  rw [valV_any, h] at q
  exact absurd q (by simp)
theorem valV_in {kvs : List (κ × V)} {k : κ} {v : V} (h : valV kvs k = some v) : k ∈ kvs.map (·.1) := by
  have q : (kvs.any fun kv => decide (kv.1 = k)) = true := by
    rw [valV_any, h]
    all_goals rfl
  obtain ⟨p, hp, e⟩ := List.any_eq_true.mp q
  exact List.mem_map.mpr ⟨p, hp, of_decide_eq_true e⟩
theorem nd_snoc : ∀ {l : List κ} {k : κ}, l.Nodup → ¬ k ∈ l → (l ++ [k]).Nodup
  | [], k, _, _ => by simp
  | a :: r, k, h, hk => by
    obtain ⟨h1, h2⟩ := List.nodup_cons.mp h
    show (a :: (r ++ [k])).Nodup
    refine List.nodup_cons.mpr ⟨fun m => ?_, nd_snoc h2 fun m => hk (List.mem_cons.mpr (Or.inr m))⟩
    rcases List.mem_append.mp m with q | q
    · exact h1 q
    · exact hk (List.mem_cons.mpr (Or.inl (List.mem_singleton.mp q).symm))
theorem nd_putK {kvs : List (κ × V)} {k : κ} (v : V) (hn : (kvs.map (·.1)).Nodup) (h : valV kvs k = none) : ((putK kvs k v).map (·.1)).Nodup := by
  rw [putK_new v h, List.map_append]
  exact nd_snoc hn (valV_not h)
theorem dropK_pos {p : κ × V} {r : List (κ × V)} {k : κ} (e : p.1 = k) : dropK (p :: r) k = dropK r k := by
  unfold dropK
  rw [List.filter_cons, if_neg (by simp [e])]
theorem dropK_neg {p : κ × V} {r : List (κ × V)} {k : κ} (e : ¬ p.1 = k) : dropK (p :: r) k = p :: dropK r k := by
  unfold dropK
  rw [List.filter_cons, if_pos (by simp [e])]
theorem dropK_no : ∀ {kvs : List (κ × V)} {k : κ}, ¬ k ∈ kvs.map (·.1) → dropK kvs k = kvs
  | [], _, _ => rfl
  | p :: r, k, h => by
    have h' : ¬ k ∈ r.map (·.1) := fun m => by
      obtain ⟨q, hq, e⟩ := List.mem_map.mp m
      exact h (List.mem_map.mpr ⟨q, List.mem_cons.mpr (Or.inr hq), e⟩)
    rw [dropK_neg fun e => h (List.mem_map.mpr ⟨p, List.mem_cons.mpr (Or.inl rfl), e⟩), dropK_no h']
theorem dropK_mem {kvs : List (κ × V)} {k : κ} {p : κ × V} (h : p ∈ dropK kvs k) : p ∈ kvs := (List.mem_filter.mp h).1
theorem nd_dropK : ∀ {kvs : List (κ × V)} {k : κ}, (kvs.map (·.1)).Nodup → ((dropK kvs k).map (·.1)).Nodup
  | [], _, _ => List.nodup_nil
  | p :: r, k, h => by
    have h : (p.1 :: r.map (·.1)).Nodup := h
    obtain ⟨h1, h2⟩ := List.nodup_cons.mp h
    by_cases e : p.1 = k
    · rw [dropK_pos e]
      exact nd_dropK h2
    · rw [dropK_neg e]
      show (p.1 :: (dropK r k).map (·.1)).Nodup
      refine List.nodup_cons.mpr ⟨fun m => h1 ?_, nd_dropK h2⟩
      obtain ⟨q, hq, eq⟩ := List.mem_map.mp m
      exact List.mem_map.mpr ⟨q, dropK_mem hq, eq⟩
theorem dropK_len : ∀ {kvs : List (κ × V)} {k : κ}, (kvs.map (·.1)).Nodup → k ∈ kvs.map (·.1) → (dropK kvs k).length + 1 = kvs.length
  | [], _, _, m => by simp at m
  | p :: r, k, h, m => by
    have h : (p.1 :: r.map (·.1)).Nodup := h
    have m : k = p.1 ∨ k ∈ r.map (·.1) := List.mem_cons.mp m
    obtain ⟨h1, h2⟩ := List.nodup_cons.mp h
    by_cases e : p.1 = k
    · subst e
      rw [dropK_pos rfl, dropK_no h1]
      all_goals rfl
    · have m' : k ∈ r.map (·.1) := m.resolve_left fun z => e z.symm
      have q := dropK_len h2 m'
      rw [dropK_neg e, List.length_cons, List.length_cons]
      omega
end
end L2

set_option Elab.async false
set_option linter.all false
set_option maxRecDepth 100000
/-! Dicts over the quick judgements; sum, sorted; xs[i] += n; extend by a tuple. -/
namespace PySem
open Sem (wp)
open AutoSeq1 (wpAny_loadPart')
theorem list_extend_tup (l b : Addr) (xs ys : Array Value) (n n2 : Nat) (dd : Option Addr) (sl : Array (Option Value)) (h0 : ¬ (!xs.isEmpty && Builtin.List.listTooLong (xs.size + ys.size)) = true) (h1 : xs.size ≤ sizeLine) (h2 : (xs ++ ys).size ≤ sizeLine + 1) :
    Meets (Builtin.«list.extend» ⟨[.ref l, .ref b], []⟩) (fun _ R s => s.heap.get? l = some { cls := .type "list", dict := none, data := .seq xs n, slots := #[] } ∧ s.heap.get? b = some { cls := .type "tuple", dict := dd, data := .seq ys n2, slots := sl } ∧
      R (.ok (.ret Value.none)) { s with heap := s.heap.update l (Obj.mapSeq fun x => x ++ ys), toks := s.toks }) :=
  .of_wp fun prog w A R s h => by
    obtain ⟨hp, g, d, tk, os⟩ := s
    obtain ⟨hl, hb, h⟩ := h
    have f1 := AutoSeq1.idx_int
    wp_walk using (wpAny_updateSeq hl rfl (hz := h1) (_hz' := h2)), wpAny_loadPart' hl, wpAny_loadPart' hb
    exact ⟨_, rfl, h⟩
end PySem
namespace L2
open PySem PySem.Spec PyProof.Rows
section
variable {X : Cx} {o i e f value : Expr} {td ty tv tx to ti te : TE} {pos pos' apos cpos : Pos}
theorem qe_dnewK : QE X (.Dict [] [] pos) tDNewK := ⟨pe_dnewK⟩
theorem qe_dget (hu : X.A.units + 1 < cLine) (ho : QE X o td) (hi : QE X i ty) (hs : NoSl i) : QE X (.Subscript o i pos) (tDGet td ty) := ⟨pe_dget hu ho.run hi.run hs⟩
theorem qe_dget2 (hu : X.A.units + 1 < cLine) (ho : QE X o td) (he : QE X e ty) (hf : QE X f tx) (m : M2 X o "get" apos e f cpos) : QE X (.Call (.Attribute o "get" apos) [e, f] [] cpos) (tDGet2 td ty tx) := ⟨pe_dget2 hu ho.run he.run hf.run m⟩
theorem qs_dput (hu : X.A.units + 1 < cLine) (ho : QE X o td) (hi : QE X i ty) (hv : QE X value tv) (hs : swapsWith value (some (.Subscript o i pos')) pos.line X.env = pure false := by rfl) : QS X (.Assign [.Subscript o i pos'] value pos) (sDPut td ty tv) := ⟨ps_dput hu ho.run hi.run hv.run hs⟩
theorem qs_augS {tget : V → V → Hp → VK → Prop} {tip : TIp} {tset : TSet} {op : Operator} (ho : QE X o to) (hi : QE X i ti) (hg : PGet X tget) (he : QE X e te) (hp : PIp X op tip) (hs : PSet X tset)
    (ha : ∀ ov iv new, augStore i ov iv new = (do holding [new, ov, iv] (setItem ov iv new); release [new, ov, iv] []; pure .next) := by intros; rfl) : QS X (.AugAssign (.Subscript o i pos') op e pos) (tAugS to ti te tget tip tset) := ⟨ps_augS ho.run hi.run hg he.run hp hs ha⟩
def rGetL : R2 := fun x y H Q => ∃ p xs i v, x = .ref p ∧ y = .int i ∧ H p = some (.lst xs) ∧ 0 ≤ i ∧ xs[i.toNat]? = some v ∧ Q v H
theorem get_listL : PGet X rGetL := by
  intro pins s σ H x y v u Q I rx ry h
  obtain ⟨p, xs, i, z, rfl, rfl, hp, h0, hx, q⟩ := h
  cases rx
  obtain ⟨t, rfl⟩ := ry
  obtain ⟨its, r, pl, hz⟩ := I.list (SqL.of hp)
  obtain ⟨w, ew, rw'⟩ := r.get hx
  have hi : i.toNat < xs.length := (List.getElem?_eq_some_iff.mp hx).1
  have hn := line63
  exact wpAny_getItem_list pl.isList h0 (by omega) (by simpa using ew) ⟨z, H, I, rw', q⟩
/-- extend by a tuple -/
def rExtendT (K : PySem.W.Frag) : V → List V → Hp → VK → Prop := fun x vs H Q => ∃ l b xs zs, x = .ref l ∧ vs = [.ref b] ∧ H l = some (.lst xs) ∧ SqT K H b zs ∧ xs.length + zs.length ≤ sizeLine ∧ Q .non (upd H l (.lst (xs ++ zs)))
theorem mt_extendT (K : PySem.W.Frag) (h : X.K = K := by rfl) : MtM X "list.extend" (rExtendT K) := by
  subst h
  intro pins s σ H x vs v us Q I rx rv h
  obtain ⟨l, b, xs, zs, rfl, rfl, hH, hB, hz, q⟩ := h
  cases rx
  obtain ⟨u, rfl, ru⟩ := rv.one
  cases ru
  obtain ⟨z, its, n, r, hl, e⟩ := I.lstM hH
  obtain ⟨its2, r2, ht, hl2⟩ := I.tuple hB
  obtain ⟨⟨cls, dd, data, sl⟩, ho, hc, n2, hd⟩ := id ht
  simp only at hc hd
  subst hc hd
  have e1 := r2.length
  have hsz : its.toArray.size + its2.toArray.size ≤ sizeLine := by rw [List.size_toArray, List.size_toArray]; omega
  have hlong : ¬ (!its.toArray.isEmpty && Builtin.List.listTooLong (its.toArray.size + its2.toArray.size)) = true := fun z => by
    rw [notLongL hsz, Bool.and_false] at z
    cases z
  have hs2 : (its.toArray ++ its2.toArray).size ≤ sizeLine + 1 := by rw [Array.size_append]; omega
  refine call_meets F.slot_list_extend ⟨_, e, rfl⟩ F.entry_list_extend (F.args_list_extend_2 _ _) (list_extend_tup l b its.toArray its2.toArray n n2 dd sl hlong (by omega) hs2) ⟨e, ho, ?_⟩
  exact ⟨.non, _, I.lset (its' := its ++ its2) hH e (by simp) (r.append r2) (by rw [List.length_append]; exact hz), rfl, q⟩
theorem IntsAre.of_vals : ∀ {ns : List Int} {us : List Value}, Vals (ns.map V.int) us → IntsAre us ns
  | [], us, h => by cases h; exact .nil
  | n :: ns, us, h => by
    cases h with
    | cons r t =>
      obtain ⟨tk, rfl⟩ := r
      exact .cons n tk (IntsAre.of_vals t)
theorem Vals.of_ints : ∀ {ns : List Int} {us : List Value}, IntsAre us ns → Vals (ns.map V.int) us
  | _, _, .nil => .nil
  | _, _, .cons n t r => .cons ⟨t, rfl⟩ (Vals.of_ints r)
/-- sum of a list of ints, none far off -/
theorem preSum_list (ns : List Int) : ∀ j, j ≤ ns.length → preSum (fun a => ns.getD a 0) j = (ns.take j).sum
  | 0, _ => by simp [preSum]
  | j + 1, h => by
    rw [preSum, preSum_list ns j (by omega), List.take_add_one, List.sum_append]
    have : ns[j]? = some ns[j] := by simp
    rw [List.getD_eq_getElem?_getD, this]
    simp
theorem call_sumL (K : PySem.W.Frag) (hc : X.calm = true) (hk : X.K = K := by rfl) : CallR X (.builtin "sum") (fun xs H Q => ∃ (p : Addr) (ns : List Int), xs = [.ref p] ∧ SqL K H p (ns.map V.int) ∧ (∀ n ∈ ns, -1000 ≤ n ∧ n ≤ 1000) ∧ Q (.int ns.sum) H) := by
  subst hk
  intro pins s σ H xs us Q I r h
  obtain ⟨p, ns, rfl, hp, hb, q⟩ := h
  obtain ⟨u, rfl, ru⟩ := vals1 r
  cases ru
  obtain ⟨its, rv, ht, hz⟩ := I.list hp
  have hh := I.ok.hd hc
  have hpl : p < s.heap.objs.size := ht.lt
  have hlen : its.toArray.size = ns.length := by rw [List.size_toArray, ← rv.length, List.length_map]
  rw [List.length_map] at hz
  have hsz : sizeLine = 16777216 := by decide
  have sumb : ∀ l : List Int, (∀ n ∈ l, -1000 ≤ n ∧ n ≤ 1000) → -(1000 * (l.length : Int)) ≤ l.sum ∧ l.sum ≤ 1000 * l.length := by
    intro l
    induction l with
    | nil => intro _; simp
    | cons a l ih =>
      intro hl
      have h1 := ih fun n hn => hl n (List.mem_cons_of_mem _ hn)
      have h2 := hl a (List.mem_cons_self ..)
      rw [List.sum_cons, List.length_cons]
      omega
  refine call_sum_walk (wpAny_pyIter_list ht.isList ⟨s.heap.objs.size, _, _, its.toArray.size, _, _, fun a => ns.getD a 0, rfl, Walks.list (A := X.A.in1) hh _ p (Nat.ne_of_lt hpl) its.toArray, ⟨⟨_, Heap.get?_push_size _ rfl, rfl, rfl⟩, ht.isList.at fun o e => Heap.get?_push_of_some _ e⟩, ?_, ?_, ?_, ?_⟩)
  · intro b hb'
    rw [Heap.size_push]
    rcases List.mem_cons.mp hb' with e | hb'
    · rw [e]; exact Nat.lt_succ_self _
    · have e : b = p := by simpa using hb'
      rw [e]; exact Nat.lt_succ_of_lt hpl
  · intro a v e
    have e' : its[a]? = some v := by simpa using e
    obtain ⟨x, hx, rx⟩ := rv.at' e'
    rw [List.getElem?_map] at hx
    cases hn : ns[a]? with
    | none => rw [hn] at hx; cases hx
    | some b =>
      rw [hn] at hx
      cases hx
      obtain ⟨t, rfl⟩ := rx
      refine ⟨t, ?_⟩
      show Value.int b t = Value.int (ns.getD a 0) t
      rw [List.getD_eq_getElem?_getD, hn]
      rfl
  · intro j hj
    rw [hlen] at hj
    have hm : ns.getD j 0 ∈ ns := by
      have : ns[j]? = some ns[j] := by simp [hj]
      rw [List.getD_eq_getElem?_getD, this]
      exact List.getElem_mem hj
    have h1 := hb _ hm
    have h2 := sumb (ns.take (j + 1)) fun n hn => hb n (List.mem_of_mem_take hn)
    rw [List.length_take] at h2
    show InLong (ns.getD j 0) ∧ InLong (preSum (fun a => ns.getD a 0) (j + 1))
    unfold InLong
    rw [preSum_list ns (j + 1) (by omega)]
    have h3 : (min (j + 1) ns.length : Nat) ≤ 16777216 := by omega
    constructor <;> constructor <;> omega
  · intro h' tk t' kp
    have I1 : Inv X pins σ H { s with heap := h', toks := tk } := I.kept fun b o e => kp b o (fun z => by
      have e2 : b = s.heap.objs.size := by simpa using z
      rw [e2] at e
      exact absurd (Heap.lt_size e) (Nat.lt_irrefl _)) (Heap.get?_push_of_some _ e)
    have e : preSum (fun a => ns.getD a 0) its.toArray.size = ns.sum := by rw [hlen, preSum_list ns _ (Nat.le_refl _), List.take_length]
    rw [e]
    exact ⟨.int _, H, I1, ⟨_, rfl⟩, q⟩
/-- sorted, of a short list of ints -/
theorem call_sortedL (K : PySem.W.Frag) (hk : X.K = K := by rfl) : CallR X (.builtin "sorted") (fun xs H Q => ∃ (p : Addr) (ns : List Int), xs = [.ref p] ∧ SqL K H p (ns.map V.int) ∧ ns.length < 64 ∧ ∀ (l : Addr) (ms : List Int), ms.Perm ns → ms.Pairwise (· ≤ ·) → H l = none → Q (.ref l) (upd H l (.lst (ms.map V.int)))) := by
  subst hk
  intro pins s σ H xs us Q I r h
  obtain ⟨p, ns, rfl, hp, h64, q⟩ := h
  obtain ⟨u, rfl, ru⟩ := vals1 r
  cases ru
  obtain ⟨its, rv, ht, hz⟩ := I.list hp
  have hl := rv.length
  rw [List.length_map] at hl
  refine sorted_ints ht.isList (IntsAre.of_vals rv) (by omega) fun out ms h1 h2 h3 => ?_
  have hm := h2.length_eq
  have hv : Vals (ms.map V.int) out.toList := Vals.of_ints h1
  have hsz : (ms.map V.int).length ≤ sizeLine := by rw [List.length_map, show sizeLine = 16777216 by decide]; omega
  have kp : ∀ b o, s.heap.get? b = some o → (sortedAll s.heap its out).get? b = some o := fun b o e => sortedAll_old e
  have nw := sortedAll_at s.heap its out
  obtain ⟨n, nw⟩ := nw
  refine ⟨.ref (s.heap.objs.size + 1), _, I.laid (t' := s.toks) (o := .lst (ms.map V.int)) kp (Nat.le_succ _) ⟨hsz, out.toList, n, hv, by simpa using nw⟩, rfl, q _ ms h2 h3 (I.hok.fresh (Nat.le_succ _))⟩
end
end L2

set_option Elab.async false
set_option linter.all false
set_option maxRecDepth 100000
/-! A dict that is walked: in a loop, a comprehension; sorted(d). -/
namespace L2
open PySem PySem.Spec PyProof.Rows
/-- the dict at a, known to its object while it is walked -/
def Itd (o : Obj) (a : Addr) (kvs : List (Key × V)) : It :=
  ⟨fun i H => H a = some (.frz o (.dK kvs)) ∧ i < kvs.length, fun i H x H' => H' = H ∧ ∃ k v, kvs[i]? = some (k, v) ∧ x = kV k, fun i H => H a = some (.frz o (.dK kvs)) ∧ kvs.length ≤ i⟩
theorem rel_key {P : Program} {w : World} {k : Key} {u : Value} (h : (mixKind P w).is k u = true) : RelV (kV k) u := by
  rcases keyIs_shape (show keyIs k u = true from h) with ⟨i, t, rfl, rfl⟩ | ⟨x, t, rfl, rfl⟩
  · exact ⟨t, rfl⟩
  · exact ⟨t, rfl⟩
theorem frz_at {X : Cx} {pins : List (Addr × Obj)} {s : Shared} {σ : St} {H : Hp} {a : Addr} {o : Obj} {kvs : List (Key × V)} {es : Array DictEntry} {ep : Nat} (I : Inv X pins σ H s) (h : H a = some (.frz o (.dK kvs))) (hd : o.data = .dict es ep) :
    (a == sysModules) = false ∧ ∃ vs, KV kvs vs ∧ s.heap.DictAt (mixKind X.prog X.w) a vs ep := by
  obtain ⟨e, z, y, vs, r, ob, es', ep', e', c, d, k, p, n⟩ := I.hok a _ h
  rw [e] at e'
  cases e'
  rw [hd] at d
  cases d
  exact ⟨y, vs, r, o, es, e, c, hd, k, p, n⟩
theorem kv_at {kvs : List (Key × V)} {vs : List (Key × Value)} (r : KV kvs vs) {i : Nat} {k : Key} {v : V} (h : kvs[i]? = some (k, v)) : ∃ u, vs[i]? = some (k, u) := by
  have hk := r.keys
  have hl := r.length
  have hi : i < kvs.length := (List.getElem?_eq_some_iff.mp h).1
  have hi' : i < vs.length := by omega
  have e1 : (kvs.map (·.1))[i]? = some k := by rw [List.getElem?_map, h]; rfl
  have e2 : vs[i]? = some vs[i] := by simp [hi']
  rw [hk, List.getElem?_map, e2] at e1
  have e3 : vs[i].1 = k := Option.some.inj e1
  refine ⟨vs[i].2, ?_⟩
  rw [e2, ← e3]
theorem turn_dict {P : Program} {w : World} {K : PySem.W.Frag} {tg : Expr} (a it : Addr) {o : Obj} {kvs : List (Key × V)} {es : Array DictEntry} {ep : Nat} (hd : o.data = .dict es ep) : Turn P w K tg (Itd o a kvs) [it] it (fun i h => h.IsKeyIter it a i kvs.length ep) where
  mem := by simp
  obj := fun i h st b hb => by
    have e : b = it := by simpa using hb
    subst e
    obtain ⟨o, e, c, d⟩ := st
    exact ⟨o, e, fun v z => by rw [d] at z; cases z⟩
  keep := fun i h h' st k => st.at fun o e => k it (by simp) o e
  item := by
    intro X hP hw hK hc i pins s σ H E I hf st hg
    subst hP hw hK
    obtain ⟨hg, hi⟩ := hg
    obtain ⟨_, vs, r, da⟩ := frz_at I hg hd
    have hx : kvs[i]? = some kvs[i] := by simp [hi]
    obtain ⟨u, hu⟩ := kv_at r (k := kvs[i].1) (v := kvs[i].2) hx
    obtain ⟨f0, f1, f2, f3, f4, f5⟩ := hf it (by simp)
    have hl := r.length
    rw [hl] at st
    refine wpAny_pyNext_dict_item st da hu fun key h' hkey st' sb => ?_
    have I1 : Inv X pins σ H { s with heap := h' } := I.turned (t' := s.toks) (fun b o hb e => (sb.2 b hb).trans e) f0 f1 f3 f4 f5
    obtain ⟨o', e, c, d⟩ := id st'
    exact ⟨key, rfl, go_of (s := { s with heap := h' }) e c d (by decide) ⟨kV kvs[i].1, H, I1, rel_key hkey, ⟨rfl, _, _, hx, rfl⟩, by rw [hl]; exact st', fun b hb => (hf b hb).1⟩⟩
  done := by
    intro X hP hw hK hc i pins s σ H E I hf st hg
    subst hP hw hK
    obtain ⟨hg, hi⟩ := hg
    obtain ⟨_, vs, r, da⟩ := frz_at I hg hd
    obtain ⟨f0, f1, f2, f3, f4, f5⟩ := hf it (by simp)
    have hl := r.length
    rw [hl] at st
    exact wpAny_pyNext_dict_end (I.ok.hd hc) st da (by simp; omega) fun h' eb => ⟨rfl, I.turned (t' := s.toks) (fun b o hb e => eb b o hb e) f0 f1 f3 f4 f5⟩
  self := fun _ _ _ _ _ st h => wpAny_pyIter_keyiter st h
section
variable {X : Cx} {tg : Expr}
/-- what is known of a dict's object -/
theorem Inv.freeze {pins : List (Addr × Obj)} {s : Shared} {σ : St} {H : Hp} {a : Addr} {kvs : List (Key × V)} (I : Inv X pins σ H s) (h : H a = some (.dK kvs)) :
    ∃ o es ep, o.data = .dict es ep ∧ Inv X pins σ (upd H a (.frz o (.dK kvs))) s ∧ (a == sysModules) = false ∧ ∃ vs, KV kvs vs ∧ s.heap.DictAt (mixKind X.prog X.w) a vs ep := by
  obtain ⟨z, y, vs, r, o, es, ep, e, c, d, k, p, n⟩ := I.hok a _ h
  refine ⟨o, es, ep, d, ?_, y, vs, r, o, es, e, c, d, k, p, n⟩
  have := I.write (x := a) (e := a) (h' := s.heap) (t' := s.toks) (o := .frz o (.dK kvs)) (by rw [h]; exact trivial) (.inl rfl) (fun b u _ q => q) ⟨o, e⟩ ⟨e, z, y, vs, r, o, es, ep, e, c, d, k, p, n⟩
  exact this
def iDict (tl : TE) : TI := fun σ H R => tl σ H fun x H1 => ∃ a kvs, x = .ref a ∧ H1 a = some (.dK kvs) ∧ ∀ o, R (Itd o a kvs) (upd H1 a (.frz o (.dK kvs)))
theorem qi_dict {l : Expr} {tl : TE} (hl : QE X l tl) : QI X tg l (iDict tl) := by
  refine ⟨fun pins s σ H R I h => ?_⟩
  refine thn (hl.run pins s σ H _ I h) fun v s1 ⟨x, H1, I1, r1, q1⟩ => ?_
  obtain ⟨a, kvs, e, ha, q⟩ := q1
  subst e
  cases r1
  obtain ⟨o, es, ep, hd, I2, hy, vs, rel, da⟩ := I1.freeze ha
  refine wpAny_pyIter_dict hy da ?_
  have hlen := rel.length
  refine ⟨s1.heap.objs.size, [s1.heap.objs.size], _, _, _, rfl, I2.kept (t' := s1.toks) fun b o e => Heap.get?_push_of_some _ e, turn_dict a _ hd, ⟨_, Heap.get?_push_size _ rfl, rfl, by rw [hlen]; rfl⟩, fun b hb => ?_, q o⟩
  have e : b = s1.heap.objs.size := by simpa using hb
  subst e
  exact I2.fpOk (Nat.le_refl _) (I2.hok.fresh (Nat.le_refl _))
/-- a comprehension over a dict -/
theorem comp_dict {mp : List (Option Nat)} {g : TG} {tc : TT} {te : TE} {σ : St} {H : Hp} {R : List V → Hp → Prop} {o : Obj} {a : Addr} {kvs : List (Key × V)} (Pv : Nat → List V → St → Hp → Prop) (h0 : Pv 0 [] (seed mp σ) H)
    (hl : ∀ i ys σ' H', Pv i ys σ' H' → H' a = some (.frz o (.dK kvs)))
    (hs : ∀ i k v ys σ' H', kvs[i]? = some (k, v) → Pv i ys σ' H' → ys.length < sizeLine ∧ g (kV k) σ' H' fun σ2 H2 => tc σ2 H2 fun b H3 => if b = true then te σ2 H3 fun y H4 => Pv (i + 1) (ys ++ [y]) σ2 H4 else Pv (i + 1) ys σ2 H3)
    (hd : ∀ ys σ' H', Pv kvs.length ys σ' H' → ys.length ≤ sizeLine ∧ R ys H') :
    ∃ W : Nat → Nat → List V → St → Hp → Prop, (∃ m, W 0 m [] (seed mp σ) H) ∧ ∀ i m ys σ' H', W i m ys σ' H' →
      ((Itd o a kvs).stop i H' ∧ ys.length ≤ sizeLine ∧ R ys H') ∨
      ((Itd o a kvs).go i H' ∧ ys.length < sizeLine ∧ ∀ x H'', (Itd o a kvs).yld i H' x H'' → g x σ' H'' fun σ2 H2 => tc σ2 H2 fun b H3 =>
        if b = true then te σ2 H3 fun y H4 => ∃ m', m' < m ∧ W (i + 1) m' (ys ++ [y]) σ2 H4 else ∃ m', m' < m ∧ W (i + 1) m' ys σ2 H3) := by
  refine ⟨fun i m ys σ H => m = kvs.length - i ∧ i ≤ kvs.length ∧ Pv i ys σ H, ⟨kvs.length, by simp, Nat.zero_le _, h0⟩, ?_⟩
  rintro i m ys σ' H' ⟨rfl, hi, p⟩
  have q0 := hl i ys σ' H' p
  by_cases hlt : i < kvs.length
  · have e : ∀ ys σ H, (∃ m', m' < kvs.length - i ∧ m' = kvs.length - (i + 1) ∧ i + 1 ≤ kvs.length ∧ Pv (i + 1) ys σ H) = Pv (i + 1) ys σ H := fun ys σ H => propext ⟨fun ⟨_, _, _, _, z⟩ => z, fun z => ⟨_, by omega, rfl, hlt, z⟩⟩
    have hx : kvs[i]? = some kvs[i] := by simp [hlt]
    refine .inr ⟨⟨q0, hlt⟩, (hs i kvs[i].1 kvs[i].2 ys σ' H' hx p).1, fun x H'' y => ?_⟩
    obtain ⟨e1, k, v, hk, ex⟩ := y
    subst e1 ex
    simp only [e]
    exact (hs i k v ys σ' _ hk p).2
  · have e : i = kvs.length := by omega
    subst e
    obtain ⟨hl', q⟩ := hd ys σ' H' p
    exact .inl ⟨⟨q0, Nat.le_refl _⟩, hl', q⟩
end
end L2

set_option Elab.async false
set_option linter.all false
set_option maxRecDepth 100000
/-! sorted(d): a dict's keys gathered and sorted. -/
namespace PySem
open Sem (wp)
section
variable {prog : Program} {w : World} {A : Around} {E : Value → Shared → Prop} {s : Shared} {κ : Type} [DecidableEq κ] {knd : KeyKind prog w κ}
theorem hint_dict {d : Addr} {kvs : List (κ × Value)} {Q : Bool → Shared → Prop} (hm : s.heap.DictOf knd d kvs) (h : Q false s) : wpAny (model prog w) A (Builtin.List.listLengthHint (.ref d)) Q E s := by
  have ty : s.TypeIs (.ref d) "dict" := hm.typeIs
  unfold Builtin.List.listLengthHint
  refine wpAny_bind (wpAny_specialOf ty F.slot_dict_len.lookup ?_)
  generalize hj : ("dict.__len__" : String) = j0
  wp_delta
  rw [show splitId j0 = some ("dict", "__len__") from by subst hj; decide +kernel]
  subst hj
  refine wpAny_bind (wpAny_isInstance (T := "dict") (b := true) ty (by rw [isSubtype_type]; kernel_rfl) ?_)
  refine wpAny_ite_split (fun z => absurd z (by decide)) (fun _ => ?_)
  refine wpAny_ite_split (fun _ => ?_) (fun z => absurd (by decide +kernel) z)
  exact wpAny_bind (wpAny_typeOf ty (wpAny_pure h))
theorem extend_dict {R : Result → Shared → Prop} {d : Addr} {kvs : List (κ × Value)} {ep : Nat} (hh : A.handled = none) (hm : s.heap.DictAt knd d kvs ep) (hd : (d == sysModules) = false) (hlen : kvs.length ≤ sizeLine) (S : Addr) (res : Value) (c₀ : Nat)
    (hS : s.heap.get? S = some { cls := .type "list", data := .seq #[] c₀ })
    (hR : ∀ h' tk acc' c', (∀ b o, b ≠ S → s.heap.get? b = some o → h'.get? b = some o) → h'.get? S = some { cls := .type "list", dict := none, data := .seq acc' c', slots := #[] } → ItemsOf (fun i v => ∃ k x, kvs[i]? = some (k, x) ∧ knd.is k v = true) acc' kvs.length →
      R (.ok (.ret res)) { s with heap := h', toks := tk }) :
    wpAny (model prog w) A.in1 (Builtin.List.listExtendWith (.ref S) (.ref d) res)
      (fun fin s' => match fin with | .done f => R (.ok f) s' | .again c' => c'.quiet = true ∧ codeAny (model prog w) A c' R s') (fun e s' => R (.error e) s') s := by
  have ty : s.TypeIs (.ref d) "dict" := hm.dictOf.typeIs
  have hdl : d < s.heap.objs.size := by obtain ⟨o, es, e, _⟩ := id hm; exact Heap.lt_size e
  have hSl : S < s.heap.objs.size := Heap.lt_size hS
  have hSd : S ≠ d := fun z => by
    obtain ⟨o, e, c⟩ := ty
    rw [← z, hS] at e
    cases e
    exact absurd (show Value.type "list" = Value.type "dict" from c) (by decide)
  have hSI : S ≠ s.heap.objs.size := Nat.ne_of_lt hSl
  have hSf : S ∉ [s.heap.objs.size, d] := fun z => by
    rcases List.mem_cons.mp z with z | z
    · exact hSI z
    · exact hSd (by simpa using z)
  have W := (Walks.dictKeys (prog := prog) (w := w) (A := A.in1) (knd := knd) hh s.heap.objs.size d (Nat.ne_of_lt hdl) kvs ep).toS
  have run : ∀ (h : Heap) (c₁ tk : Nat), h.IsKeyIter s.heap.objs.size d 0 kvs.length ep → h.DictAt knd d kvs ep → (∀ b o, b ≠ S → s.heap.get? b = some o → h.get? b = some o) →
      h.get? S = some { cls := .type "list", data := .seq #[] c₁ } → codeAny (model prog w) A (.builtin "list.extend.loop" ⟨[.ref S, .ref s.heap.objs.size, res], []⟩) R { s with heap := h, toks := tk } := by
    intro h c₁ tk hit hda hk hS₁
    refine codeAny_extend_loopS W hlen S hSf res kvs.length 0 _ #[] c₁ rfl (Nat.zero_le _) ⟨hit, hda⟩ hS₁ (ItemsOf.nil _) fun s' acc' c' mv hS' hacc => ?_
    rw [Moved.eq_with mv]
    refine hR s'.heap s'.toks acc' c' (fun b o hb e => mv.heap b o (fun z => ?_) (hk b o hb e)) hS' hacc
    rcases List.mem_cons.mp z with z | z
    · exact hb z
    · have : b = s.heap.objs.size := by simpa using z
      exact absurd (Heap.lt_size e) (by rw [this]; exact Nat.lt_irrefl _)
  unfold Builtin.List.listExtendWith
  refine wpAny_bind (wpAny_typeOf ty ?_)
  have n1 : Builtin.List.listSameRef (.ref S) (.ref d) = false := by simp [Builtin.List.listSameRef, hSd]
  have n2 : (Value.type "dict" == Value.type "list") = false := by decide
  have n3 : (Value.type "dict" == Value.type "tuple") = false := by decide
  simp only [n1, n2, n3, Bool.or_false, Bool.false_eq_true, if_false]
  refine wpAny_bind (wpAny_pyIter_dict hd hm ?_)
  have hm₁ : (s.heap.push { cls := .type "dict_keyiterator", data := .fields #[.ref d, .int 0 0, .int kvs.length 0, .int ep 0] }).DictAt knd d kvs ep := hm.at' fun o e => Heap.get?_push_of_some _ e
  have hit₁ : (s.heap.push { cls := .type "dict_keyiterator", data := .fields #[.ref d, .int 0 0, .int kvs.length 0, .int ep 0] }).IsKeyIter s.heap.objs.size d 0 kvs.length ep := ⟨_, Heap.get?_push_size _ rfl, rfl, rfl⟩
  have kp₁ : ∀ b o, s.heap.get? b = some o → (s.heap.push { cls := .type "dict_keyiterator", data := .fields #[.ref d, .int 0 0, .int kvs.length 0, .int ep 0] }).get? b = some o := fun b o e => Heap.get?_push_of_some _ e
  have hS₁ := kp₁ S _ hS
  generalize s.heap.push { cls := .type "dict_keyiterator", data := .fields #[.ref d, .int 0 0, .int kvs.length 0, .int ep 0] } = h1 at hm₁ hit₁ kp₁ hS₁ ⊢
  refine wpAny_bind (wpAny_holding (hint_dict (s := { s with heap := h1 }) hm₁.dictOf ?_))
  refine wpAny_ite_split (fun _ => ?_) (fun _ => wpAny_pure ⟨plainId_quiet F.plain_extend_loop _, run h1 c₀ s.toks hit₁ hm₁ (fun b o _ e => kp₁ b o e) hS₁⟩)
  refine wpAny_bind (wpAny_rule (wpAny_bind ?_))
  show wpAny _ _ (updateSeq S (·.push .none) >>= fun _ => updateSeq S (·.pop)) _ _ { s with heap := h1 }
  refine wpAny_bind (wpAny_updateSeq hS₁ rfl ?_)
  have hS₂ := Heap.get?_update_self (Obj.mapSeq (·.push Value.none)) hS₁ rfl
  refine wpAny_updateSeq (hz := by seq_fits) hS₂ rfl ?_
  have hS₃ := Heap.get?_update_self (Obj.mapSeq (·.pop)) hS₂ rfl
  have kp₃ : ∀ b o, b ≠ S → h1.get? b = some o → ((h1.update S (Obj.mapSeq (·.push Value.none))).update S (Obj.mapSeq (·.pop))).get? b = some o := fun b o hb e =>
    (Heap.get?_update_other _ _ (Ne.symm hb)).trans ((Heap.get?_update_other _ _ (Ne.symm hb)).trans e)
  exact wpAny_pure ⟨plainId_quiet F.plain_extend_loop _, run _ _ s.toks (hit₁.at fun o e => kp₃ _ o (Ne.symm hSI) e) (hm₁.at' fun o e => kp₃ _ o (Ne.symm hSd) e) (fun b o hb e => kp₃ b o hb (kp₁ b o e)) hS₃⟩
theorem collect_dict {Q : List Value → Shared → Prop} {d : Addr} {kvs : List (κ × Value)} {ep : Nat} (hh : A.handled = none) (hm : s.heap.DictAt knd d kvs ep) (hd : (d == sysModules) = false) (hlen : kvs.length ≤ sizeLine)
    (hQ : ∀ h' tk (acc : Array Value), (∀ b o, s.heap.get? b = some o → h'.get? b = some o) → ItemsOf (fun i v => ∃ k x, kvs[i]? = some (k, x) ∧ knd.is k v = true) acc kvs.length → Q acc.toList { s with heap := h', toks := tk }) :
    wpAny (model prog w) A (collect (.ref d)) Q E s := by
  unfold collect
  refine wpAny_bind (wpAny_runValue (codeAny_builtin F.entry_proto_collect ?_))
  rw [Around.under_plainId F.plain_proto_collect _]
  show wpAny _ A.in1 (newList [] >>= fun l => again (.builtin "list.__iadd__" ⟨[l, .ref d], []⟩)) _ _ s
  refine wpAny_bind (wpAny_newObj_type (wpAny_pure ⟨plainId_quiet F.plain_list_iadd _, codeAny_builtin F.entry_list_iadd ?_⟩))
  rw [Around.under_plainId F.plain_list_iadd _]
  show wpAny _ A.in1 (Builtin.List.listExtendWith (.ref s.heap.objs.size) (.ref d) (.ref s.heap.objs.size)) _ _ _
  have hS : (s.heap.push { cls := .type "list", data := .seq ([] : List Value).toArray }).get? s.heap.objs.size = some { cls := .type "list", data := .seq #[] 0 } := Heap.get?_push_size _ rfl
  have fin' : ∀ (h' : Heap) (tk : Nat) (acc : Array Value) (c' : Nat), (∀ b o, b ≠ s.heap.objs.size → (s.heap.push { cls := .type "list", data := .seq ([] : List Value).toArray }).get? b = some o → h'.get? b = some o) →
      h'.get? s.heap.objs.size = some { cls := .type "list", dict := none, data := .seq acc c', slots := #[] } → ItemsOf (fun i v => ∃ k x, kvs[i]? = some (k, x) ∧ knd.is k v = true) acc kvs.length →
      wpAny (model prog w) A (match Value.ref s.heap.objs.size with
      | Value.ref a => do
        match (← load a).data with
          | Data.seq xs _ => pure xs.toList
          | _ => unsupported "internal:collect"
      | _ => unsupported "internal:collect") Q E { s with heap := h', toks := tk } := fun h' tk acc c' kp e hi => by
    show wpAny _ A (load s.heap.objs.size >>= _) _ _ _
    refine wpAny_bind (wpAny_load e ?_)
    exact wpAny_pure (hQ h' tk acc (fun b o hb => kp b o (Nat.ne_of_lt (Heap.lt_size hb)) (Heap.get?_push_of_some _ hb)) hi)
  refine wpAny_mono (extend_dict (A := A) (R := fun r' s' => r' = .ok (.ret (.ref s.heap.objs.size)) ∧ ∃ h' tk acc c', s' = { s with heap := h', toks := tk } ∧ (∀ b o, b ≠ s.heap.objs.size → (s.heap.push { cls := .type "list", data := .seq ([] : List Value).toArray }).get? b = some o → h'.get? b = some o) ∧
      h'.get? s.heap.objs.size = some { cls := .type "list", dict := none, data := .seq acc c', slots := #[] } ∧ ItemsOf (fun i v => ∃ k x, kvs[i]? = some (k, x) ∧ knd.is k v = true) acc kvs.length)
    (s := { s with heap := s.heap.push { cls := .type "list", data := .seq ([] : List Value).toArray } }) hh (hm.at' fun o e => Heap.get?_push_of_some _ e) hd hlen s.heap.objs.size (.ref s.heap.objs.size) 0 hS
    fun h' tk acc c' kp e hi => ⟨rfl, h', tk, acc, c', rfl, kp, e, hi⟩) (fun fin s' h => ?_) (fun e s' h => ?_)
  · cases fin with
    | done f =>
      obtain ⟨e, h', tk, acc, c', rfl, kp, q, hi⟩ := h
      cases e
      exact fin' h' tk acc c' kp q hi
    | again c' => exact ⟨h.1, codeAny_mono h.2 fun r s'' hr => by obtain ⟨rfl, h', tk, acc, c', rfl, kp, q, hi⟩ := hr; exact fin' h' tk acc c' kp q hi⟩
  · exact absurd h.1 (by simp)
end
end PySem
namespace L2
open PySem PySem.Spec PyProof.Rows
section
variable {X : Cx}
theorem vals_pt : ∀ {xs : List V} {us : List Value}, xs.length = us.length → (∀ (i : Nat) (x : V) (u : Value), xs[i]? = some x → us[i]? = some u → RelV x u) → Vals xs us
  | [], [], _, _ => .nil
  | x :: xs, u :: us, h, f => .cons (f 0 x u rfl rfl) (vals_pt (by simpa using h) fun i y w h1 h2 => f (i + 1) y w (by simpa using h1) (by simpa using h2))
  | [], _ :: _, h, _ => by cases h
  | _ :: _, [], h, _ => by cases h
theorem call_sortedD (hc : X.calm = true) : CallR X (.builtin "sorted") (fun xs H Q => ∃ (p : Addr) (kvs : List (Key × V)) (ns : List Int), xs = [.ref p] ∧ H p = some (.dK kvs) ∧ kvs.map (·.1) = ns.map Sum.inl ∧ ns.length < 64 ∧
    ∀ (l : Addr) (ms : List Int), ms.Perm ns → ms.Pairwise (· ≤ ·) → H l = none → Q (.ref l) (upd H l (.lst (ms.map V.int)))) := by
  intro pins s σ H xs us Q I r h
  obtain ⟨p, kvs, ns, rfl, hp, hkn, h64, q⟩ := h
  obtain ⟨u, rfl, ru⟩ := vals1 r
  cases ru
  obtain ⟨o, es, ep, hd, _, hy, vs, rel, da⟩ := I.freeze hp
  have hlen : vs.length = ns.length := by
    have h1 := rel.length
    have h2 := congrArg List.length hkn
    rw [List.length_map, List.length_map] at h2
    omega
  refine Calls.call_function_entry kind_sorted plain_sorted entry_sorted (args_sorted1 _) ?_
  unfold Builtin.«sorted»
  refine wpAny_bind (m := checkCount "sorted" 1 1 _) (wpAny_pure ?_)
  refine wpAny_bind (collect_dict (A := X.A.in1) (I.ok.hd hc) da hy (by rw [hlen, show sizeLine = 16777216 by decide]; omega) fun h1 tk acc kp hi => ?_)
  have hI : IntsAre acc.toList ns := by
    refine IntsAre.of_vals (vals_pt ?_ fun j x u h1 h2 => ?_)
    · have e0 : acc.toList.length = acc.size := by simp
      rw [List.length_map, e0, hi.1, hlen]
    · have h2' : acc[j]? = some u := by simpa using h2
      obtain ⟨k, y, e1, e2⟩ := hi.2 j u h2'
      rw [List.getElem?_map] at h1
      have e3 : (vs.map (·.1))[j]? = some k := by rw [List.getElem?_map, e1]; rfl
      rw [← rel.keys, hkn, List.getElem?_map] at e3
      cases hn : ns[j]? with
      | none => rw [hn] at h1; cases h1
      | some n =>
        rw [hn] at h1 e3
        cases h1
        cases e3
        exact rel_key e2
  have hal : acc.toList.length < 64 := by
    have e0 : acc.toList.length = acc.size := by simp
    rw [e0, hi.1, hlen]
    exact h64
  refine wpAny_bind (wpAny_newList ?_)
  have hoL : (h1.push (seqObj "list" acc.toList.toArray 0)).get? h1.objs.size = some (seqObj "list" acc.toList.toArray 0) := Heap.get?_push_size _ rfl
  show wpAny _ _ _ _ _ { s with heap := h1.push (seqObj "list" acc.toList.toArray 0), toks := tk }
  refine wpAny_bind (wpAny_holding (wpAny_call_entry slot_list_sort ⟨_, hoL, rfl⟩ entry_list_sort (list_sort_tree hoL hI hal fun out ms a1 a2 a3 => ⟨_, rfl, ?_⟩) (args_list_sort _)))
  refine wpAny_pure ⟨_, rfl, ?_⟩
  have hm := a2.length_eq
  have hv : Vals (ms.map V.int) out.toList := Vals.of_ints a1
  have hsz : (ms.map V.int).length ≤ sizeLine := by rw [List.length_map, show sizeLine = 16777216 by decide]; omega
  have I1 : Inv X pins σ H { s with heap := h1, toks := tk } := I.kept kp
  have kp2 : ∀ b ob, h1.get? b = some ob → (sortedHeap (h1.push (seqObj "list" acc.toList.toArray 0)) h1.objs.size acc.toList out).get? b = some ob := by
    intro b ob e
    have hb : h1.objs.size ≠ b := Nat.ne_of_gt (Heap.lt_size e)
    unfold sortedHeap
    rw [Heap.get?_update_other _ _ hb]
    refine Heap.get?_push_of_some _ (Heap.get?_push_of_some _ ?_)
    rw [Heap.get?_update_other _ _ hb]
    exact Heap.get?_push_of_some _ e
  have nw : ∃ n, (sortedHeap (h1.push (seqObj "list" acc.toList.toArray 0)) h1.objs.size acc.toList out).get? h1.objs.size = some { cls := .type "list", data := .seq out n } := by
    have g2 := Heap.get?_update_self (Obj.mapSeq fun _ => (#[] : Array Value)) hoL rfl
    have g3 := Heap.get?_push_of_some (seqObj "list" #[] 0) (Heap.get?_push_of_some (seqObj "tuple" acc.toList.toArray 0) g2)
    have g4 := Heap.get?_update_self (Obj.mapSeq fun _ => out) g3 rfl
    exact ⟨_, g4⟩
  obtain ⟨n, nw⟩ := nw
  exact ⟨.ref h1.objs.size, _, I1.laid (t' := tk) (o := .lst (ms.map V.int)) kp2 (Nat.le_refl _) ⟨hsz, out.toList, n, hv, by simpa using nw⟩, rfl, q _ ms a2 a3 (I1.hok.fresh (Nat.le_refl _))⟩
end
end L2

set_option Elab.async false
set_option linter.all false
set_option maxRecDepth 100000
/-! enumerate(t) of a tuple, its pairs unpacked. -/
namespace PySem
open Sem (wp)
open AutoSeq1 (wpAny_loadPart')
section
variable {prog : Program} {w : World} {A : Around} {E : Value → Shared → Prop} {s : Shared}
/-- the tuple's own iterator, asked by another one -/
theorem nextT_item {it t : Addr} {i : Nat} {xs : Array Value} {x : Value} {Q : Value → Shared → Prop} (hi : s.heap.IsTupleIter it t i) (ht : s.heap.IsTuple t xs) (hx : xs[i]? = some x)
    (q : ∀ h', h'.IsTupleIter it t (i + 1) → Heap.SameBut it s.heap h' → Q x { s with heap := h' }) : wpAny (model prog w) A (Builtin.SmallTypes.nextOf (.ref it)) Q E s := by
  obtain ⟨ob, e1, c1, d1⟩ := id hi
  obtain ⟨ot, e2, _, n2, d2⟩ := ht
  have nn : ¬ ((Value.ref t == Value.none) = true) := Bool.false_ne_true
  unfold Builtin.SmallTypes.nextOf
  refine wpAny_bind (wpAny_callSpecial?_slot (name := Str.ofString "__next__") hi.typeIs F.slot_tuple_iterator_next (wpAny_call_entry F.slot_tuple_iterator_next hi.typeIs F.entry_tuple_iterator_next ?_ (F.args_tuple_iterator_next_1 _)))
  show wpAny _ _ (field (.ref it) 0 >>= _) _ _ _
  refine wpAny_bind (wpAny_field e1 d1 (x := .ref t) rfl ?_)
  show wpAny _ _ (if (Value.ref t == Value.none) = true then _ else _) _ _ _
  rw [if_neg nn]
  show wpAny _ _ (field (.ref it) 1 >>= _) _ _ _
  refine wpAny_bind (wpAny_field e1 d1 (x := .int i 0) rfl (wpAny_bind (wpAny_seqItems e2 d2 ?_)))
  simp only [Int.toNat_natCast, hx]
  refine wpAny_bind (wpAny_setField e1 d1 (by simp) (wpAny_pure ⟨x, rfl, wpAny_pure (q _ ?_ (Heap.SameBut.update ..))⟩))
  refine ⟨_, Heap.get?_update_self _ e1 (Obj.isFreed_of_fields (Obj.data_mapFields d1 _)), (Obj.cls_mapFields ..).trans c1, ?_⟩
  rw [Obj.data_mapFields d1]
  simp [rawInt]
theorem nextT_end {it t : Addr} {i : Nat} {xs : Array Value} {Q : Value → Shared → Prop} (hh : A.handled = none) (hi : s.heap.IsTupleIter it t i) (ht : s.heap.IsTuple t xs) (hx : xs[i]? = none)
    (q : ∀ h' e, Heap.ExtBut it s.heap h' → (∃ o, h'.get? e = some o ∧ o.cls = .type "StopIteration") → E (.ref e) { s with heap := h' }) : wpAny (model prog w) A (Builtin.SmallTypes.nextOf (.ref it)) Q E s := by
  obtain ⟨ob, e1, c1, d1⟩ := id hi
  obtain ⟨ot, e2, _, n2, d2⟩ := ht
  have nn : ¬ ((Value.ref t == Value.none) = true) := Bool.false_ne_true
  unfold Builtin.SmallTypes.nextOf
  refine wpAny_bind (wpAny_callSpecial?_slot (name := Str.ofString "__next__") hi.typeIs F.slot_tuple_iterator_next (wpAny_call_entry F.slot_tuple_iterator_next hi.typeIs F.entry_tuple_iterator_next ?_ (F.args_tuple_iterator_next_1 _)))
  show wpAny _ _ (field (.ref it) 0 >>= _) _ _ _
  refine wpAny_bind (wpAny_field e1 d1 (x := .ref t) rfl ?_)
  show wpAny _ _ (if (Value.ref t == Value.none) = true then _ else _) _ _ _
  rw [if_neg nn]
  show wpAny _ _ (field (.ref it) 1 >>= _) _ _ _
  refine wpAny_bind (wpAny_field e1 d1 (x := .int i 0) rfl (wpAny_bind (wpAny_seqItems e2 d2 ?_)))
  simp only [Int.toNat_natCast, hx]
  refine wpAny_bind (wpAny_rule (wpAny_bind (wpAny_setField e1 d1 (by simp) (wpAny_bind ?_))))
  simp only [newExc, newTuple]
  refine wpAny_bind (wpAny_newObj_type (wpAny_bind (m := firstArgMember _ _) (wpAny_of_eq (a := Value.none) (by first | rfl | (simp only [firstArgMember]; rfl)) (wpAny_newObj_type ?_ (by size_fits)))) (by size_fits))
  simp only [raiseNew]
  refine wpAny_bind (wpAny_handled ?_)
  first | rw [show A.in1.handled = none from hh] | rw [hh]
  exact wpAny_bind (wpAny_pure (wpAny_throw (q _ _ (((Heap.SameBut.update ..).extBut.push _).push _) ⟨_, Heap.get?_push_size _ rfl, rfl⟩)))
theorem enumT_next {e it t : Addr} {i : Nat} {xs : Array Value} {x old : Value} {Q : Value → Shared → Prop} (he : IsEnum s.heap e it i old) (hi : s.heap.IsTupleIter it t i) (ht : s.heap.IsTuple t xs) (hx : xs[i]? = some x) (hne : e ≠ it)
    (q : ∀ h', IsEnumOut h' e it ((i : Int) + 1) x s.heap.objs.size → h'.IsTupleIter it t (i + 1) → h'.get? s.heap.objs.size = some { cls := .type "tuple", data := .seq #[.int i s.toks, x] } →
      (∀ b o, b ≠ e → b ≠ it → s.heap.get? b = some o → h'.get? b = some o) → Q (.ref s.heap.objs.size) { s with heap := h', toks := s.toks + 1 }) :
    wpAny (model prog w) A (Builtin.«enumerate.__next__» ⟨[.ref e], []⟩) (fun fin s' => ∃ v, fin = .done (.ret v) ∧ Q v s') E s := by
  obtain ⟨hp, g, d, tk, os⟩ := s
  show wpAny _ _ (field (.ref e) 2 >>= _) _ _ _
  refine wpAny_bind (wpAny_field he rfl (x := .ref it) rfl (wpAny_bind (nextT_item hi ht hx fun k1 i1 (b1 : Heap.SameBut it hp k1) => ?_)))
  have e1 : IsEnum k1 e it i old := (b1.2 e hne).trans he
  refine wpAny_bind (wpAny_field e1 rfl (x := rawInt i) rfl (wpAny_bind (wpAny_field e1 rfl (x := .none) rfl ?_)))
  show wpAny _ _ (mkInt i >>= _) _ _ ⟨k1, g, d, tk, os⟩
  refine wpAny_bind (wpAny_mkInt (wpAny_bind (wpAny_setField_rec (x := rawInt ((i : Int) + 1)) e1 (by simp) fun k2 e2 b2 => ?_)))
  replace b2 : Heap.SameBut e k1 k2 := b2
  replace e2 : IsEnum k2 e it ((i : Int) + 1) old := e2
  refine wpAny_bind (wpAny_setField_rec (x := .none) e2 (by simp) fun k3 e3 b3 => ?_)
  replace b3 : Heap.SameBut e k2 k3 := b3
  replace e3 : IsEnum k3 e it ((i : Int) + 1) old := e3
  show wpAny _ _ (newTuple [.int i tk, x] >>= _) _ _ ⟨k3, g, d, tk + 1, os⟩
  refine wpAny_bind (wpAny_newTuple ?_)
  have sz : k3.objs.size = hp.objs.size := by rw [b3.1, b2.1, b1.1]
  have el : hp.objs.size ≠ e := Nat.ne_of_gt (Heap.lt_size he)
  have e4 : IsEnum (k3.push { cls := .type "tuple", data := .seq #[.int i tk, x] }) e it ((i : Int) + 1) old := Heap.get?_push_of_some _ e3
  have t4 : (k3.push { cls := .type "tuple", data := .seq #[.int i tk, x] }).get? hp.objs.size = some { cls := .type "tuple", data := .seq #[.int i tk, x] } := by rw [← sz]; exact Heap.get?_push_size _ rfl
  have old4 : ∀ b o, b ≠ e → b ≠ it → hp.get? b = some o → (k3.push { cls := .type "tuple", data := .seq #[.int i tk, x] }).get? b = some o := fun b o h1 h2 h3 => Heap.get?_push_of_some _ (b3.extBut b o h1 (b2.extBut b o h1 (b1.extBut b o h2 h3)))
  have i4 : (k3.push { cls := .type "tuple", data := .seq #[.int i tk, x] }).IsTupleIter it t (i + 1) := by
    obtain ⟨o, ho, r⟩ := i1
    exact ⟨o, Heap.get?_push_of_some _ (b3.extBut it o (Ne.symm hne) (b2.extBut it o (Ne.symm hne) ho)), r⟩
  rw [sz]
  generalize k3.push { cls := .type "tuple", data := .seq #[.int i tk, x] } = k4 at e4 t4 old4 i4 ⊢
  show wpAny _ _ (Builtin.SmallTypes.ownedTupleIsFree (.ref e) >>= _) _ _ ⟨k4, g, d, tk + 1, os⟩
  refine wpAny_bind ?_
  unfold Builtin.SmallTypes.ownedTupleIsFree
  refine wpAny_bind (wpAny_field e4 rfl (x := .none) rfl (wpAny_pure ?_))
  simp only [if_true]
  refine wpAny_bind (wpAny_rule (wpAny_bind (wpAny_field e4 rfl (x := old) rfl (wpAny_bind (wpAny_setField_rec (x := x) e4 (by simp) fun k5 e5 b5 => ?_)))))
  replace b5 : Heap.SameBut e k4 k5 := b5
  replace e5 : IsEnum k5 e it ((i : Int) + 1) x := e5
  show wpAny _ _ (Builtin.SmallTypes.ownedTupleHandOut (.ref e) (.ref hp.objs.size) >>= _) _ _ ⟨k5, g, d, tk + 1, os⟩
  refine wpAny_bind ?_
  unfold Builtin.SmallTypes.ownedTupleHandOut
  refine wpAny_bind (wpAny_setField_rec (x := rawInt (hp.objs.size : Nat)) e5 (by simp) fun k6 e6 b6 => ?_)
  replace b6 : Heap.SameBut e k5 k6 := b6
  replace e6 : IsEnumOut k6 e it ((i : Int) + 1) x hp.objs.size := e6
  refine wpAny_setField_rec e6 (by simp) fun k7 e7 b7 => ?_
  replace b7 : Heap.SameBut e k6 k7 := b7
  have all7 : ∀ b o, b ≠ e → k4.get? b = some o → k7.get? b = some o := fun b o h1 h2 => b7.extBut b o h1 (b6.extBut b o h1 (b5.extBut b o h1 h2))
  refine wpAny_bind (wpAny_letGo (wpAny_pure ⟨_, rfl, q k7 e7 ?_ (all7 _ _ el t4) fun b o h1 h2 h3 => all7 b o h1 (old4 b o h1 h2 h3)⟩))
  obtain ⟨o, ho, r⟩ := i4
  exact ⟨o, all7 it o (Ne.symm hne) ho, r⟩
theorem pyNext_enumT {e it t : Addr} {i : Nat} {xs : Array Value} {x old : Value} {Q : Option Value → Shared → Prop} (he : IsEnum s.heap e it i old) (hi : s.heap.IsTupleIter it t i) (ht : s.heap.IsTuple t xs) (hx : xs[i]? = some x) (hne : e ≠ it)
    (q : ∀ h', IsEnumOut h' e it ((i : Int) + 1) x s.heap.objs.size → h'.IsTupleIter it t (i + 1) → h'.get? s.heap.objs.size = some { cls := .type "tuple", data := .seq #[.int i s.toks, x] } →
      (∀ b o, b ≠ e → b ≠ it → s.heap.get? b = some o → h'.get? b = some o) → Q (some (.ref s.heap.objs.size)) { s with heap := h', toks := s.toks + 1 }) :
    wpAny (model prog w) A (pyNext (.ref e)) Q E s := by
  have ty : s.TypeIs (.ref e) "enumerate" := ⟨_, he, rfl⟩
  unfold pyNext
  refine wpAny_bind (wpAny_attempt (wpAny_callSpecial?_slot (name := Str.ofString "__next__") ty F.slot_enumerate_next (wpAny_call_entry F.slot_enumerate_next ty F.entry_enumerate_next ?_ (F.args_enumerate_next_1 _))))
  exact enumT_next he hi ht hx hne fun h' a b c k => wpAny_pure (q h' a b c k)
theorem pyNext_enumT_end {e it t : Addr} {i : Nat} {xs : Array Value} {old : Value} {Q : Option Value → Shared → Prop} (hh : A.handled = none) (he : IsEnum s.heap e it i old) (hi : s.heap.IsTupleIter it t i) (ht : s.heap.IsTuple t xs) (hx : xs[i]? = none)
    (q : ∀ h', Heap.ExtBut it s.heap h' → Q none { s with heap := h' }) : wpAny (model prog w) A (pyNext (.ref e)) Q E s := by
  have ty : s.TypeIs (.ref e) "enumerate" := ⟨_, he, rfl⟩
  unfold pyNext
  refine wpAny_bind (wpAny_attempt (wpAny_callSpecial?_slot (name := Str.ofString "__next__") ty F.slot_enumerate_next (wpAny_call_entry F.slot_enumerate_next ty F.entry_enumerate_next ?_ (F.args_enumerate_next_1 _))))
  show wpAny _ _ (field (.ref e) 2 >>= _) _ _ _
  refine wpAny_bind (wpAny_field he rfl (x := .ref it) rfl (wpAny_bind (nextT_end hh hi ht hx fun h' x ex ⟨o, ho, hc⟩ => ?_)))
  exact wpAny_bind (wpAny_isInstance (T := "StopIteration") (b := true) ⟨o, ho, hc⟩ isSubtype_stop (wpAny_pure (q _ ex)))
theorem enum_newT (l : Addr) (items : Array Value) (n : Nat) (dct : Option Addr) (sl : Array (Option Value)) :
    Meets (Builtin.«enumerate.__new__» ⟨[.type "enumerate", .ref l], []⟩) (fun _ R s => s.heap.get? l = some { cls := .type "tuple", dict := dct, data := .seq items n, slots := sl } ∧
      R (.ok (.ret (.ref (s.heap.push { cls := .type "tuple_iterator", data := .fields #[.ref l, .int 0 0] }).objs.size)))
        { s with heap := (s.heap.push { cls := .type "tuple_iterator", data := .fields #[.ref l, .int 0 0] }).push { cls := .type "enumerate", data := .fields #[.none, .bool false, .ref s.heap.objs.size, rawInt 0, .none, .none] } }) :=
  .of_wp fun prog w A R s h => by
    obtain ⟨hp, g, d, tk, os⟩ := s
    obtain ⟨hl, h⟩ := h
    have hsub := sub_enumerate
    have isT : Heap.IsTuple (Shared.heap ⟨hp, g, d, tk, os⟩) l items := ⟨_, hl, rfl, n, rfl⟩
    wp_walk using wpAny_loadPart' hl
    refine wpAny_stack_any fun _ => wpAny_pure ?_
    split
    · rename_i c _ _ _ _ _
      cases (c == Value.type "enumerate") <;> (wp_walk using wpAny_loadPart' hl, wpAny_pyIter_tuple isT; exact ⟨_, rfl, h⟩)
    · wp_walk using wpAny_loadPart' hl, wpAny_pyIter_tuple isT
      exact ⟨_, rfl, h⟩
theorem call_enumT {l : Addr} {items : Array Value} {Q : Value → Shared → Prop} (ht : s.heap.IsTuple l items)
    (q : ∀ h', IsEnum h' (s.heap.objs.size + 1) s.heap.objs.size 0 .none → h'.IsTupleIter s.heap.objs.size l 0 → h'.objs.size = s.heap.objs.size + 2 → (∀ b o, s.heap.get? b = some o → h'.get? b = some o) → Q (.ref (s.heap.objs.size + 1)) { s with heap := h' }) :
    wpAny (model prog w) A (call (.type "enumerate") [.ref l]) Q E s := by
  obtain ⟨⟨c, dct, dt, sl⟩, hl, hc, n, hd⟩ := ht
  replace hc : c = .type "tuple" := hc
  replace hd : dt = .seq items n := hd
  subst hc hd
  refine callType_new F.called_enumerate (by decide) (F.typeCall_enumerate_1 _) (F.newCall_enumerate_1 _) (fun obj => F.args_object_init_2 obj _) F.entry_enumerate_new (enum_newT l items n dct sl) ⟨hl, ?_⟩
  have z1 : (s.heap.push { cls := .type "tuple_iterator", data := .fields #[.ref l, .int 0 0] }).objs.size = s.heap.objs.size + 1 := Heap.size_push ..
  have g1 := Heap.get?_push_size (s.heap.push { cls := .type "tuple_iterator", data := .fields #[.ref l, .int 0 0] }) (o := { cls := .type "enumerate", data := .fields #[.none, .bool false, .ref s.heap.objs.size, rawInt 0, .none, .none] }) rfl
  rw [z1] at g1
  show _ ∧ _
  rw [z1]
  exact ⟨⟨_, g1, rfl⟩, q _ g1 ⟨_, Heap.get?_push_of_some _ (Heap.get?_push_size _ rfl), rfl, rfl⟩ (by rw [Heap.size_push, z1]) fun b o x => Heap.get?_push_of_some _ (Heap.get?_push_of_some _ x)⟩
end
end PySem

set_option Elab.async false
set_option linter.all false
set_option maxRecDepth 100000
namespace L2
open PySem PySem.Spec PyProof.Rows
/-- the pairs of enumerate(the tuple at a) -/
def Ite (K : PySem.W.Frag) (a : Addr) : It :=
  ⟨fun i H => ∃ xs x, SqT K H a xs ∧ xs[i]? = some x, fun i H x H' => ∃ T xi, x = .ref T ∧ H T = none ∧ H' = upd H T (.tup [.int (i : Nat), xi]) ∧ ∀ xs, SqT K H a xs → xs[i]? = some xi, fun i H => ∃ xs, SqT K H a xs ∧ xs.length ≤ i⟩
theorem turn_enumT {P : Program} {w : World} {K : PySem.W.Frag} {elts : List Expr} {k : Nat} {pos : Pos} (a e it : Addr) (hne : e ≠ it) : Turn P w K (.Tuple elts k pos) (Ite K a) [e, it] e (fun i h => (∃ old, IsEnum h e it (i : Nat) old) ∧ h.IsTupleIter it a i) where
  mem := by simp
  obj := fun i h st b hb => by
    obtain ⟨⟨old, he⟩, o, ho, hc, hd⟩ := st
    rcases List.mem_cons.mp hb with z | z
    · subst z
      exact ⟨_, he, fun v z => by cases z⟩
    · have z' : b = it := by simpa using z
      subst z'
      exact ⟨o, ho, fun v z => by rw [hd] at z; cases z⟩
  keep := fun i h h' st kp => by
    obtain ⟨⟨old, he⟩, hi⟩ := st
    exact ⟨⟨old, kp e (by simp) _ he⟩, hi.at fun o q => kp it (by simp) o q⟩
  item := by
    intro X hP hw hK hc i pins s σ H E I hf st hg
    subst hP hw hK
    obtain ⟨⟨old, he⟩, hi⟩ := st
    obtain ⟨xs, x, hq, hx⟩ := hg
    obtain ⟨its, rv, p, hz⟩ := I.tuple hq
    obtain ⟨u, hu, ru⟩ := rv.get hx
    refine pyNext_enumT he hi (show s.heap.IsTuple a its.toArray from p) (x := u) (by simpa using hu) hne fun h1 eo i1 t1 kp => ⟨_, rfl, wpAny_letOwnedTupleGo_enum eo fun h2 en sb => ?_⟩
    have elt : e < s.heap.objs.size := Heap.lt_size he
    have ilt : it < s.heap.objs.size := by obtain ⟨_, q, _⟩ := hi; exact Heap.lt_size q
    have kp2 : ∀ b o, b ≠ e → b ≠ it → s.heap.get? b = some o → h2.get? b = some o := fun b o n1 n2 q => (sb.2 b n1).trans (kp b o n1 n2 q)
    have i2 : h2.IsTupleIter it a (i + 1) := i1.at fun o q => (sb.2 it (Ne.symm hne)).trans q
    have t2 : h2.get? s.heap.objs.size = some { cls := .type "tuple", data := .seq #[.int i s.toks, u] } := (sb.2 _ (Nat.ne_of_gt elt)).trans t1
    obtain ⟨f0, f1, f2, f3, f4, f5⟩ := hf it (by simp)
    obtain ⟨g0, g1, g2, g3, g4, g5⟩ := hf e (by simp)
    obtain ⟨oi, hoi, hci, hdi⟩ := id i2
    obtain ⟨o0, ho0, _⟩ := id hi
    have m1 : (s.heap.update it fun _ => oi).get? it = some oi := Heap.get?_update_self (fun _ => oi) ho0 (Obj.isFreed_of_fields hdi)
    have I1 : Inv X pins σ H { s with heap := s.heap.update it fun _ => oi, toks := s.toks + 1 } := I.turned (fun b o hb q => (Heap.get?_update_other _ _ (Ne.symm hb)).trans q) f0 f1 f3 f4 f5
    have aux : ∀ b o, b ≠ e → (s.heap.update it fun _ => oi).get? b = some o → h2.get? b = some o := fun b o hb q => by
      by_cases hbi : b = it
      · subst hbi
        rw [m1] at q
        cases q
        exact hoi
      · exact kp2 b o hb hbi ((Heap.get?_update_other _ _ (Ne.symm hbi)).symm.trans q)
    have I2 : Inv X pins σ H { s with heap := h2, toks := s.toks + 1 } := Inv.turned (s := { s with heap := s.heap.update it fun _ => oi, toks := s.toks + 1 }) (h' := h2) (t' := s.toks + 1) I1 aux g0 g1 g3 g4 g5
    obtain ⟨p0, p1, p2, p3, p4, p5⟩ := I.fpOk (Nat.le_refl s.heap.objs.size) (I.hok.fresh (Nat.le_refl _))
    have I3 : Inv X pins σ (upd H s.heap.objs.size (.tup [.int (i : Nat), x])) { s with heap := h2, toks := s.toks + 1 } :=
      I2.track (o := .tup [.int (i : Nat), x]) t2 p0 p1 p3 p4 p5 ⟨by show 2 ≤ sizeLine; decide, [.int i s.toks, u], .cons ⟨_, rfl⟩ (.cons ru .nil), ⟨_, t2, rfl, _, rfl⟩⟩
    refine ⟨.ref s.heap.objs.size, _, I3, rfl, ⟨_, x, rfl, p0, rfl, fun ys hy => by rw [I.tuple_inj hy hq]; exact hx⟩, ⟨⟨u, by simpa using en⟩, i2⟩, fun b hb => ?_⟩
    have hbn : b ≠ s.heap.objs.size := by
      rcases List.mem_cons.mp hb with z | z
      · rw [z]; exact Nat.ne_of_lt elt
      · have z' : b = it := by simpa using z
        rw [z']; exact Nat.ne_of_lt ilt
    rw [upd_ne hbn]
    exact (hf b hb).1
  done := by
    intro X hP hw hK hc i pins s σ H E I hf st hg
    subst hP hw hK
    obtain ⟨⟨old, he⟩, hi⟩ := st
    obtain ⟨xs, hq, hx⟩ := hg
    obtain ⟨its, rv, p, hz⟩ := I.tuple hq
    obtain ⟨f0, f1, f2, f3, f4, f5⟩ := hf it (by simp)
    have hl := rv.length
    exact pyNext_enumT_end (I.ok.hd hc) he hi (show s.heap.IsTuple a its.toArray from p) (by simp; omega) fun h' eb => ⟨rfl, I.turned (t' := s.toks) (fun b o hb q => eb b o hb q) f0 f1 f3 f4 f5⟩
  self := fun _ _ _ _ _ st h => by
    obtain ⟨⟨old, he⟩, _⟩ := st
    exact wpAny_pyIter_enum he h
section
variable {X : Cx} {elts : List Expr} {k : Nat} {tpos : Pos}
def iEnumT (K : PySem.W.Frag) (ta : TA) : TI := fun σ H R => ta σ H fun vs H1 => ∃ a xs, vs = [.ref a] ∧ SqT K H1 a xs ∧ R (Ite K a) H1
theorem qi_enumT (K : PySem.W.Frag) {a : Expr} {ta : TA} {p pos : Pos} (hg : Gl X "enumerate") (hm : X.mg "enumerate" = none) (ha : QA X [a] ta) (hk : X.K = K := by rfl) : QI X (.Tuple elts k tpos) (.Call (.Name "enumerate" p) [a] [] pos) (iEnumT K ta) := by
  subst hk
  refine ⟨fun pins s σ H R I h => ?_⟩
  have hs := starEach_ns (env := X.env) (es := []) (ns_hd ha.ns).1
  refine Call_ (ld_blt I hg hm (by decide +kernel : bootBuiltins "enumerate" = some (.type "enumerate")) (PyProof.Rows.callWith_type1 (thn (ha.run pos pins s σ H _ I h) fun us s1 ⟨vs, H1, I1, r1, q1⟩ => ?_) hs rfl))
  obtain ⟨t, xs, e, hq, q⟩ := q1
  subst e
  cases r1 with
  | cons r rr =>
    cases rr
    cases (show _ = Value.ref t from r)
    obtain ⟨its, rv, pp, hz⟩ := I1.tuple hq
    refine call_enumT (show s1.heap.IsTuple t its.toArray from pp) fun h' en it' sz kp => ?_
    refine wpAny_pyIter_enum en ?_
    have I2 : Inv X pins σ H1 { s1 with heap := h' } := I1.kept (t' := s1.toks) kp
    refine ⟨s1.heap.objs.size + 1, [s1.heap.objs.size + 1, s1.heap.objs.size], _, _, H1, rfl, I2, turn_enumT t _ _ (Nat.succ_ne_self _), ⟨⟨_, en⟩, it'⟩, fun b hb => ?_, q⟩
    have hb' : s1.heap.objs.size ≤ b := by
      rcases List.mem_cons.mp hb with z | z
      · rw [z]; exact Nat.le_succ _
      · have z' : b = s1.heap.objs.size := by simpa using z
        rw [z']; exact Nat.le_refl _
    obtain ⟨p0, p1, p2, p3, p4, p5⟩ := I1.fpOk hb' (I1.hok.fresh hb')
    exact ⟨p0, p1, p2, p3, p4, p5⟩
/-- a comprehension over the pairs -/
theorem comp_enumT {mp : List (Option Nat)} {g : TG} {tc : TT} {te : TE} {σ : St} {H : Hp} {R : List V → Hp → Prop} {K : PySem.W.Frag} {a : Addr} {xs : List V} (Pv : Nat → List V → St → Hp → Prop) (h0 : Pv 0 [] (seed mp σ) H) (hl : ∀ i ys σ' H', Pv i ys σ' H' → SqT K H' a xs)
    (hs : ∀ i x ys σ' H', xs[i]? = some x → Pv i ys σ' H' → ys.length < sizeLine ∧ ∀ T, H' T = none → g (.ref T) σ' (upd H' T (.tup [.int (i : Nat), x])) fun σ2 H2 => tc σ2 H2 fun b H3 => if b = true then te σ2 H3 fun y H4 => Pv (i + 1) (ys ++ [y]) σ2 H4 else Pv (i + 1) ys σ2 H3)
    (hd : ∀ ys σ' H', Pv xs.length ys σ' H' → ys.length ≤ sizeLine ∧ R ys H') :
    ∃ W : Nat → Nat → List V → St → Hp → Prop, (∃ m, W 0 m [] (seed mp σ) H) ∧ ∀ i m ys σ' H', W i m ys σ' H' →
      ((Ite K a).stop i H' ∧ ys.length ≤ sizeLine ∧ R ys H') ∨
      ((Ite K a).go i H' ∧ ys.length < sizeLine ∧ ∀ x H'', (Ite K a).yld i H' x H'' → g x σ' H'' fun σ2 H2 => tc σ2 H2 fun b H3 =>
        if b = true then te σ2 H3 fun y H4 => ∃ m', m' < m ∧ W (i + 1) m' (ys ++ [y]) σ2 H4 else ∃ m', m' < m ∧ W (i + 1) m' ys σ2 H3) := by
  refine ⟨fun i m ys σ H => m = xs.length - i ∧ i ≤ xs.length ∧ Pv i ys σ H, ⟨xs.length, by simp, Nat.zero_le _, h0⟩, ?_⟩
  rintro i m ys σ' H' ⟨rfl, hi, p⟩
  have q0 := hl i ys σ' H' p
  by_cases hlt : i < xs.length
  · have e : ∀ ys σ H, (∃ m', m' < xs.length - i ∧ m' = xs.length - (i + 1) ∧ i + 1 ≤ xs.length ∧ Pv (i + 1) ys σ H) = Pv (i + 1) ys σ H := fun ys σ H => propext ⟨fun ⟨_, _, _, _, z⟩ => z, fun z => ⟨_, by omega, rfl, hlt, z⟩⟩
    have hx : xs[i]? = some xs[i] := by simp [hlt]
    refine .inr ⟨⟨xs, xs[i], q0, hx⟩, (hs i _ ys σ' H' hx p).1, fun x H'' y => ?_⟩
    obtain ⟨T, xi, e1, hT, e2, hxi⟩ := y
    subst e1 e2
    simp only [e]
    exact (hs i xi ys σ' H' (hxi xs q0) p).2 T hT
  · have e : i = xs.length := by omega
    subst e
    obtain ⟨hl', q⟩ := hd ys σ' H' p
    exact .inl ⟨⟨xs, q0, Nat.le_refl _⟩, hl', q⟩
end
end L2

set_option Elab.async false
set_option linter.all false
set_option maxRecDepth 100000
/-! What a set's table keeps: who leads it, and its places rising while it is plain. -/
namespace PySem
namespace SetTable
theorem below_go (xs : Array Nat) (j : Nat) : ∀ (f lo hi : Nat), hi - lo ≤ f → lo ≤ hi → hi ≤ xs.size → xs.toList.Pairwise (· < ·) → (∀ (k : Nat) (v : Nat), k < lo → xs[k]? = some v → v < j) →
    (∀ (k : Nat) (v : Nat), hi ≤ k → xs[k]? = some v → j ≤ v) → below.go xs j f lo hi ≤ xs.size ∧ (∀ (k : Nat) (v : Nat), k < below.go xs j f lo hi → xs[k]? = some v → v < j) ∧ (∀ (k : Nat) (v : Nat), below.go xs j f lo hi ≤ k → xs[k]? = some v → j ≤ v)
  | 0, lo, hi, hf, h1, h2, _, hl, hh => by
    unfold below.go
    have e : lo = hi := by omega
    subst e
    exact ⟨h2, hl, hh⟩
  | f + 1, lo, hi, hf, h1, h2, hs, hl, hh => by
    unfold below.go
    by_cases c : lo < hi
    · rw [if_pos c]
      dsimp only
      have hm : (lo + hi) / 2 < xs.size := by omega
      have eg : xs.getD ((lo + hi) / 2) j = xs[(lo + hi) / 2] := by simp [Array.getD, hm]
      rw [eg]
      have hr : ∀ (a b : Nat) (va vb : Nat), a < b → xs[a]? = some va → xs[b]? = some vb → va < vb := by
        intro a b va vb hab ea eb
        have la : a < xs.toList.length := by
          rcases Nat.lt_or_ge a xs.toList.length with q | q
          · exact q
          · rw [Array.length_toList] at q; rw [Array.getElem?_eq_none q] at ea; cases ea
        have lb : b < xs.toList.length := by
          rcases Nat.lt_or_ge b xs.toList.length with q | q
          · exact q
          · rw [Array.length_toList] at q; rw [Array.getElem?_eq_none q] at eb; cases eb
        have := List.pairwise_iff_getElem.mp hs a b la lb hab
        rw [← Array.getElem?_toList, List.getElem?_eq_getElem la] at ea
        rw [← Array.getElem?_toList, List.getElem?_eq_getElem lb] at eb
        cases ea
        cases eb
        exact this
      have em : xs[(lo + hi) / 2]? = some xs[(lo + hi) / 2] := by simp [hm]
      by_cases d : xs[(lo + hi) / 2] < j
      · rw [if_pos d]
        refine below_go xs j f _ hi (by omega) (by omega) h2 hs (fun k v hk e => ?_) hh
        by_cases q : k = (lo + hi) / 2
        · subst q; rw [em] at e; cases e; exact d
        · exact Nat.lt_trans (hr k _ v _ (by omega) e em) d
      · rw [if_neg d]
        refine below_go xs j f lo _ (by omega) (by omega) (by omega) hs hl fun k v hk e => ?_
        by_cases q : k = (lo + hi) / 2
        · subst q; rw [em] at e; cases e; omega
        · have := hr _ k _ v (by omega) em e
          omega
    · rw [if_neg c]
      have e : lo = hi := by omega
      subst e
      exact ⟨h2, hl, hh⟩
theorem below_spec {xs : Array Nat} (j : Nat) (hs : xs.toList.Pairwise (· < ·)) : below xs j ≤ xs.size ∧ (∀ (k : Nat) (v : Nat), k < below xs j → xs[k]? = some v → v < j) ∧ (∀ (k : Nat) (v : Nat), below xs j ≤ k → xs[k]? = some v → j ≤ v) :=
  below_go xs j xs.size 0 xs.size (by omega) (by omega) (Nat.le_refl _) hs (fun k v h => absurd h (by omega)) (fun k v h e => by rw [Array.getElem?_eq_none h] at e; cases e)
theorem below_zero {xs : Array Nat} (hs : xs.toList.Pairwise (· < ·)) : below xs 0 = 0 := by
  obtain ⟨a, b, c⟩ := below_spec 0 hs
  rcases Nat.eq_zero_or_pos (below xs 0) with h | h
  · exact h
  · have : 0 < xs.size := by omega
    exact absurd (b 0 xs[0] h (by simp [this])) (by omega)
theorem below_next {xs : Array Nat} (hs : xs.toList.Pairwise (· < ·)) {i j : Nat} (e : xs[i]? = some j) : below xs (j + 1) = i + 1 := by
  obtain ⟨a, b, c⟩ := below_spec (j + 1) hs
  have hi : i < xs.size := by
    rcases Nat.lt_or_ge i xs.size with q | q
    · exact q
    · rw [Array.getElem?_eq_none q] at e; cases e
  have h1 : i < below xs (j + 1) := by
    rcases Nat.lt_or_ge i (below xs (j + 1)) with q | q
    · exact q
    · exact absurd (c i j q e) (by omega)
  rcases Nat.lt_or_ge (i + 1) (below xs (j + 1)) with q | q
  · exfalso
    have l2 : i + 1 < xs.size := by omega
    have e2 : xs[i + 1]? = some xs[i + 1] := by simp [l2]
    have := b (i + 1) _ q e2
    have la : i < xs.toList.length := by simpa using hi
    have lb : i + 1 < xs.toList.length := by simpa using l2
    have hr := List.pairwise_iff_getElem.mp hs i (i + 1) la lb (by omega)
    rw [← Array.getElem?_toList, List.getElem?_eq_getElem la] at e
    cases e
    have : xs.toList[i + 1] = xs[i + 1] := by simp
    omega
  · omega
theorem insert_rising {xs : Array Nat} {j : Nat} (hs : xs.toList.Pairwise (· < ·)) (hn : xs[below xs j]? ≠ some j) : (insertAt xs (below xs j) j).toList.Pairwise (· < ·) := by
  obtain ⟨a, b, c⟩ := below_spec j hs
  rw [toList_insertAt]
  have ht : ∀ v ∈ xs.toList.take (below xs j), v < j := by
    intro v hv
    obtain ⟨k, hk, e⟩ := List.getElem_of_mem hv
    rw [List.length_take] at hk
    rw [List.getElem_take] at e
    exact b k v (by omega) (by rw [← Array.getElem?_toList, List.getElem?_eq_getElem (by omega)]; rw [e])
  have hd : ∀ v ∈ xs.toList.drop (below xs j), j < v := by
    intro v hv
    obtain ⟨k, hk, e⟩ := List.getElem_of_mem hv
    rw [List.length_drop] at hk
    rw [List.getElem_drop] at e
    have e' : xs[below xs j + k]? = some v := by rw [← Array.getElem?_toList, List.getElem?_eq_getElem (by omega)]; rw [e]
    have h1 := c (below xs j + k) v (by omega) e'
    rcases Nat.lt_or_eq_of_le h1 with q | q
    · exact q
    · subst q
      exfalso
      rcases Nat.eq_zero_or_pos k with z | z
      · subst z; exact hn e'
      · have l0 : below xs j < xs.toList.length := by omega
        have := List.pairwise_iff_getElem.mp hs (below xs j) (below xs j + k) l0 (by omega) (by omega)
        rw [e] at this
        have h2 := c (below xs j) _ (Nat.le_refl _) (by rw [← Array.getElem?_toList, List.getElem?_eq_getElem l0])
        omega
  rw [List.pairwise_append]
  refine ⟨hs.sublist (List.take_sublist _ _), List.pairwise_cons.mpr ⟨hd, hs.sublist (List.drop_sublist _ _)⟩, fun x hx y hy => ?_⟩
  rcases List.mem_cons.mp hy with rfl | hy
  · exact ht x hx
  · exact Nat.lt_trans (ht x hx) (hd y hy)
/-- a free slot holds no live one -/
theorem probe_free (t : SetTable) (f : Nat → Int) (h : Int) : ∀ (n : Nat) (p : Probe) (j : Nat) (d : Option Nat), (∀ k, p.dummy = some k → t.place[below t.place k]? ≠ some k) →
    probe.go t f h n p = some (.empty j d) → t.place[below t.place (d.getD j)]? ≠ some (d.getD j)
  | 0, p, j, d, _, e => by unfold probe.go at e; cases e
  | n + 1, p, j, d, hp, e => by
    unfold probe.go at e
    have adv : ∀ p : Probe, (t.advance p).dummy = p.dummy := fun p => by unfold advance; split <;> rfl
    have nl : ∀ k, (∀ i, t.slot k ≠ .live i) → t.place[below t.place k]? ≠ some k := fun k q z => q (below t.place k) (by unfold slot; dsimp only; rw [z]; simp)
    cases hs : t.slot p.j with
    | empty =>
      rw [hs] at e
      cases e
      cases hd : p.dummy with
      | none => exact nl p.j fun i z => by rw [hs] at z; cases z
      | some k => exact hp k hd
    | dummy =>
      rw [hs] at e
      refine probe_free t f h n _ j d (fun k hk => ?_) e
      rw [adv] at hk
      cases hk
      exact nl _ fun i z => by rw [hs] at z; cases z
    | live i =>
      rw [hs] at e
      dsimp only at e
      split at e
      · cases e
      · exact probe_free t f h n _ j d (fun k hk => hp k (by rw [adv] at hk; exact hk)) e
/-- led by whom it was, its places rising while it is plain -/
def Good (b : Bool) (t : SetTable) : Prop := t.led = b ∧ (t.plain = true → t.place.toList.Pairwise (· < ·))
variable {b : Bool} {t : SetTable}
theorem Good.stand (g : Good b t) (n : Nat) : Good b (t.standIn n) := ⟨g.1, fun z => by cases z⟩
theorem Good.or (g : Good b t) (n : Nat) : Good b (t.orStandIn n) := by
  unfold orStandIn
  split
  · exact g
  · exact g.stand n
theorem Good.off (g : Good b t) : Good b { t with plain := false } := ⟨g.1, fun z => by cases z⟩
end SetTable
open SetTable in
theorem layNew_good {b : Bool} {t : SetTable} (g : Good b t) (es : Array (Int × Value)) (h : Int) (x : Value) : Good b (layNew t es h x).2.1 := by
  unfold layNew
  cases e : t.freeSlot h with
  | none => exact g.stand _
  | some q =>
    obtain ⟨slot, was⟩ := q
    dsimp only
    refine Good.or (t := (t.put slot).1) ⟨g.1, fun z => ?_⟩ _
    have hs := g.2 z
    refine insert_rising hs ?_
    unfold freeSlot at e
    unfold probe at e
    split at e
    · rename_i j d hp
      cases e
      exact probe_free t _ h _ _ j d (fun k hk => by cases hk) hp
    · cases e
open SetTable in
theorem relayAll_good {b : Bool} {t : SetTable} (g : Good b t) (es : Array (Int × Value)) (n : Nat) : Good b (relayAll t es n).2.1 := by
  unfold relayAll
  cases e : t.relaid (es.map (·.1)) n with
  | none => exact g.stand _
  | some q =>
    obtain ⟨t', o⟩ := q
    dsimp only
    split
    · unfold relaid laid at e
      cases hl : layClean (sizeAbove n - 1) (es.map (·.1)) with
      | none => rw [hl] at e; cases e
      | some ow =>
        rw [hl] at e
        simp only [Option.bind_eq_bind, Option.bind_some, Option.pure_def, Option.some.injEq, Prod.mk.injEq] at e
        obtain ⟨rfl, _⟩ := e
        refine ⟨g.1, fun _ => ?_⟩
        simp only [List.pairwise_map]
        refine List.Pairwise.filterMap (R := (· < ·)) _ (fun a a' h c hc c' hc' => ?_) List.pairwise_lt_range
        cases h1 : ow.getD a none with
        | none => rw [h1] at hc; cases hc
        | some u =>
          rw [h1] at hc
          cases h2 : ow.getD a' none with
          | none => rw [h2] at hc'; cases hc'
          | some u' => rw [h2] at hc'; cases hc; cases hc'; exact h
    · exact g.stand _
theorem eraseS_perm {α : Type} {l : List α} {i : Nat} (h : i < l.length) : ([l[i]] ++ l.eraseIdx i).Perm l := by
  rw [List.eraseIdx_eq_take_drop_succ]
  have e : l = l.take i ++ l[i] :: l.drop (i + 1) := by simp
  conv => rhs; rw [e]
  rw [List.singleton_append]
  exact List.perm_middle.symm
theorem pickOrder_go_perm {α : Type} (next : Nat → Nat) : ∀ (f k : Nat) (l : List α) (out : Array α), f = l.length → (pickOrder.go next f k l out).toList.Perm (out.toList ++ l)
  | 0, k, l, out, e => by
    have : l = [] := List.length_eq_zero_iff.mp e.symm
    subst this
    unfold pickOrder.go
    simp
  | f + 1, k, l, out, e => by
    unfold pickOrder.go
    have hl : next k % l.length < l.length := Nat.mod_lt _ (by omega)
    rw [List.getElem?_eq_getElem hl]
    dsimp only
    refine (pickOrder_go_perm next f (k + 1) _ _ (by rw [List.length_eraseIdx_of_lt hl]; omega)).trans ?_
    rw [Array.toList_push, List.append_assoc]
    refine List.Perm.append_left _ ?_
    exact eraseS_perm hl
theorem pickOrder_perm {α : Type} (next : Nat → Nat) (xs : Array α) : (pickOrder next xs).toList.Perm xs.toList := by
  unfold pickOrder
  have := pickOrder_go_perm next xs.size 0 xs.toList #[] (by simp)
  simpa using this
end PySem

set_option Elab.async false
set_option linter.all false
set_option maxRecDepth 100000
/-! A set of whole numbers: made of a list or a tuple. -/
namespace PySem
open Sem (wp)
open PyProof.Rows
def byTx (w : World) : Bool := w.params.followText "set-order"
def iOf (e : Int × Value) : Option Int := match e.2 with | .int k _ => some k | _ => none
def IEl (es : List (Int × Value)) : Prop := ∀ e ∈ es, ∃ k t, e = (hashInt k, Value.int k t)
/-- a set of these whole numbers, each once -/
def SetI (w : World) (a : Addr) (ns : List Int) (h : Heap) : Prop :=
  ∃ o es ep t, h.get? a = some o ∧ o.ExactSet ∧ o.data = .set es ep t ∧ IEl es.toList ∧ (es.toList.filterMap iOf).Perm ns ∧ es.size < scanBound ∧ t.fits es.size = true ∧ SetTable.Good (!byTx w) t
section
variable {prog : Program} {w : World} {A : Around} {E : Value → Shared → Prop} {s : Shared}
theorem IEl.elems {es : List (Int × Value)} (h : IEl es) : ElemsOf (intKind prog w) es := fun e he => by
  obtain ⟨k, t, rfl⟩ := h e he
  exact ⟨⟨k, intKind_is _ _ _ _, rfl⟩, rfl⟩
theorem IEl.perm {l l' : List (Int × Value)} (h : IEl l) (p : l'.Perm l) : IEl l' := fun e he => h e (p.mem_iff.mp he)
theorem IEl.len {l : List (Int × Value)} : IEl l → (l.filterMap iOf).length = l.length := by
  induction l with
  | nil => intro _; rfl
  | cons e l ih =>
    intro h
    obtain ⟨k, t, rfl⟩ := h e (by simp)
    have := ih fun e he => h e (by simp [he])
    simp [iOf] at this ⊢
    exact this
theorem IEl.has {l : List (Int × Value)} (h : IEl l) {k : Int} : k ∈ l.filterMap iOf ↔ ∃ e ∈ l, (intKind prog w).is k e.2 = true := by
  rw [List.mem_filterMap]
  constructor
  · rintro ⟨e, he, q⟩
    obtain ⟨j, t, rfl⟩ := h e he
    cases q
    exact ⟨_, he, intKind_is _ _ _ _⟩
  · rintro ⟨e, he, q⟩
    obtain ⟨j, t, rfl⟩ := h e he
    have : k = j := (intKind prog w).inj _ _ _ q (intKind_is _ _ j t)
    subst this
    exact ⟨_, he, rfl⟩
theorem SetI.keep {a : Addr} {ns : List Int} {h h' : Heap} (x : SetI w a ns h) (k : ∀ o, h.get? a = some o → h'.get? a = some o) : SetI w a ns h' := by
  obtain ⟨o, es, ep, t, e, r⟩ := x
  exact ⟨o, es, ep, t, k o e, r⟩
theorem SetI.type {a : Addr} {ns : List Int} (x : SetI w a ns s.heap) : s.TypeIs (.ref a) "set" := by
  obtain ⟨o, es, ep, t, e, c, _⟩ := x
  exact ⟨o, e, c.1⟩
theorem SetI.put {h : Heap} {a : Addr} {o : Obj} {es es' : Array (Int × Value)} {ep : Nat} {t t' : SetTable} {ns : List Int} (ho : h.get? a = some o) (x : o.ExactSet) (hd : o.data = .set es ep t) (h1 : IEl es'.toList)
    (h2 : (es'.toList.filterMap iOf).Perm ns) (h3 : es'.size < scanBound) (h4 : t'.fits es'.size = true) (h5 : SetTable.Good (!byTx w) t') :
    (h.update a (Obj.putSet es' t')).get? a = some { o with data := .set es' (ep + 1) t' } ∧ SetI w a ns (h.update a (Obj.putSet es' t')) := by
  have g := Heap.get?_update_self (Obj.putSet es' t') ho (by rw [putSet_of es' t' hd]; rfl)
  rw [putSet_of es' t' hd] at g
  exact ⟨g, _, es', ep + 1, t', g, x, rfl, h1, h2, h3, h4, h5⟩
theorem seti_tail {g : Bool → Sem Unit} (hg : ∀ (b : Bool) (z : Shared) (R : Unit → Shared → Prop), R () z → wpAny (model prog w) A (g b) R E z) {a : Addr} {o : Obj} {es : Array (Int × Value)} {ep : Nat} {t : SetTable} (ho : s.heap.get? a = some o)
    (x : o.ExactSet) (hd : o.data = .set es ep t) {es' : Array (Int × Value)} {t' : SetTable} {ns : List Int} (h1 : IEl es'.toList) (h2 : (es'.toList.filterMap iOf).Perm ns) (h3 : es'.size < scanBound) (h4 : t'.fits es'.size = true) (h5 : SetTable.Good (!byTx w) t')
    {was : Bool} {R : Option Bool → Shared → Prop} (h : ∀ h', Heap.SameBut a s.heap h' → SetI w a ns h' → R (some true) { s with heap := h' }) :
    wpAny (model prog w) A (storeSet a es' t' >>= fun _ => if (!was && t'.tooFull) = true then (g (relayAll t' es' (SetTable.grown es'.size)).2.2 >>= fun _ => storeSet a (relayAll t' es' (SetTable.grown es'.size)).1 (relayAll t' es' (SetTable.grown es'.size)).2.1 >>= fun _ => pure (some true)) else pure (some true)) R E s := by
  refine wpAny_bind (wpAny_storeSet_of ho hd ?_ (fits_of_scanBound h3))
  obtain ⟨p1, p2⟩ := SetI.put (w := w) ho x hd h1 h2 h3 h4 h5
  have b1 := Heap.SameBut.update s.heap a (Obj.putSet es' t')
  split
  · have q1 := relayAll_perm t' es' (SetTable.grown es'.size)
    have q2 := relayAll_fits t' es' (SetTable.grown es'.size)
    have q3 := relayAll_good h5 es' (SetTable.grown es'.size)
    generalize relayAll t' es' (SetTable.grown es'.size) = z at q1 q2 q3 ⊢
    obtain ⟨ez, tz, bz⟩ := z
    dsimp only at q1 q2 q3 ⊢
    have q4 : ez.size = es'.size := by have := q1.length_eq; simpa using this
    refine wpAny_bind (hg _ _ _ ?_)
    refine wpAny_bind (wpAny_storeSet_of p1 rfl ?_ (fits_of_scanBound (by rw [q4]; exact h3)))
    obtain ⟨_, p4⟩ := SetI.put (w := w) p1 x rfl (h1.perm q1) ((q1.filterMap iOf).trans h2) (by rw [q4]; exact h3) q2 q3
    exact wpAny_pure (h _ (b1.trans (Heap.SameBut.update _ a _)) p4)
  · exact wpAny_pure (h _ b1 p2)
def addN (ns : List Int) (k : Int) : List Int := if k ∈ ns then ns else ns ++ [k]
theorem seti_add {a : Addr} {ns : List Int} {k : Int} {tk : Tok} {Q : Bool → Shared → Prop} (hS : SetI w a ns s.heap) (hr : ns.length + 1 < scanBound)
    (h : ∀ r h', Heap.SameBut a s.heap h' → SetI w a (addN ns k) h' → Q r { s with heap := h' }) : wpAny (model prog w) A (setAddHashed a (.int k tk) (hashInt k)) Q E s := by
  obtain ⟨o, es, ep, t, ho, x, hd, h1, h2, h3, h4, h5⟩ := hS
  have e1 : ElemsOf (intKind prog w) es.toList := h1.elems
  have hki : (intKind prog w).is k (.int k tk) = true := intKind_is _ _ _ _
  unfold setAddHashed setAddHashedIn
  refine wpAny_holding (wpAny_bind (wpAny_setState_of ho hd h4 ?_))
  dsimp only
  rw [byScan_of (knd := intKind prog w) (x := .int k tk) rfl h3 e1]
  simp only [↓reduceIte]
  unfold setAddByScan
  refine wpAny_bind (wpAny_bind (wpAny_rule (wpAny_bind (wpAny_setScan_of (knd := intKind prog w) hki ho hd h4 e1 ?_))))
  have hlen : es.size = ns.length := by
    have a1 := h2.length_eq
    rw [h1.len, Array.length_toList] at a1
    exact a1
  cases hf : List.findIdx? (fun e => (intKind prog w).is k e.2) es.toList with
  | some j =>
    dsimp only
    obtain ⟨hj, hpj, _⟩ := List.findIdx?_eq_some_iff_getElem.mp hf
    have hk : k ∈ ns := h2.mem_iff.mp (h1.has.mpr ⟨_, List.getElem_mem hj, hpj⟩)
    refine wpAny_pure (wpAny_pure ?_)
    have := h false s.heap (Heap.SameBut.refl a s.heap) (by unfold addN; rw [if_pos hk]; exact ⟨o, es, ep, t, ho, x, hd, h1, h2, h3, h4, h5⟩)
    exact this
  | none =>
    dsimp only
    have hk : ¬ k ∈ ns := fun z => by
      obtain ⟨e, he, q⟩ := (h1.has (prog := prog) (w := w)).mp (h2.mem_iff.mpr z)
      have := List.findIdx?_eq_none_iff.mp hf e he
      rw [q] at this
      cases this
    have q1 := layNew_perm t es (hashInt k) (.int k tk)
    have q2 := layNew_fits t es (hashInt k) (.int k tk)
    have q3 := layNew_good h5 es (hashInt k) (.int k tk)
    have hgw : ∀ (b : Bool) (z : Shared) (R : Unit → Shared → Prop), R () z → wpAny (model prog w) A (match b with | true => rule "set.scan.the-table-gave-way" | false => pure ()) R E z :=
      fun b z R hq => by cases b <;> first | exact wpAny_pure hq | exact wpAny_rule hq
    show wpAny _ _ ((match (layNew t es (hashInt k) (.int k tk)).2.2.2 with | true => rule "set.scan.the-table-gave-way" | false => pure ()) >>= _) _ _ _
    generalize hz : layNew t es (hashInt k) (.int k tk) = z at q1 q2 q3 ⊢
    obtain ⟨ez, tz, was, gave⟩ := z
    dsimp only at q1 q2 q3 ⊢
    have p0 : ez.toList.Perm (es.toList ++ [(hashInt k, Value.int k tk)]) := by rw [Array.toList_push] at q1; exact q1
    have p1 : IEl ez.toList := IEl.perm (fun e he => by
      rcases List.mem_append.mp he with he | he
      · exact h1 e he
      · have : e = (hashInt k, Value.int k tk) := by simpa using he
        exact ⟨k, tk, this⟩) p0
    have p2 : (ez.toList.filterMap iOf).Perm (addN ns k) := by
      refine (p0.filterMap iOf).trans ?_
      unfold addN
      rw [if_neg hk, List.filterMap_append]
      exact List.Perm.append_right _ h2
    have p3 : ez.size < scanBound := by
      have := p0.length_eq
      rw [Array.length_toList, List.length_append, Array.length_toList] at this
      simp at this
      omega
    refine wpAny_bind (hgw _ _ _ ?_)
    have fin : ∀ h', Heap.SameBut a s.heap h' → SetI w a (addN ns k) h' → Q true { s with heap := h' } := fun h' => h true h'
    split
    · refine wpAny_bind ?_
      rw [hashByValue_scannable 8 (x := .int k tk) rfl]
      refine wpAny_pure ?_
      refine seti_tail (g := fun b => match b with | true => rule "set.scan.the-table-gave-way" | false => pure ()) hgw ho x hd p1 p2 p3 ?_ ?_ ?_
      · split
        · exact q2
        · exact SetTable.fits_plain_off q2
      · split
        · exact q3
        · exact q3.off
      · intro h' a1 a2; dsimp only; exact wpAny_pure (fin h' a1 a2)
    · refine wpAny_bind (wpAny_pure ?_)
      simp only [↓reduceIte]
      refine seti_tail (g := fun b => match b with | true => rule "set.scan.the-table-gave-way" | false => pure ()) hgw ho x hd p1 p2 p3 q2 q3 ?_
      intro h' a1 a2; dsimp only; exact wpAny_pure (fin h' a1 a2)
end
end PySem

set_option Elab.async false
set_option linter.all false
set_option maxRecDepth 100000
namespace PySem
open Sem (wp)
open PyProof.Rows
section
variable {prog : Program} {w : World} {A : Around} {E : Value → Shared → Prop} {s : Shared} {R : Result → Shared → Prop}
/-- the numbers at hand, each once -/
def onceN (val : Nat → Int) : Nat → List Int
  | 0 => []
  | i + 1 => addN (onceN val i) (val i)
theorem onceN_len (val : Nat → Int) : ∀ i, (onceN val i).length ≤ i
  | 0 => Nat.le_refl _
  | i + 1 => by
    have := onceN_len val i
    unfold onceN addN
    split
    · omega
    · simp; omega
theorem onceN_nd (val : Nat → Int) : ∀ i, (onceN val i).Nodup
  | 0 => List.nodup_nil
  | i + 1 => by
    have ih := onceN_nd val i
    unfold onceN addN
    split
    · exact ih
    · rename_i h
      rw [List.nodup_append]
      refine ⟨ih, by simp, fun a ha b hb => ?_⟩
      have e : b = val i := by simpa using hb
      subst e
      exact fun z => h (z ▸ ha)
theorem onceN_mem (val : Nat → Int) (k : Int) : ∀ i, k ∈ onceN val i ↔ ∃ j, j < i ∧ val j = k
  | 0 => ⟨fun h => absurd h (by simp [onceN]), fun ⟨j, h, _⟩ => absurd h (by omega)⟩
  | i + 1 => by
    have ih := onceN_mem val k i
    have key : k ∈ onceN val (i + 1) ↔ k ∈ onceN val i ∨ k = val i := by
      show k ∈ addN (onceN val i) (val i) ↔ _
      unfold addN
      split
      · rename_i h
        exact ⟨.inl, fun z => z.elim id fun e => e ▸ h⟩
      · simp
    rw [key, ih]
    constructor
    · rintro (⟨j, h, e⟩ | rfl)
      · exact ⟨j, by omega, e⟩
      · exact ⟨i, by omega, rfl⟩
    · rintro ⟨j, h, e⟩
      by_cases q : j = i
      · subst q; exact .inr e.symm
      · exact .inl ⟨j, by omega, e⟩
theorem seti_loop {I : Addr} {fp wr : List Addr} {G : Array GenState → Array GenState → Prop} {n : Nat} {P : Nat → Value → Prop} {St : Nat → Shared → Prop} (W : WalksS prog w A.in1 I fp wr G n P St) (S : Addr) (hSf : S ∉ fp)
    (val : Nat → Int) (hval : ∀ i v, P i v → ∃ t, v = .int (val i) t) (hb : n + 1 < scanBound) : ∀ (m i : Nat) (z : Shared), n - i = m → i ≤ n → St i z → SetI w S (onceN val i) z.heap →
      (∀ z', Moved (S :: wr) G z z' → SetI w S (onceN val n) z'.heap → R (.ok (.ret .none)) z') → codeAny (model prog w) A (.builtin "set.update.loop" ⟨[.ref S, .ref I], []⟩) R z := by
  have sw : S ∉ wr := fun q => hSf (W.sub _ q)
  have sb : ∀ b ∈ wr, b ∈ S :: wr := fun b q => List.mem_cons_of_mem _ q
  intro m
  induction m with
  | zero =>
    intro i z e1 e2 st x q
    have : i = n := by omega
    subst this
    refine codeAny_builtin PyProof.Rows.F.entry_set_update_loop ?_
    rw [Around.under_plainId PyProof.Rows.F.plain_set_update_loop _]
    show wpAny _ A.in1 (pyNext (.ref I) >>= _) _ _ z
    refine wpAny_bind (W.done z _ _ st fun z' mv => ?_)
    exact wpAny_pure (q z' (mv.mono sb) (x.keep fun o e => mv.heap S _ sw e))
  | succ m ih =>
    intro i z e1 e2 st x q
    refine codeAny_builtin PyProof.Rows.F.entry_set_update_loop ?_
    rw [Around.under_plainId PyProof.Rows.F.plain_set_update_loop _]
    show wpAny _ A.in1 (pyNext (.ref I) >>= _) _ _ z
    refine wpAny_bind (W.item i z _ _ (by omega) st fun v z' hv st' mv => ?_)
    obtain ⟨t, rfl⟩ := hval i v hv
    have x' := x.keep (h' := z'.heap) fun o e => mv.heap S _ sw e
    show wpAny _ A.in1 (holding [Value.int (val i) t] (setAdd S (.int (val i) t)) >>= _) _ _ z'
    refine wpAny_bind (wpAny_holding ?_)
    unfold setAdd
    refine wpAny_holding (wpAny_bind ((intKind prog w).pyHash (k := val i) (intKind_is _ _ _ _) ?_))
    refine seti_add (s := { z' with toks := z'.toks + 1 }) x' (by have := onceN_len val i; omega) fun r h' a1 a2 => ?_
    refine wpAny_pure ⟨plainId_quiet PyProof.Rows.F.plain_set_update_loop _, ih (i + 1) _ (by omega) (by omega) (W.frame _ z' _ _ st' (Nat.le_succ _) fun b hb o e => ?_) a2 fun z'' mv' x'' => ?_⟩
    · rw [a1.2 b fun h : b = S => hSf (h ▸ hb)]; exact e
    · refine q z'' (Moved.trans W.gtrans ((mv.mono sb).then_heap (Nat.le_succ _) fun b o hb e => ?_) mv') x''
      rw [a1.2 b fun h : b = S => hb (by rw [h]; exact List.mem_cons_self)]; exact e
theorem set_new_1 (a : Value) {Q : Value → Shared → Prop} (h : Q (.ref s.heap.objs.size) { s with heap := s.heap.push { cls := .type "set", dict := none, data := .set #[] 0 (.fresh 0 0 (!byTx w)) } }) :
    codeAny (model prog w) A (.call (.builtin "set.__new__") ⟨[.type "set", a], []⟩) (wants Q E) s := by
  refine codeAny_of_tree ?_
  show wpAny _ A.in1 (checkBuiltinCall "set.__new__" ⟨[.type "set", a], []⟩ >>= fun _ => again (.builtin "set.__new__" ⟨[.type "set", a], []⟩)) _ _ s
  refine wpAny_bind (wpAny_of_eq (F.newCall_set_1 a) (wpAny_pure ⟨plainId_quiet F.plain_set_new _, codeAny_builtin F.entry_set_new ?_⟩))
  rw [Around.under_plainId F.plain_set_new _]
  unfold Builtin.«set.__new__» Builtin.Frozenset.newClass
  have q := sub_set_self
  obtain ⟨hp, g, d, tk, os⟩ := s
  dsimp only
  wp_walk
  refine wpAny_askSetting (wpAny_pure ?_)
  dsimp only
  simp only [newObj]
  exact wpAny_bind (wpAny_alloc (wpAny_pure (wpAny_pure h)))
set_option maxHeartbeats 3200000 in
theorem call_setI {l : Addr} {T : String} {items : Array Value} {od : Option Addr} {nl : Nat} {os : Array (Option Value)} {ns : List Int} {ob : Obj} {Q : Value → Shared → Prop} (hol : s.heap.get? l = some { cls := .type T, dict := od, data := .seq items nl, slots := os })
    (hsls : isSubtype (.type T) (.type "set") = pure false) (hslf : isSubtype (.type T) (.type "frozenset") = pure false) (hne : (Value.type T == Value.type "dict") = false) (hi : IntsAre items.toList ns) (hb : items.size + 1 < scanBound) {St : Nat → Heap → Prop}
    (iter : ∀ {A' : Around} {E' : Value → Shared → Prop} {Q' : Value → Shared → Prop} {z : Shared}, z.heap.get? l = some { cls := .type T, dict := od, data := .seq items nl, slots := os } → Q' (.ref z.heap.objs.size) { z with heap := z.heap.push ob } → wpAny (model prog w) A' (pyIter (.ref l)) Q' E' z)
    (W : Walks prog w A.in1.in1.in1 (s.heap.objs.size + 1) [s.heap.objs.size + 1, l] [s.heap.objs.size + 1] items.size (fun i v => items[i]? = some v) St)
    (hst : ∀ z : Heap, z.objs.size = s.heap.objs.size + 1 → z.get? l = some { cls := .type T, dict := od, data := .seq items nl, slots := os } → St 0 (z.push ob))
    (h : ∀ (h' : Heap) (tk : Nat), SetI w s.heap.objs.size (onceN (fun i => ns.getD i 0) items.size) h' → (∀ b o, s.heap.get? b = some o → h'.get? b = some o) → Q (.ref s.heap.objs.size) { s with heap := h', toks := tk }) :
    wpAny (model prog w) A (call (.type "set") [.ref l]) Q E s := by
  obtain ⟨c, tl, hmro⟩ := F.called_set.mro
  have hmade := F.called_set.made
  have hsub := F.called_set.sub
  refine wpAny_call (codeAny_of_tree ?_)
  show wpAny _ _ (callAny (.type "set") _) _ _ _
  refine wpAny_pure ⟨Code.quiet_builtin _ (by decide +kernel), codeAny_builtin F.entry_type_call ?_⟩
  rw [Around.under_plain (weight_type_call_type "set" [.ref l] []) rfl]
  have g1 := F.called_set.notType
  have g2 := F.called_set.canCreate
  have g3 := F.typeCall_set_1 (.ref l)
  repeat (any_goals (first | assumption | wp_step))
  refine codeAny_mono (set_new_1 (.ref l) (E := E) (Q := fun x z => x = .ref s.heap.objs.size ∧ z = { s with heap := s.heap.push { cls := .type "set", dict := none, data := .set #[] 0 (.fresh 0 0 (!byTx w)) } }) ⟨rfl, rfl⟩) fun r z hr => ?_
  cases r with
  | error e => exact hr
  | ok fl =>
    cases fl with
    | ret x =>
      obtain ⟨rfl, rfl⟩ := hr
      have kp : ∀ b o, s.heap.get? b = some o → (s.heap.push { cls := .type "set", dict := none, data := .set #[] 0 (.fresh 0 0 (!byTx w)) }).get? b = some o := fun b o e => Heap.get?_push_of_some _ e
      have hS : (s.heap.push { cls := .type "set", dict := none, data := .set #[] 0 (.fresh 0 0 (!byTx w)) }).get? s.heap.objs.size = some { cls := .type "set", dict := none, data := .set #[] 0 (.fresh 0 0 (!byTx w)) } := Heap.get?_push_size _ rfl
      have hz : (s.heap.push { cls := .type "set", dict := none, data := .set #[] 0 (.fresh 0 0 (!byTx w)) }).objs.size = s.heap.objs.size + 1 := by rw [Heap.size_push]
      have hol' := kp l _ hol
      have hlS : l < s.heap.objs.size := Heap.lt_size hol
      generalize s.heap.push { cls := .type "set", dict := none, data := .set #[] 0 (.fresh 0 0 (!byTx w)) } = h1 at hS kp hz hol' ⊢
      have hT : Shared.TypeIs { s with heap := h1 } (.ref s.heap.objs.size) "set" := ⟨_, hS, rfl⟩
      have hli := F.called_set.init.lookup
      have hbi := F.called_set.init.bind (.ref s.heap.objs.size)
      repeat (any_goals (first | assumption | wp_step))
      refine codeAny_mono (codeAny_call_builtin (R := wants (fun r z => r = .none ∧ ∃ h' tk, z = { s with heap := h', toks := tk } ∧ SetI w s.heap.objs.size (onceN (fun i => ns.getD i 0) items.size) h' ∧ (∀ b o, s.heap.get? b = some o → h'.get? b = some o)) E)
        F.called_set.init.plain F.entry_set_init (check_set_init_1 hT ?_)) fun r₂ s₂ hr₂ => ?_
      · unfold Builtin.«set.__init__» noKeywords Builtin.Frozenset.updateFrom
        generalize hPI : pyIter = PI
        wp_walk
        subst hPI
        refine iter hol' ?_
        refine wpAny_bind (wpAny_runValue ?_)
        have hval : ∀ (i : Nat) (v : Value), items[i]? = some v → ∃ t, v = .int ((fun i => ns.getD i 0) i) t := fun i v hv => IntsAre.int_at hi i v (by rw [Array.getElem?_toList]; exact hv)
        have hS1 : s.heap.objs.size ∉ [s.heap.objs.size + 1, l] := fun q => by
          rcases List.mem_cons.mp q with q | q
          · exact absurd q (Nat.ne_of_lt (Nat.lt_succ_self _))
          · exact absurd (List.mem_singleton.mp q) (Nat.ne_of_gt hlS)
        show codeAny _ _ (.builtin "set.update.loop" ⟨[.ref s.heap.objs.size, .ref h1.objs.size], []⟩) _ _
        rw [hz]
        refine seti_loop (A := A.in1.in1) W.toS s.heap.objs.size hS1 (fun i => ns.getD i 0) hval hb (items.size - 0) 0 _ (by omega) (Nat.zero_le _) (hst h1 hz hol') ?hS0 ?hR
        case hS0 => exact ⟨_, #[], 0, _, Heap.get?_push_of_some _ hS, ⟨rfl, rfl, rfl⟩, rfl, fun e he => by simp at he, by simp [onceN], by decide, by rfl, rfl, fun _ => by simp [SetTable.fresh]⟩
        case hR =>
          intro z' mv x
          obtain ⟨h', g', d', tk', os'⟩ := z'
          have eg : g' = s.gens := mv.gens
          have ed : d' = s.drawn := mv.drawn
          have eo : os' = s.os := mv.os
          subst eg ed eo
          show wpAny _ _ _ _ _ _
          refine wpAny_pure ?_
          show wpAny _ _ (ret Value.none) _ _ _
          refine wpAny_pure ⟨rfl, h', tk', rfl, x, fun b o e => ?_⟩
          have hb0 := Heap.lt_size e
          have hb1 : b ∉ s.heap.objs.size :: [s.heap.objs.size + 1] := fun q => by
            rcases List.mem_cons.mp q with q | q
            · exact absurd q (Nat.ne_of_lt hb0)
            · exact absurd (List.mem_singleton.mp q) (Nat.ne_of_lt (Nat.lt_succ_of_lt hb0))
          exact mv.heap b o hb1 (Heap.get?_push_of_some _ (kp b o e))
      · cases r₂ with
        | error e => exact hr₂
        | ok fl₂ =>
          cases fl₂ with
          | ret r =>
            obtain ⟨rfl, h', tk, rfl, x, kq⟩ := hr₂
            repeat (any_goals (first | assumption | wp_step))
            exact h _ _ x kq
          | _ => exact hr₂.elim
    | _ => exact hr.elim
end
end PySem

set_option Elab.async false
set_option linter.all false
set_option maxRecDepth 100000
/-! A set of whole numbers walked: in some order, whichever it is. -/
namespace PySem
open Sem (wp)
open PyProof.Rows
theorem slot_sit : Slot "set_iterator" "__next__" "set_iterator.__next__" :=
  Slot.of (owner := "set_iterator") (n := "__next__") (by rw [typeLookup_type, builtinLookup_eq_fast]; kernel_rfl) (by decide +kernel) (by decide +kernel)
    (by decide +kernel) (by first | exact .inl (by decide +kernel) | exact .inr (by decide +kernel)) (by rw [isSubtype_type]; kernel_rfl)
theorem entry_sit : entryFor table "set_iterator.__next__" = some Builtin.«set_iterator.__next__» := entryFor_of_tree (by kernel_rfl)
theorem args_sit (a : Value) : argsOk "set_iterator.__next__" ⟨[a], []⟩ := by unfold argsOk; kernel_rfl
theorem entry_siter : entryFor table "set.__iter__" = some Builtin.«frozenset.__iter__» := entryFor_alias (id' := "frozenset.__iter__") (by kernel_rfl) rfl (by decide +kernel) (by kernel_rfl)
section
variable {prog : Program} {w : World} {A : Around} {E : Value → Shared → Prop} {s : Shared}
theorem wpAny_chooseN {M : Model} {src : Source} {n : Nat} {Q : Nat → Shared → Prop} (hn : 0 < n) (h : ∀ i d, i < n → Q i { s with drawn := d }) : wpAny M A (choose src n) Q E s := fun Γ p hΓ => by
  unfold choose
  rw [Sem.wp_choose]
  refine ⟨Nat.ne_of_gt hn, ?_⟩
  rw [Sem.wp_pure]
  exact h _ _ (Nat.mod_lt _ hn)
theorem wpAny_drawOrder {M : Model} {α : Type} : ∀ (n : Nat) (xs : List α) {s : Shared} {Q : List α → Shared → Prop}, n = xs.length → (∀ ys d, ys.Perm xs → Q ys { s with drawn := d }) → wpAny M A (drawOrder n xs) Q E s
  | 0, [], s, Q, _, h => by unfold drawOrder; exact wpAny_pure (h [] s.drawn .nil)
  | 0, _ :: _, s, Q, e, _ => by cases e
  | n + 1, [], s, Q, e, _ => by cases e
  | n + 1, x :: xs, s, Q, e, h => by
    unfold drawOrder
    refine wpAny_bind (wpAny_chooseN (by simp) fun i d hi => ?_)
    rw [List.getElem?_eq_getElem hi]
    dsimp only
    refine wpAny_bind (wpAny_drawOrder n ((x :: xs).eraseIdx i) (by rw [List.length_eraseIdx_of_lt hi]; omega) fun ys d' p => wpAny_pure ?_)
    exact h _ _ ((List.Perm.cons _ p).trans (by have := eraseS_perm hi; rwa [List.singleton_append] at this))
/-- where a walk stands in the table -/
def stSl (t : SetTable) : Nat → Nat
  | 0 => 0
  | i + 1 => t.place.getD i 0 + 1
/-- the three ways in which a set is walked -/
def SMode (w : World) (a it pl : Addr) (es : Array (Int × Value)) (ep : Nat) (t : SetTable) (out : List Value) (i : Nat) (first : Value) (h : Heap) : Prop :=
  (byTx w = true ∧ first = .int 0 0 ∧ out = (pickOrder (w.params.setOrder a ep) es).toList.map (·.2)) ∨
  (byTx w = false ∧ (!t.plain && decide (es.size > 1)) = false ∧ t.place.toList.Pairwise (· < ·) ∧ first = .int (stSl t i : Nat) 0 ∧ out = es.toList.map (·.2)) ∨
  (byTx w = false ∧ first = .ref pl ∧ pl ≠ it ∧ ∃ ord : List Nat, h.IsTuple pl (ord.map fun i : Nat => rawInt i).toArray ∧ ord.Perm (List.range es.size) ∧ out = ord.map fun i => ((es[i]?).map (·.2)).getD .none)
def SSt (w : World) (a it pl : Addr) (o : Obj) (es : Array (Int × Value)) (ep : Nat) (t : SetTable) (out : List Value) (i : Nat) (h : Heap) : Prop :=
  h.get? a = some o ∧ out.length = es.size ∧ ∃ first, h.get? it = some { cls := .type "set_iterator", data := .fields #[first, .int i 0, .ref a, .int es.size 0, .int ep 0] } ∧ SMode w a it pl es ep t out i first h
structure SFix (w : World) (o : Obj) (es : Array (Int × Value)) (ep : Nat) (t : SetTable) : Prop where
  ex : o.ExactSet
  dat : o.data = .set es ep t
  fit : t.fits es.size = true
  led : t.led = !byTx w
theorem SSt.frame {a it pl : Addr} {o : Obj} {es : Array (Int × Value)} {ep : Nat} {t : SetTable} {out : List Value} {i : Nat} {h h' : Heap} (x : SSt w a it pl o es ep t out i h) (k : ∀ b ∈ [it, a, pl], ∀ o, h.get? b = some o → h'.get? b = some o) : SSt w a it pl o es ep t out i h' := by
  obtain ⟨x1, x2, f, x3, m⟩ := x
  refine ⟨k a (by simp) _ x1, x2, f, k it (by simp) _ x3, ?_⟩
  rcases m with m | m | ⟨m1, m2, m3, ord, m4, m5⟩
  · exact .inl m
  · exact .inr (.inl m)
  · exact .inr (.inr ⟨m1, m2, m3, ord, m4.at fun o e => k pl (by simp) o e, m5⟩)
theorem SSt.type {a it pl : Addr} {o : Obj} {es : Array (Int × Value)} {ep : Nat} {t : SetTable} {out : List Value} {i : Nat} (x : SSt w a it pl o es ep t out i s.heap) : s.TypeIs (.ref it) "set_iterator" := by
  obtain ⟨_, _, f, e, _⟩ := x
  exact ⟨_, e, rfl⟩
theorem fits_size {t : SetTable} {n : Nat} (h : t.fits n = true) : t.place.size = n := by
  simp only [SetTable.fits, Bool.and_eq_true, beq_iff_eq] at h
  exact h.1
theorem setNext_m1 {a : Addr} {o : Obj} {es : Array (Int × Value)} {ep i sl : Nat} {t : SetTable} {Q : Option (Value × Nat) → Shared → Prop} (F : SFix w o es ep t) (x : s.heap.get? a = some o) (m : byTx w = true)
    (q : Q ((((pickOrder (w.params.setOrder a ep) es).toList.map (·.2))[i]?).map fun v => (v, sl)) s) : wpAny (model prog w) A (setNext a sl i ep) Q E s := by
  unfold setNext
  refine wpAny_bind (wpAny_setState_of x F.dat F.fit ?_)
  dsimp only
  unfold setsByText
  refine wpAny_bind (wpAny_bind (wpAny_askSetting (wpAny_pure ?_)))
  refine wpAny_ite_split (fun _ => ?_) (fun z => absurd m z)
  rw [if_neg (by simp)]
  unfold setWalk
  refine wpAny_bind (wpAny_bind (wpAny_setState_of x F.dat F.fit ?_))
  dsimp only
  unfold setsByText
  refine wpAny_bind (wpAny_bind (wpAny_askSetting (wpAny_pure ?_)))
  refine wpAny_ite_split (fun _ => ?_) (fun z => absurd m z)
  refine wpAny_bind (wpAny_askSetting (wpAny_pure ?_))
  refine wpAny_pure ?_
  have e : ((pickOrder (w.params.setOrder a ep) es)[i]?).map (fun e : Int × Value => (e.2, sl)) = (((pickOrder (w.params.setOrder a ep) es).toList.map (·.2))[i]?).map fun v => (v, sl) := by
    rw [List.getElem?_map, Array.getElem?_toList, Option.map_map]
    rfl
  rw [← e] at q
  exact q
theorem setNext_m2 {a : Addr} {o : Obj} {es : Array (Int × Value)} {ep i : Nat} {t : SetTable} {Q : Option (Value × Nat) → Shared → Prop} (F : SFix w o es ep t) (x : s.heap.get? a = some o) (m : byTx w = false) (m2 : (!t.plain && decide (es.size > 1)) = false)
    (m3 : t.place.toList.Pairwise (· < ·)) (hi : i ≤ es.size) (q : Q (((es.toList.map (·.2))[i]?).map fun v => (v, stSl t (i + 1))) s) : wpAny (model prog w) A (setNext a (stSl t i) i ep) Q E s := by
  have hz := fits_size F.fit
  unfold setNext
  refine wpAny_bind (wpAny_setState_of x F.dat F.fit ?_)
  dsimp only
  unfold setsByText
  refine wpAny_bind (wpAny_bind (wpAny_askSetting (wpAny_pure ?_)))
  refine wpAny_ite_split (fun z => absurd ((show byTx w = true from z).symm.trans m) (by decide)) (fun _ => ?_)
  refine wpAny_ite_split (fun z => absurd ((show (!t.plain && decide (es.size > 1)) = true from z).symm.trans m2) (by decide)) (fun _ => ?_)
  show wpAny _ _ ((if (!t.led && !es.isEmpty) = true then unsupported "set:maker-not-led" else pure ()) >>= _) _ _ _
  rw [F.led, m]
  rw [if_neg (by simp)]
  refine wpAny_bind (wpAny_pure (wpAny_pure ?_))
  have e : SetTable.below t.place (stSl t i) = i := by
    cases i with
    | zero => exact SetTable.below_zero m3
    | succ j =>
      have hj : j < t.place.size := by omega
      have : stSl t (j + 1) = t.place[j] + 1 := by unfold stSl; simp [hj]
      rw [this]
      exact SetTable.below_next m3 (by simp [hj])
  rw [e]
  rcases Nat.lt_or_ge i es.size with hl | hl
  · have e1 : es[i]? = some (es[i].1, es[i].2) := by simp [hl]
    have e2 : t.place[i]? = some t.place[i] := by simp [hz, hl]
    rw [e1, e2]
    have e3 : (es.toList.map (·.2))[i]? = some es[i].2 := by rw [List.getElem?_map, Array.getElem?_toList, e1]; rfl
    rw [e3] at q
    have e4 : stSl t (i + 1) = t.place[i] + 1 := by unfold stSl; simp [hz, hl]
    rw [e4] at q
    exact q
  · have e1 : es[i]? = none := by simp [hl]
    have e3 : (es.toList.map (·.2))[i]? = none := by rw [List.getElem?_map, Array.getElem?_toList, e1]; rfl
    rw [e3] at q
    rw [e1]
    exact q
theorem upd_it {h : Heap} {it : Addr} {vs : Array Value} (f : Array Value → Array Value) (ho : h.get? it = some { cls := .type "set_iterator", data := .fields vs }) : (h.update it (Obj.mapFields f)).get? it = some { cls := .type "set_iterator", data := .fields (f vs) } := by
  have := Heap.get?_update_self (Obj.mapFields f) ho (Obj.isFreed_of_fields (Obj.data_mapFields rfl _))
  exact this
theorem pyNext_sit {a it pl : Addr} {o : Obj} {es : Array (Int × Value)} {ep : Nat} {t : SetTable} {out : List Value} {i : Nat} {v : Value} {Q : Option Value → Shared → Prop} (F : SFix w o es ep t) (x : SSt w a it pl o es ep t out i s.heap) (hne : a ≠ it)
    (hv : out[i]? = some v) (q : ∀ h', SSt w a it pl o es ep t out (i + 1) h' → Heap.SameBut it s.heap h' → Q (some v) { s with heap := h' }) : wpAny (model prog w) A (pyNext (.ref it)) Q E s := by
  have ty := x.type
  obtain ⟨x1, x2, first, x3, m⟩ := x
  have hi : i < out.length := by
    rcases Nat.lt_or_ge i out.length with z | z
    · exact z
    · rw [List.getElem?_eq_none z] at hv; cases hv
  unfold pyNext
  refine wpAny_bind (wpAny_attempt (wpAny_callSpecial?_slot (name := Str.ofString "__next__") ty slot_sit (wpAny_call_entry slot_sit ty entry_sit ?_ (args_sit _))))
  show wpAny _ _ (fieldsOf (.ref it) >>= _) _ _ s
  refine wpAny_bind (wpAny_fieldsOf x3 rfl ?_)
  show wpAny _ _ (setEntries a >>= _) _ _ s
  refine wpAny_bind (wpAny_setEntries_of x1 F.dat F.fit ?_)
  rw [if_neg (by simp)]
  have ot : ∀ (f : Obj → Obj) (h : Heap) (b : Addr) (ob : Obj), b ≠ it → h.get? b = some ob → (h.update it f).get? b = some ob := fun f h b ob hb e => (Heap.get?_update_other _ _ (Ne.symm hb)).trans e
  have go : ∀ (sl nx : Nat), s.heap.get? it = some { cls := .type "set_iterator", data := .fields #[.int sl 0, .int i 0, .ref a, .int es.size 0, .int ep 0] } → (∀ h', SMode w a it pl es ep t out (i + 1) (.int nx 0) h') →
      (∀ Q' : Option (Value × Nat) → Shared → Prop, ∀ E', Q' ((out[i]?).map fun v => (v, nx)) s → wpAny (model prog w) A.in1 (setNext a sl i ep) Q' E' s) →
      ∀ {E' : Value → Shared → Prop}, wpAny (model prog w) A.in1 (setNext a ((sl : Int).toNat) ((i : Int).toNat) ((ep : Int).toNat) >>= fun r => match r with
        | some (y, next) => setField (.ref it) 0 (rawInt next) >>= fun _ => setField (.ref it) 1 (rawInt ((i : Int) + 1)) >>= fun _ => ret y
        | none => setField (.ref it) 2 Value.none >>= fun _ => newExc (Value.type "StopIteration") [] >>= fun e => raiseNew e) (fun fin s' => ∃ v, fin = .done (.ret v) ∧ Q (some v) s') E' s := by
    intro sl nx x3 md nxt E'
    simp only [Int.toNat_natCast]
    refine wpAny_bind (nxt _ _ ?_)
    rw [hv]
    dsimp only [Option.map]
    refine wpAny_bind (wpAny_setField x3 rfl (by simp) (wpAny_bind ?_))
    have y1 := upd_it (·.setIfInBounds 0 (rawInt nx)) x3
    refine wpAny_setField (s := { s with heap := s.heap.update it (Obj.mapFields (·.setIfInBounds 0 (rawInt nx))) }) y1 rfl (by simp) (wpAny_pure ⟨v, rfl, ?_⟩)
    have y2 := upd_it (·.setIfInBounds 1 (rawInt ((i : Int) + 1))) y1
    exact q _ ⟨ot _ _ a o hne (ot _ _ a o hne x1), x2, .int nx 0, by rw [y2]; simp [rawInt], md _⟩ ((Heap.SameBut.update ..).trans (Heap.SameBut.update ..))
  rcases m with ⟨m1, rfl, m2⟩ | ⟨m1, m2, m3, rfl, m4⟩ | ⟨m1, rfl, m2, ord, ⟨ot', t1, t2, nt, t3⟩, m4, m5⟩
  · exact wpAny_mono (go 0 0 x3 (fun h' => .inl ⟨m1, rfl, m2⟩) fun Q' E' q' => setNext_m1 F x1 m1 (by rw [← m2]; exact q')) (fun fin s' ⟨v, e, h⟩ => ⟨v, e, wpAny_pure h⟩) fun e s' h => h
  · exact wpAny_mono (go (stSl t i) (stSl t (i + 1)) x3 (fun h' => .inr (.inl ⟨m1, m2, m3, rfl, m4⟩)) fun Q' E' q' => setNext_m2 F x1 m1 m2 m3 (by omega) (by rw [← m4]; exact q')) (fun fin s' ⟨v, e, h⟩ => ⟨v, e, wpAny_pure h⟩) fun e s' h => h
  · show wpAny _ _ (seqItems? (.ref pl) >>= _) _ _ s
    refine wpAny_bind (wpAny_seqItems t1 t3 ?_)
    rw [m5, List.getElem?_map] at hv
    cases ho : ord[i]? with
    | none => rw [ho] at hv; cases hv
    | some j =>
      rw [ho] at hv
      have hj : j < es.size := by
        have : j ∈ List.range es.size := m4.mem_iff.mp (List.mem_of_getElem? ho)
        exact List.mem_range.mp this
      have ej : es[j]? = some (es[j].1, es[j].2) := by simp [hj]
      have ev : v = es[j].2 := by simp only [Option.map_some, ej] at hv; cases hv; rfl
      have ep1 : ((ord.map fun i : Nat => rawInt i).toArray)[(i : Int).toNat]? = some (.int j 0) := by
        rw [List.getElem?_toArray, Int.toNat_natCast, List.getElem?_map, ho]
        rfl
      dsimp only
      rw [ep1]
      dsimp only
      refine wpAny_bind ?_
      unfold setNextDrawn
      refine wpAny_bind (wpAny_setState_of x1 F.dat F.fit ?_)
      dsimp only
      rw [if_neg (by simp), Int.toNat_natCast, ej]
      dsimp only
      refine wpAny_pure ?_
      refine wpAny_bind (wpAny_setField x3 rfl (by simp) (wpAny_pure ⟨_, rfl, wpAny_pure ?_⟩))
      have y2 := upd_it (·.setIfInBounds 1 (rawInt ((i : Int) + 1))) x3
      rw [← ev]
      exact q _ ⟨ot _ _ a o hne x1, x2, .ref pl, by rw [y2]; simp [rawInt], .inr (.inr ⟨m1, rfl, m2, ord, ⟨ot', ot _ _ pl ot' m2 t1, t2, nt, t3⟩, m4, m5⟩)⟩ (Heap.SameBut.update ..)
theorem pyNext_sit_end {a it pl : Addr} {o : Obj} {es : Array (Int × Value)} {ep : Nat} {t : SetTable} {out : List Value} {Q : Option Value → Shared → Prop} (hh : A.handled = none) (F : SFix w o es ep t) (x : SSt w a it pl o es ep t out out.length s.heap)
    (q : ∀ h', Heap.ExtBut it s.heap h' → Q none { s with heap := h' }) : wpAny (model prog w) A (pyNext (.ref it)) Q E s := by
  have ty := x.type
  obtain ⟨x1, x2, first, x3, m⟩ := x
  unfold pyNext
  refine wpAny_bind (wpAny_attempt (wpAny_callSpecial?_slot (name := Str.ofString "__next__") ty slot_sit (wpAny_call_entry slot_sit ty entry_sit ?_ (args_sit _))))
  show wpAny _ _ (fieldsOf (.ref it) >>= _) _ _ s
  refine wpAny_bind (wpAny_fieldsOf x3 rfl ?_)
  show wpAny _ _ (setEntries a >>= _) _ _ s
  refine wpAny_bind (wpAny_setEntries_of x1 F.dat F.fit ?_)
  rw [if_neg (by simp)]
  have fin : ∀ {α : Type} (h1 : Heap) (B : Around) (Q' : α → Shared → Prop), B.handled = none → Heap.ExtBut it s.heap h1 → wpAny (model prog w) B (newExc (Value.type "StopIteration") [] >>= fun e => raiseNew e)
      Q' (fun e s' => wpAny (model prog w) A (isInstance e (Value.type "StopIteration") >>= fun b => if b = true then pure none else throw e) Q E s') { s with heap := h1 } := by
    intro α h1 B Q' hB k1
    refine wpAny_bind ?_
    simp only [newExc, newTuple]
    refine wpAny_bind (wpAny_newObj_type (wpAny_bind (m := firstArgMember _ _) (wpAny_of_eq (a := Value.none) (by first | rfl | (simp only [firstArgMember]; rfl)) (wpAny_newObj_type ?_ (by size_fits)))) (by size_fits))
    simp only [raiseNew]
    refine wpAny_bind (wpAny_handled ?_)
    rw [hB]
    refine wpAny_bind (wpAny_pure (wpAny_throw ?_))
    refine wpAny_bind (wpAny_isInstance (T := "StopIteration") (b := true) ⟨_, Heap.get?_push_size _ rfl, rfl⟩ isSubtype_stop (wpAny_pure ?_))
    exact q _ ((k1.push _).push _)
  have no : out[out.length]? = none := by simp
  rcases m with ⟨m1, rfl, m2⟩ | ⟨m1, m2, m3, rfl, m4⟩ | ⟨m1, rfl, m2, ord, ⟨ot', t1, t2, nt, t3⟩, m4, m5⟩
  · show wpAny _ _ (setNext a _ _ _ >>= _) _ _ s
    simp only [Int.toNat_natCast]
    refine wpAny_bind (setNext_m1 F x1 m1 ?_)
    rw [← m2, no]
    dsimp only [Option.map]
    exact wpAny_bind (wpAny_setField x3 rfl (by simp) (fin _ _ _ hh (Heap.SameBut.update ..).extBut))
  · show wpAny _ _ (setNext a _ _ _ >>= _) _ _ s
    simp only [Int.toNat_natCast]
    refine wpAny_bind (setNext_m2 F x1 m1 m2 m3 (by omega) ?_)
    rw [← m4, no]
    dsimp only [Option.map]
    exact wpAny_bind (wpAny_setField x3 rfl (by simp) (fin _ _ _ hh (Heap.SameBut.update ..).extBut))
  · show wpAny _ _ (seqItems? (.ref pl) >>= _) _ _ s
    refine wpAny_bind (wpAny_seqItems t1 t3 ?_)
    have ol : ord.length = out.length := by rw [m5, List.length_map]
    have ep1 : ((ord.map fun i : Nat => rawInt i).toArray)[((out.length : Nat) : Int).toNat]? = none := by
      rw [List.getElem?_toArray, Int.toNat_natCast, List.getElem?_map, List.getElem?_eq_none (by omega)]
      rfl
    dsimp only
    rw [ep1]
    dsimp only
    refine wpAny_bind (wpAny_setField x3 rfl (by simp) (wpAny_bind ?_))
    have y1 := upd_it (·.setIfInBounds 0 (rawInt 0)) x3
    exact wpAny_setField (s := { s with heap := s.heap.update it (Obj.mapFields (·.setIfInBounds 0 (rawInt 0))) }) y1 rfl (by simp) (fin _ _ _ hh ((Heap.SameBut.update ..).trans (Heap.SameBut.update ..)).extBut)
end
end PySem

set_option Elab.async false
set_option linter.all false
set_option maxRecDepth 100000
/-! sorted(set(..)) of whole numbers. -/
namespace PySem
open Sem (wp)
open PyProof.Rows
theorem slot_sitI : Slot "set_iterator" "__iter__" "set_iterator.__iter__" :=
  Slot.of (owner := "set_iterator") (n := "__iter__") (by rw [typeLookup_type, builtinLookup_eq_fast]; kernel_rfl) (by decide +kernel) (by decide +kernel)
    (by decide +kernel) (by first | exact .inl (by decide +kernel) | exact .inr (by decide +kernel)) (by rw [isSubtype_type]; kernel_rfl)
theorem entry_sitI : entryFor table "set_iterator.__iter__" = some Builtin.«dict_keyiterator.__iter__» := entryFor_alias (id' := "dict_keyiterator.__iter__") (by kernel_rfl) rfl (by decide +kernel) (by kernel_rfl)
theorem args_sitI (a : Value) : argsOk "set_iterator.__iter__" ⟨[a], []⟩ := by unfold argsOk; kernel_rfl
section
variable {prog : Program} {w : World} {A : Around} {E : Value → Shared → Prop} {s : Shared}
theorem IEl.ints {l : List (Int × Value)} : IEl l → IntsAre (l.map (·.2)) (l.filterMap iOf) := by
  induction l with
  | nil => intro _; exact .nil
  | cons e l ih =>
    intro h
    obtain ⟨k, t, rfl⟩ := h e (by simp)
    exact .cons k t (ih fun e he => h e (by simp [he]))
theorem map_pick (es : Array (Int × Value)) : ∀ (l : List Nat), (∀ j ∈ l, j < es.size) → (l.map fun i => ((es[i]?).map (·.2)).getD Value.none) = (l.filterMap fun i => es[i]?).map (·.2)
  | [], _ => rfl
  | j :: l, h => by
    have hj := h j (by simp)
    have e : es[j]? = some es[j] := by simp [hj]
    rw [List.map_cons, List.filterMap_cons, e, map_pick es l fun i hi => h i (by simp [hi])]
    rfl
theorem pyIter_seti {a : Addr} {ns : List Int} {Q : Value → Shared → Prop} (x : SetI w a ns s.heap) (q : ∀ h' d' it pl o es ep t out ms, SFix w o es ep t → SSt w a it pl o es ep t out 0 h' → (∀ b ob, s.heap.get? b = some ob → h'.get? b = some ob) →
      s.heap.objs.size ≤ it → s.heap.objs.size ≤ pl → IntsAre out ms → ms.Perm ns → Q (.ref it) { s with heap := h', drawn := d' }) : wpAny (model prog w) A (pyIter (.ref a)) Q E s := by
  have ty := x.type
  obtain ⟨o, es, ep, t, ho, ex, hd, h1, h2, h3, h4, h5, h6⟩ := x
  have F : SFix w o es ep t := ⟨ex, hd, h4, h5⟩
  have hz := fits_size h4
  refine wpAny_pyIter_slot ty PySem.F.slot_set_iter (wpAny_call_entry PySem.F.slot_set_iter ty entry_siter ?_ (PySem.F.args_set_iter_1 _))
  unfold Builtin.«frozenset.__iter__» Builtin.Frozenset.slot0 slotArgs
  simp only [List.isEmpty_nil, Bool.not_true, Bool.false_eq_true, ↓reduceIte, bind_assoc, List.length_nil, bne_self_eq_false]
  unfold Builtin.Frozenset.addrOf Builtin.Frozenset.sizeOf
  refine wpAny_bind (wpAny_pure ?_)
  try dsimp only
  refine wpAny_bind (wpAny_pure ?_)
  refine wpAny_bind (wpAny_bind (wpAny_setEntries_of ho hd h4 (wpAny_pure ?_)))
  unfold setDrawn
  refine wpAny_bind (wpAny_bind (wpAny_setState_of ho hd h4 ?_))
  dsimp only
  unfold setsByText
  refine wpAny_bind (wpAny_bind (wpAny_askSetting (wpAny_pure (wpAny_pure ?_))))
  have fin : ∀ (h' : Heap) (d' : _) (pl : Addr) (first : Value) (out : List Value) (ms : List Int), (∀ b ob, s.heap.get? b = some ob → h'.get? b = some ob) → s.heap.objs.size ≤ h'.objs.size → s.heap.objs.size ≤ pl →
      SMode w a h'.objs.size pl es ep t out 0 first (h'.push { cls := .type "set_iterator", data := .fields #[first, .int 0 0, .ref a, .int es.size 0, .int ep 0] }) → out.length = es.size → IntsAre out ms → ms.Perm ns →
      wpAny (model prog w) A.in1 (setEpoch a >>= fun e => newFields "set_iterator" [first, rawInt 0, .ref a, rawInt es.size, rawInt e] >>= fun v => ret v)
        (fun fin s' => ∃ v, fin = .done (.ret v) ∧ ∃ T' r, s'.TypeIs v T' ∧ typeLookup (.type T') "__next__" = pure (some r) ∧ Q v s') E { s with heap := h', drawn := d' } := by
    intro h' d' pl first out ms kp z1 z2 md ol ia pm
    refine wpAny_bind (wpAny_setEpoch_of (s := { s with heap := h', drawn := d' }) (kp a o ho) hd h4 ?_)
    unfold newFields
    refine wpAny_bind (wpAny_newObj_type (wpAny_pure ⟨_, rfl, "set_iterator", _, ⟨_, Heap.get?_push_size _ rfl, rfl⟩, slot_sit.lookup, ?_⟩))
    have g : (h'.push { cls := .type "set_iterator", data := .fields #[first, .int 0 0, .ref a, .int es.size 0, .int ep 0] }).get? h'.objs.size = some { cls := .type "set_iterator", data := .fields #[first, .int 0 0, .ref a, .int es.size 0, .int ep 0] } := Heap.get?_push_size _ rfl
    exact q _ d' h'.objs.size pl o es ep t out ms F ⟨Heap.get?_push_of_some _ (kp a o ho), ol, first, g, md⟩ (fun b ob e => Heap.get?_push_of_some _ (kp b ob e)) z1 z2 ia pm
  cases hb : byTx w with
  | true =>
    refine wpAny_ite_split (fun z => ?_) (fun _ => ?_)
    · exfalso
      have : (!byTx w && (!t.plain && decide (es.size > 1))) = true := z
      rw [hb] at this
      cases this
    · refine wpAny_bind (wpAny_pure ?_)
      have p1 := pickOrder_perm (w.params.setOrder a ep) es
      refine fin s.heap s.drawn s.heap.objs.size (.int 0 0) _ _ (fun _ _ e => e) (Nat.le_refl _) (Nat.le_refl _) (.inl ⟨hb, rfl, rfl⟩) ?_ (IEl.ints (h1.perm p1)) ((p1.filterMap iOf).trans h2)
      rw [List.length_map, p1.length_eq, Array.length_toList]
  | false =>
    refine wpAny_ite_split (fun z => ?_) (fun z => ?_)
    · refine wpAny_bind (wpAny_drawOrder es.size (List.range es.size) (by simp) fun ord d' p => ?_)
      refine wpAny_bind (wpAny_newTuple ?_ ?_)
      · have lt : ∀ j ∈ ord, j < es.size := fun j hj => List.mem_range.mp (p.mem_iff.mp hj)
        have p1 : (ord.filterMap fun i => es[i]?).Perm es.toList := (p.filterMap _).trans (by rw [filterMap_getElem?_range])
        have g : (s.heap.push { cls := .type "tuple", data := .seq (ord.map fun i : Nat => rawInt i).toArray }).get? s.heap.objs.size = some { cls := .type "tuple", data := .seq (ord.map fun i : Nat => rawInt i).toArray } := Heap.get?_push_size _ rfl
        refine fin _ d' s.heap.objs.size (.ref s.heap.objs.size) (ord.map fun i => ((es[i]?).map (·.2)).getD .none) ((ord.filterMap fun i => es[i]?).filterMap iOf) (fun b ob e => Heap.get?_push_of_some _ e) (by rw [Heap.size_push]; exact Nat.le_succ _) (Nat.le_refl _) ?_ ?_ ?_ ((p1.filterMap iOf).trans h2)
        · refine .inr (.inr ⟨hb, rfl, by rw [Heap.size_push]; exact Nat.ne_of_lt (Nat.lt_succ_self _), ord, ⟨_, Heap.get?_push_of_some _ g, rfl, 0, rfl⟩, p, rfl⟩)
        · rw [List.length_map, p.length_eq, List.length_range]
        · rw [map_pick es ord lt]
          exact IEl.ints (h1.perm p1)
      · have : ord.length = es.size := by rw [p.length_eq, List.length_range]
        have hb : scanBound = 4096 := rfl
        simp only [List.length_map, this]
        rw [sizeLine_eq]
        omega
    · refine wpAny_bind (wpAny_pure ?_)
      have z' : (!t.plain && decide (es.size > 1)) = false := by
        have : ¬ (!byTx w && (!t.plain && decide (es.size > 1))) = true := z
        rw [hb] at this
        simpa using this
      refine fin s.heap s.drawn s.heap.objs.size (.int 0 0) _ _ (fun _ _ e => e) (Nat.le_refl _) (Nat.le_refl _) (.inr (.inl ⟨hb, z', ?_, rfl, rfl⟩)) ?_ (IEl.ints h1) h2
      · cases hp : t.plain with
        | true => exact h6 hp
        | false =>
          rw [hp] at z'
          have : t.place.toList.length ≤ 1 := by rw [Array.length_toList, hz]; simpa using z'
          match t.place.toList, this with
          | [], _ => exact .nil
          | [a], _ => exact List.pairwise_singleton _ _
          | _ :: _ :: _, h => exact absurd h (by simp)
      · rw [List.length_map, Array.length_toList]
theorem pyIter_sit {a it pl : Addr} {o : Obj} {es : Array (Int × Value)} {ep : Nat} {t : SetTable} {out : List Value} {i : Nat} {Q : Value → Shared → Prop} (x : SSt w a it pl o es ep t out i s.heap) (q : Q (.ref it) s) : wpAny (model prog w) A (pyIter (.ref it)) Q E s := by
  have ty := x.type
  refine wpAny_pyIter_slot ty slot_sitI (wpAny_call_entry slot_sitI ty entry_sitI ?_ (args_sitI _))
  show wpAny _ _ (ret (.ref it)) _ _ s
  exact wpAny_pure ⟨_, rfl, "set_iterator", _, ty, slot_sit.lookup, q⟩
theorem walks_set {a it pl : Addr} {o : Obj} {es : Array (Int × Value)} {ep : Nat} {t : SetTable} (out : List Value) (hh : A.handled = none) (F : SFix w o es ep t) (hne : a ≠ it) :
    Walks prog w A it [it, a, pl] [it] out.length (fun i v => out[i]? = some v) (SSt w a it pl o es ep t out) where
  sub := fun b hb => by simp at hb; simp [hb]
  frame := fun _ _ _ st k => st.frame k
  item := fun i s Q E hi st hQ => by
    have e : out[i]? = some out[i] := by simp [hi]
    exact pyNext_sit F st hne e fun h' st' sb => hQ _ h' s.toks e st' fun b ob hb e => sb.extBut b ob (fun h => hb (by simp [h])) e
  done := fun s Q E st hQ => pyNext_sit_end hh F st fun h' ex => hQ h' s.toks fun b ob hb e => ex b ob (fun h => hb (by simp [h])) e
  self := fun _ _ _ _ st hQ => pyIter_sit st hQ
end
end PySem

set_option Elab.async false
set_option linter.all false
set_option maxRecDepth 100000
namespace PySem
open Sem (wp)
open PyProof.Rows
section
variable {prog : Program} {w : World} {A : Around} {E : Value → Shared → Prop} {s : Shared}
theorem hint_set {d : Addr} {ns : List Int} {Q : Bool → Shared → Prop} (x : SetI w d ns s.heap) (h : ∀ b, Q b s) : wpAny (model prog w) A (Builtin.List.listLengthHint (.ref d)) Q E s := by
  have ty := x.type
  unfold Builtin.List.listLengthHint
  refine wpAny_bind (wpAny_specialOf ty F.slot_set_len.lookup ?_)
  generalize hj : ("set.__len__" : String) = j0
  wp_delta
  rw [show splitId j0 = some ("set", "__len__") from by subst hj; decide +kernel]
  subst hj
  refine wpAny_bind (wpAny_isInstance (T := "set") (b := true) ty (by rw [isSubtype_type]; kernel_rfl) ?_)
  refine wpAny_ite_split (fun z => absurd z (by decide)) (fun _ => ?_)
  refine wpAny_ite_split (fun _ => ?_) (fun z => absurd (by decide +kernel) z)
  exact wpAny_bind (wpAny_typeOf ty (wpAny_pure (h _)))
theorem extend_set {R : Result → Shared → Prop} {d : Addr} {ns : List Int} (hh : A.handled = none) (x : SetI w d ns s.heap) (hlen : ns.length ≤ sizeLine) (S : Addr) (res : Value) (c₀ : Nat) (hS : s.heap.get? S = some { cls := .type "list", data := .seq #[] c₀ })
    (hR : ∀ h' tk d' acc' c' ms, (∀ b o, b ≠ S → s.heap.get? b = some o → h'.get? b = some o) → h'.get? S = some { cls := .type "list", dict := none, data := .seq acc' c', slots := #[] } → IntsAre acc'.toList ms → ms.Perm ns →
      R (.ok (.ret res)) { s with heap := h', toks := tk, drawn := d' }) :
    wpAny (model prog w) A.in1 (Builtin.List.listExtendWith (.ref S) (.ref d) res)
      (fun fin s' => match fin with | .done f => R (.ok f) s' | .again c' => c'.quiet = true ∧ codeAny (model prog w) A c' R s') (fun e s' => R (.error e) s') s := by
  have ty := x.type
  have hdl : d < s.heap.objs.size := by obtain ⟨o, es, ep, t, e, _⟩ := id x; exact Heap.lt_size e
  have hSl : S < s.heap.objs.size := Heap.lt_size hS
  have hSd : S ≠ d := fun z => by
    obtain ⟨o, e, c⟩ := ty
    rw [← z, hS] at e
    cases e
    exact absurd (show Value.type "list" = Value.type "set" from c) (by decide)
  unfold Builtin.List.listExtendWith
  refine wpAny_bind (wpAny_typeOf ty ?_)
  have n1 : Builtin.List.listSameRef (.ref S) (.ref d) = false := by simp [Builtin.List.listSameRef, hSd]
  have n2 : (Value.type "set" == Value.type "list") = false := by decide
  have n3 : (Value.type "set" == Value.type "tuple") = false := by decide
  simp only [n1, n2, n3, Bool.or_false, Bool.false_eq_true, if_false]
  refine wpAny_bind (pyIter_seti x fun h1 d1 it pl o es ep t out ms Fx st kp₁ hit hpl ia pm => ?_)
  have hne : d ≠ it := Nat.ne_of_lt (Nat.lt_of_lt_of_le hdl hit)
  have hSI : S ≠ it := Nat.ne_of_lt (Nat.lt_of_lt_of_le hSl hit)
  have hSp : S ≠ pl := Nat.ne_of_lt (Nat.lt_of_lt_of_le hSl hpl)
  have hSf : S ∉ [it, d, pl] := fun z => by
    rcases List.mem_cons.mp z with z | z
    · exact hSI z
    · rcases List.mem_cons.mp z with z | z
      · exact hSd z
      · exact hSp (List.mem_singleton.mp z)
  have W := (walks_set (prog := prog) (w := w) (A := A.in1) (a := d) (it := it) (pl := pl) out hh Fx hne).toS
  have ol : out.length = ns.length := by rw [← pm.length_eq]; exact IntsAre.length ia
  have run : ∀ (h : Heap) (c₁ tk : Nat), SSt w d it pl o es ep t out 0 h → (∀ b o, b ≠ S → s.heap.get? b = some o → h.get? b = some o) →
      h.get? S = some { cls := .type "list", data := .seq #[] c₁ } → codeAny (model prog w) A (.builtin "list.extend.loop" ⟨[.ref S, .ref it, res], []⟩) R { s with heap := h, toks := tk, drawn := d1 } := by
    intro h c₁ tk st1 hk hS₁
    refine codeAny_extend_loopS W (by omega) S hSf res out.length 0 _ #[] c₁ rfl (Nat.zero_le _) st1 hS₁ (ItemsOf.nil _) fun s' acc' c' mv hS' hacc => ?_
    have es' := Moved.eq_with mv
    have hal : acc'.toList = out := by
      refine List.ext_getElem? fun j => ?_
      rw [Array.getElem?_toList]
      rcases Nat.lt_or_ge j acc'.size with hj | hj
      · have e : acc'[j]? = some acc'[j] := by simp [hj]
        rw [e, hacc.2 j _ e]
      · rw [Array.getElem?_eq_none hj, List.getElem?_eq_none (by have := hacc.1; omega)]
    rw [es']
    refine hR s'.heap s'.toks d1 acc' c' ms (fun b o hb e => mv.heap b o (fun z => ?_) (hk b o hb e)) hS' (by rw [hal]; exact ia) pm
    rcases List.mem_cons.mp z with z | z
    · exact hb z
    · have : b = it := by simpa using z
      exact absurd (Nat.lt_of_lt_of_le (Heap.lt_size e) hit) (by rw [this]; exact Nat.lt_irrefl _)
  have hS₁ := kp₁ S _ hS
  refine wpAny_bind (wpAny_holding (hint_set (s := { s with heap := h1, drawn := d1 }) (x.keep fun o e => kp₁ _ o e) fun b => ?_))
  refine wpAny_ite_split (fun _ => ?_) (fun _ => wpAny_pure ⟨plainId_quiet F.plain_extend_loop _, run h1 c₀ s.toks st (fun b o _ e => kp₁ b o e) hS₁⟩)
  refine wpAny_bind (wpAny_rule (wpAny_bind ?_))
  show wpAny _ _ (updateSeq S (·.push .none) >>= fun _ => updateSeq S (·.pop)) _ _ { s with heap := h1, drawn := d1 }
  refine wpAny_bind (wpAny_updateSeq hS₁ rfl ?_)
  have hS₂ := Heap.get?_update_self (Obj.mapSeq (·.push Value.none)) hS₁ rfl
  refine wpAny_updateSeq (hz := by seq_fits) hS₂ rfl ?_
  have hS₃ := Heap.get?_update_self (Obj.mapSeq (·.pop)) hS₂ rfl
  have kp₃ : ∀ b o, b ≠ S → h1.get? b = some o → ((h1.update S (Obj.mapSeq (·.push Value.none))).update S (Obj.mapSeq (·.pop))).get? b = some o := fun b o hb e =>
    (Heap.get?_update_other _ _ (Ne.symm hb)).trans ((Heap.get?_update_other _ _ (Ne.symm hb)).trans e)
  refine wpAny_pure ⟨plainId_quiet F.plain_extend_loop _, run _ _ s.toks (st.frame fun b hb o e => kp₃ _ o (fun z => hSf (z ▸ hb)) e) (fun b o hb e => kp₃ b o hb (kp₁ b o e)) hS₃⟩
theorem collect_set {Q : List Value → Shared → Prop} {d : Addr} {ns : List Int} (hh : A.handled = none) (x : SetI w d ns s.heap) (hlen : ns.length ≤ sizeLine)
    (hQ : ∀ h' tk d' acc ms, (∀ b o, s.heap.get? b = some o → h'.get? b = some o) → IntsAre acc ms → ms.Perm ns → Q acc { s with heap := h', toks := tk, drawn := d' }) : wpAny (model prog w) A (collect (.ref d)) Q E s := by
  unfold collect
  refine wpAny_bind (wpAny_runValue (codeAny_builtin F.entry_proto_collect ?_))
  rw [Around.under_plainId F.plain_proto_collect _]
  show wpAny _ A.in1 (newList [] >>= fun l => again (.builtin "list.__iadd__" ⟨[l, .ref d], []⟩)) _ _ s
  refine wpAny_bind (wpAny_newObj_type (wpAny_pure ⟨plainId_quiet F.plain_list_iadd _, codeAny_builtin F.entry_list_iadd ?_⟩))
  rw [Around.under_plainId F.plain_list_iadd _]
  show wpAny _ A.in1 (Builtin.List.listExtendWith (.ref s.heap.objs.size) (.ref d) (.ref s.heap.objs.size)) _ _ _
  have hS : (s.heap.push { cls := .type "list", data := .seq ([] : List Value).toArray }).get? s.heap.objs.size = some { cls := .type "list", data := .seq #[] 0 } := Heap.get?_push_size _ rfl
  have k0 : ∀ b o, s.heap.get? b = some o → (s.heap.push { cls := .type "list", data := .seq ([] : List Value).toArray }).get? b = some o := fun b o e => Heap.get?_push_of_some _ e
  generalize s.heap.push { cls := .type "list", data := .seq ([] : List Value).toArray } = h0 at hS k0 ⊢
  have fin' : ∀ (h' : Heap) (tk : Nat) (d' : Drawn) (acc : Array Value) (c' : Nat) (ms : List Int), (∀ b o, b ≠ s.heap.objs.size → h0.get? b = some o → h'.get? b = some o) →
      h'.get? s.heap.objs.size = some { cls := .type "list", dict := none, data := .seq acc c', slots := #[] } → IntsAre acc.toList ms → ms.Perm ns →
      wpAny (model prog w) A (match Value.ref s.heap.objs.size with
      | Value.ref a => do
        match (← load a).data with
          | Data.seq xs _ => pure xs.toList
          | _ => unsupported "internal:collect"
      | _ => unsupported "internal:collect") Q E { s with heap := h', toks := tk, drawn := d' } := fun h' tk d' acc c' ms kp e hi pm => by
    show wpAny _ A (load s.heap.objs.size >>= _) _ _ _
    refine wpAny_bind (wpAny_load e ?_)
    exact wpAny_pure (hQ h' tk d' acc.toList ms (fun b o hb => kp b o (Nat.ne_of_lt (Heap.lt_size hb)) (k0 b o hb)) hi pm)
  refine wpAny_mono (extend_set (A := A) (R := fun r' s' => r' = .ok (.ret (.ref s.heap.objs.size)) ∧ ∃ h' tk d' acc c' ms, s' = { s with heap := h', toks := tk, drawn := d' } ∧ (∀ b o, b ≠ s.heap.objs.size → h0.get? b = some o → h'.get? b = some o) ∧
      h'.get? s.heap.objs.size = some { cls := .type "list", dict := none, data := .seq acc c', slots := #[] } ∧ IntsAre acc.toList ms ∧ ms.Perm ns)
    (s := { s with heap := h0 }) hh (x.keep fun o e => k0 _ o e) hlen s.heap.objs.size (.ref s.heap.objs.size) 0 hS fun h' tk d' acc c' ms kp e hi pm => ⟨rfl, h', tk, d', acc, c', ms, rfl, kp, e, hi, pm⟩) (fun fin s' h => ?_) (fun e s' h => ?_)
  · cases fin with
    | done f =>
      obtain ⟨e, h', tk, d', acc, c', ms, rfl, kp, q, hi, pm⟩ := h
      cases e
      exact fin' h' tk d' acc c' ms kp q hi pm
    | again c' => exact ⟨h.1, codeAny_mono h.2 fun r s'' hr => by obtain ⟨rfl, h', tk, d', acc, c', ms, rfl, kp, q, hi, pm⟩ := hr; exact fin' h' tk d' acc c' ms kp q hi pm⟩
  · exact absurd h.1 (by simp)
end
end PySem
namespace L2
open PySem PySem.Spec PyProof.Rows
section
variable {X : Cx}
theorem push_at {z : Heap} {n : Nat} {ob : Obj} (h : z.objs.size = n) (hf : ob.isFreed = false) : (z.push ob).get? n = some ob := h ▸ Heap.get?_push_size _ hf
theorem Inv.drawn {pins : List (Addr × Obj)} {s : Shared} {σ : St} {H : Hp} (I : Inv X pins σ H s) (d : Drawn) : Inv X pins σ H { s with drawn := d } :=
  { ok := I.ok, os := I.os, bare := I.bare, base := I.base, loc := I.loc, cell := I.cell, free := I.free, freeC := I.freeC, pin := I.pin, hok := I.hok, len := I.len }
theorem call_sortedS (w : World) (hc : X.calm = true) (hw : X.w = w := by rfl) : CallR X (.builtin "sorted") (fun xs H Q => ∃ (p : Addr) (ns : List Int), xs = [.ref p] ∧ H p = some (.ext (SetI w p ns)) ∧ ns.length < 64 ∧
    ∀ (l : Addr) (ms : List Int), ms.Perm ns → ms.Pairwise (· ≤ ·) → H l = none → Q (.ref l) (upd H l (.lst (ms.map V.int)))) := by
  subst hw
  intro pins s σ H xs us Q I r h
  obtain ⟨p, ns, rfl, hp, h64, q⟩ := h
  obtain ⟨u, rfl, ru⟩ := vals1 r
  cases ru
  obtain ⟨x, _, _⟩ := I.hok p _ hp
  refine Calls.call_function_entry kind_sorted plain_sorted entry_sorted (args_sorted1 _) ?_
  unfold Builtin.«sorted»
  refine wpAny_bind (m := checkCount "sorted" 1 1 _) (wpAny_pure ?_)
  refine wpAny_bind (collect_set (A := X.A.in1) (I.ok.hd hc) x (by rw [show sizeLine = 16777216 by decide]; omega) fun h1 tk d1 acc ms hkp hI hpm => ?_)
  have hal : acc.length < 64 := by
    rw [IntsAre.length hI, hpm.length_eq]
    exact h64
  refine wpAny_bind (wpAny_newList ?_)
  have hoL : (h1.push (seqObj "list" acc.toArray 0)).get? h1.objs.size = some (seqObj "list" acc.toArray 0) := Heap.get?_push_size _ rfl
  show wpAny _ _ _ _ _ { s with heap := h1.push (seqObj "list" acc.toArray 0), toks := tk, drawn := d1 }
  refine wpAny_bind (wpAny_holding (wpAny_call_entry slot_list_sort ⟨_, hoL, rfl⟩ entry_list_sort (list_sort_tree hoL hI hal fun out ns' a1 a2 a3 => ⟨_, rfl, ?_⟩) (args_list_sort _)))
  refine wpAny_pure ⟨_, rfl, ?_⟩
  have hm := a2.length_eq
  have hm2 := hpm.length_eq
  have hv : Vals (ns'.map V.int) out.toList := Vals.of_ints a1
  have hsz : (ns'.map V.int).length ≤ sizeLine := by rw [List.length_map, show sizeLine = 16777216 by decide]; omega
  have I1 : Inv X pins σ H { s with heap := h1, toks := tk, drawn := d1 } := (I.kept (t' := tk) hkp).drawn d1
  have kp2 : ∀ b ob, h1.get? b = some ob → (sortedHeap (h1.push (seqObj "list" acc.toArray 0)) h1.objs.size acc out).get? b = some ob := by
    intro b ob e
    have hb : h1.objs.size ≠ b := Nat.ne_of_gt (Heap.lt_size e)
    unfold sortedHeap
    rw [Heap.get?_update_other _ _ hb]
    refine Heap.get?_push_of_some _ (Heap.get?_push_of_some _ ?_)
    rw [Heap.get?_update_other _ _ hb]
    exact Heap.get?_push_of_some _ e
  have nw : ∃ n, (sortedHeap (h1.push (seqObj "list" acc.toArray 0)) h1.objs.size acc out).get? h1.objs.size = some { cls := .type "list", data := .seq out n } := by
    have g2 := Heap.get?_update_self (Obj.mapSeq fun _ => (#[] : Array Value)) hoL rfl
    have g3 := Heap.get?_push_of_some (seqObj "list" #[] 0) (Heap.get?_push_of_some (seqObj "tuple" acc.toArray 0) g2)
    have g4 := Heap.get?_update_self (Obj.mapSeq fun _ => out) g3 rfl
    exact ⟨_, g4⟩
  obtain ⟨n, nw⟩ := nw
  exact ⟨.ref h1.objs.size, _, I1.laid (t' := tk) (o := .lst (ns'.map V.int)) kp2 (Nat.le_refl _) ⟨hsz, out.toList, n, hv, by simpa using nw⟩, rfl, q _ ns' (a2.trans hpm) a3 (I1.hok.fresh (Nat.le_refl _))⟩
theorem call_setS (K : PySem.W.Frag) (w : World) (hc : X.calm = true) (hk : X.K = K := by rfl) (hw : X.w = w := by rfl) : CallR X (.type "set") (fun xs H Q => ∃ (p : Addr) (ns : List Int), xs = [.ref p] ∧ (SqL K H p (ns.map V.int) ∨ SqT K H p (ns.map V.int)) ∧ ns.length < 4000 ∧
    ∀ (l : Addr) (ms : List Int), ms.Nodup → (∀ k, k ∈ ms ↔ k ∈ ns) → ms.length ≤ ns.length → H l = none → Q (.ref l) (upd H l (.ext (SetI w l ms)))) := by
  subst hk hw
  intro pins s σ H xs us Q I r h
  obtain ⟨p, ns, rfl, hp, hlt, q⟩ := h
  obtain ⟨u, rfl, ru⟩ := vals1 r
  cases ru
  have mem : ∀ (n : Nat) (k : Int), n = ns.length → (k ∈ onceN (fun i => ns.getD i 0) n ↔ k ∈ ns) := by
    intro n k e
    subst e
    rw [onceN_mem, List.mem_iff_getElem]
    constructor
    · rintro ⟨j, hj, e⟩
      exact ⟨j, hj, by rw [← e]; simp [hj]⟩
    · rintro ⟨j, hj, e⟩
      exact ⟨j, hj, by rw [← e]; simp [hj]⟩
  have fin : ∀ (n : Nat) (h' : Heap) (tk : Nat), n = ns.length → SetI X.w s.heap.objs.size (onceN (fun i => ns.getD i 0) n) h' → (∀ b o, s.heap.get? b = some o → h'.get? b = some o) → EP X pins σ Q (.ref s.heap.objs.size) { s with heap := h', toks := tk } := by
    intro n h' tk e x kp
    have ol := onceN_len (fun i => ns.getD i 0) n
    refine ⟨.ref s.heap.objs.size, _, I.laid (t' := tk) (o := .ext (SetI X.w s.heap.objs.size (onceN (fun i => ns.getD i 0) n))) kp (Nat.le_refl _) ⟨x, ?_, fun h1 h2 x k => x.keep k⟩, rfl, q _ _ (onceN_nd _ _) (fun k => mem n k e) (by omega) (I.hok.fresh (Nat.le_refl _))⟩
    obtain ⟨o, _, _, _, e, _⟩ := x
    exact ⟨o, e⟩
  have hd3 : ∀ B : Around, B.handled = none → B.in1.in1.in1.handled = none := fun B h => by simp [h]
  rcases hp with hp | hp
  · obtain ⟨its, rv, pl, hz⟩ := I.list hp
    obtain ⟨o, ho, hcl, n, hd⟩ := pl.isList
    obtain ⟨oc, odi, oda, osl⟩ := o
    simp only at hcl hd
    subst hcl hd
    have hl := rv.length
    rw [List.length_map] at hl
    have hpl : p < s.heap.objs.size := Heap.lt_size ho
    exact call_setI (s := s) (ns := ns) ho PySem.F.sub_list_set PySem.F.sub_list_frozenset (by decide) (by simpa using IntsAre.of_vals rv) (by rw [show scanBound = 4096 from rfl, List.size_toArray]; omega)
      (fun {A' E' Q' z} e h => wpAny_pyIter_list ⟨_, e, rfl, _, rfl⟩ h) (Walks.list (hd3 _ (I.ok.hd hc)) _ p (Nat.ne_of_lt (Nat.lt_succ_of_lt hpl)) its.toArray)
      (fun z hz e => ⟨⟨_, push_at hz rfl, rfl, rfl⟩, ⟨_, Heap.get?_push_of_some _ e, rfl, _, rfl⟩⟩) fun h' tk x kp => fin _ h' tk (by rw [List.size_toArray]; omega) x kp
  · obtain ⟨its, rv, pl, hz⟩ := I.tuple hp
    obtain ⟨o, ho, hcl, n, hd⟩ := pl
    obtain ⟨oc, odi, oda, osl⟩ := o
    simp only at hcl hd
    subst hcl hd
    have hl := rv.length
    rw [List.length_map] at hl
    have hpl : p < s.heap.objs.size := Heap.lt_size ho
    exact call_setI (s := s) (ns := ns) ho PySem.F.sub_tuple_set PySem.F.sub_tuple_frozenset (by decide) (by simpa using IntsAre.of_vals rv) (by rw [show scanBound = 4096 from rfl, List.size_toArray]; omega)
      (fun {A' E' Q' z} e h => wpAny_pyIter_tuple ⟨_, e, rfl, _, rfl⟩ h) (Walks.tuple (hd3 _ (I.ok.hd hc)) _ p (Nat.ne_of_lt (Nat.lt_succ_of_lt hpl)) its.toArray)
      (fun z hz e => ⟨⟨_, push_at hz rfl, rfl, rfl⟩, ⟨_, Heap.get?_push_of_some _ e, rfl, _, rfl⟩⟩) fun h' tk x kp => fin _ h' tk (by rw [List.size_toArray]; omega) x kp
end
end L2

set_option Elab.async false
set_option linter.all false
set_option maxRecDepth 100000
namespace L2
open PySem PySem.Spec PyProof.Rows
/-- the pairs of enumerate(the list at a) -/
def Iel (K : PySem.W.Frag) (a : Addr) : It :=
  ⟨fun i H => ∃ xs x, SqL K H a xs ∧ xs[i]? = some x, fun i H x H' => ∃ T xi, x = .ref T ∧ H T = none ∧ H' = upd H T (.tup [.int (i : Nat), xi]) ∧ ∀ xs, SqL K H a xs → xs[i]? = some xi, fun i H => ∃ xs, SqL K H a xs ∧ xs.length ≤ i⟩
theorem turn_enumL {P : Program} {w : World} {K : PySem.W.Frag} {elts : List Expr} {k : Nat} {pos : Pos} (a e it : Addr) (hne : e ≠ it) : Turn P w K (.Tuple elts k pos) (Iel K a) [e, it] e (fun i h => (∃ old, IsEnum h e it (i : Nat) old) ∧ h.IsListIter it a i) where
  mem := by simp
  obj := fun i h st b hb => by
    obtain ⟨⟨old, he⟩, o, ho, hc, hd⟩ := st
    rcases List.mem_cons.mp hb with z | z
    · subst z
      exact ⟨_, he, fun v z => by cases z⟩
    · have z' : b = it := by simpa using z
      subst z'
      exact ⟨o, ho, fun v z => by rw [hd] at z; cases z⟩
  keep := fun i h h' st kp => by
    obtain ⟨⟨old, he⟩, hi⟩ := st
    exact ⟨⟨old, kp e (by simp) _ he⟩, hi.at fun o q => kp it (by simp) o q⟩
  item := by
    intro X hP hw hK hc i pins s σ H E I hf st hg
    subst hP hw hK
    obtain ⟨⟨old, he⟩, hi⟩ := st
    obtain ⟨xs, x, hq, hx⟩ := hg
    obtain ⟨its, rv, p, hz⟩ := I.list hq
    obtain ⟨u, hu, ru⟩ := rv.get hx
    refine wpAny_pyNext_enum_item he hi p.isList (x := u) (by simpa using hu) hne fun h1 eo i1 t1 _ kp => ⟨_, rfl, wpAny_letOwnedTupleGo_enum eo fun h2 en sb => ?_⟩
    have elt : e < s.heap.objs.size := Heap.lt_size he
    have ilt : it < s.heap.objs.size := by obtain ⟨_, q, _⟩ := hi; exact Heap.lt_size q
    have kp2 : ∀ b o, b ≠ e → b ≠ it → s.heap.get? b = some o → h2.get? b = some o := fun b o n1 n2 q => (sb.2 b n1).trans (kp b o n1 n2 q)
    have i2 : h2.IsListIter it a (i + 1) := i1.at fun o q => (sb.2 it (Ne.symm hne)).trans q
    have t2 : h2.get? s.heap.objs.size = some { cls := .type "tuple", data := .seq #[.int i s.toks, u] } := (sb.2 _ (Nat.ne_of_gt elt)).trans t1
    obtain ⟨f0, f1, f2, f3, f4, f5⟩ := hf it (by simp)
    obtain ⟨g0, g1, g2, g3, g4, g5⟩ := hf e (by simp)
    obtain ⟨oi, hoi, hci, hdi⟩ := id i2
    obtain ⟨o0, ho0, _⟩ := id hi
    have m1 : (s.heap.update it fun _ => oi).get? it = some oi := Heap.get?_update_self (fun _ => oi) ho0 (Obj.isFreed_of_fields hdi)
    have I1 : Inv X pins σ H { s with heap := s.heap.update it fun _ => oi, toks := s.toks + 1 } := I.turned (fun b o hb q => (Heap.get?_update_other _ _ (Ne.symm hb)).trans q) f0 f1 f3 f4 f5
    have aux : ∀ b o, b ≠ e → (s.heap.update it fun _ => oi).get? b = some o → h2.get? b = some o := fun b o hb q => by
      by_cases hbi : b = it
      · subst hbi
        rw [m1] at q
        cases q
        exact hoi
      · exact kp2 b o hb hbi ((Heap.get?_update_other _ _ (Ne.symm hbi)).symm.trans q)
    have I2 : Inv X pins σ H { s with heap := h2, toks := s.toks + 1 } := Inv.turned (s := { s with heap := s.heap.update it fun _ => oi, toks := s.toks + 1 }) (h' := h2) (t' := s.toks + 1) I1 aux g0 g1 g3 g4 g5
    obtain ⟨p0, p1, p2, p3, p4, p5⟩ := I.fpOk (Nat.le_refl s.heap.objs.size) (I.hok.fresh (Nat.le_refl _))
    have I3 : Inv X pins σ (upd H s.heap.objs.size (.tup [.int (i : Nat), x])) { s with heap := h2, toks := s.toks + 1 } :=
      I2.track (o := .tup [.int (i : Nat), x]) t2 p0 p1 p3 p4 p5 ⟨by show 2 ≤ sizeLine; decide, [.int i s.toks, u], .cons ⟨_, rfl⟩ (.cons ru .nil), ⟨_, t2, rfl, _, rfl⟩⟩
    refine ⟨.ref s.heap.objs.size, _, I3, rfl, ⟨_, x, rfl, p0, rfl, fun ys hy => by rw [I.list_inj hy hq]; exact hx⟩, ⟨⟨u, by simpa using en⟩, i2⟩, fun b hb => ?_⟩
    have hbn : b ≠ s.heap.objs.size := by
      rcases List.mem_cons.mp hb with z | z
      · rw [z]; exact Nat.ne_of_lt elt
      · have z' : b = it := by simpa using z
        rw [z']; exact Nat.ne_of_lt ilt
    rw [upd_ne hbn]
    exact (hf b hb).1
  done := by
    intro X hP hw hK hc i pins s σ H E I hf st hg
    subst hP hw hK
    obtain ⟨⟨old, he⟩, hi⟩ := st
    obtain ⟨xs, hq, hx⟩ := hg
    obtain ⟨its, rv, p, hz⟩ := I.list hq
    obtain ⟨f0, f1, f2, f3, f4, f5⟩ := hf it (by simp)
    have hl := rv.length
    exact wpAny_pyNext_enum_end (I.ok.hd hc) he hi p.isList (by simp; omega) fun h' eb => ⟨rfl, I.turned (t' := s.toks) (fun b o hb q => eb b o hb q) f0 f1 f3 f4 f5⟩
  self := fun _ _ _ _ _ st h => by
    obtain ⟨⟨old, he⟩, _⟩ := st
    exact wpAny_pyIter_enum he h
section
variable {X : Cx} {elts : List Expr} {k : Nat} {tpos : Pos}
def iEnumL (K : PySem.W.Frag) (ta : TA) : TI := fun σ H R => ta σ H fun vs H1 => ∃ a xs, vs = [.ref a] ∧ SqL K H1 a xs ∧ R (Iel K a) H1
theorem qi_enumL (K : PySem.W.Frag) {a : Expr} {ta : TA} {p pos : Pos} (hg : Gl X "enumerate") (hm : X.mg "enumerate" = none) (ha : QA X [a] ta) (hk : X.K = K := by rfl) : QI X (.Tuple elts k tpos) (.Call (.Name "enumerate" p) [a] [] pos) (iEnumL K ta) := by
  subst hk
  refine ⟨fun pins s σ H R I h => ?_⟩
  have hs := starEach_ns (env := X.env) (es := []) (ns_hd ha.ns).1
  refine Call_ (ld_blt I hg hm (by decide +kernel : bootBuiltins "enumerate" = some (.type "enumerate")) (PyProof.Rows.callWith_type1 (thn (ha.run pos pins s σ H _ I h) fun us s1 ⟨vs, H1, I1, r1, q1⟩ => ?_) hs rfl))
  obtain ⟨t, xs, e, hq, q⟩ := q1
  subst e
  cases r1 with
  | cons r rr =>
    cases rr
    cases (show _ = Value.ref t from r)
    obtain ⟨its, rv, pp, hz⟩ := I1.list hq
    refine call_enumerate_list pp.isList fun h' en it' sz kp => ?_
    refine wpAny_pyIter_enum en ?_
    have I2 : Inv X pins σ H1 { s1 with heap := h' } := I1.kept (t' := s1.toks) kp
    refine ⟨s1.heap.objs.size + 1, [s1.heap.objs.size + 1, s1.heap.objs.size], _, _, H1, rfl, I2, turn_enumL t _ _ (Nat.succ_ne_self _), ⟨⟨_, en⟩, it'⟩, fun b hb => ?_, q⟩
    have hb' : s1.heap.objs.size ≤ b := by
      rcases List.mem_cons.mp hb with z | z
      · rw [z]; exact Nat.le_succ _
      · have z' : b = s1.heap.objs.size := by simpa using z
        rw [z']; exact Nat.le_refl _
    obtain ⟨p0, p1, p2, p3, p4, p5⟩ := I1.fpOk hb' (I1.hok.fresh hb')
    exact ⟨p0, p1, p2, p3, p4, p5⟩
/-- a comprehension over the pairs -/
theorem comp_enumL {mp : List (Option Nat)} {g : TG} {tc : TT} {te : TE} {σ : St} {H : Hp} {R : List V → Hp → Prop} {K : PySem.W.Frag} {a : Addr} {xs : List V} (Pv : Nat → List V → St → Hp → Prop) (h0 : Pv 0 [] (seed mp σ) H) (hl : ∀ i ys σ' H', Pv i ys σ' H' → SqL K H' a xs)
    (hs : ∀ i x ys σ' H', xs[i]? = some x → Pv i ys σ' H' → ys.length < sizeLine ∧ ∀ T, H' T = none → g (.ref T) σ' (upd H' T (.tup [.int (i : Nat), x])) fun σ2 H2 => tc σ2 H2 fun b H3 => if b = true then te σ2 H3 fun y H4 => Pv (i + 1) (ys ++ [y]) σ2 H4 else Pv (i + 1) ys σ2 H3)
    (hd : ∀ ys σ' H', Pv xs.length ys σ' H' → ys.length ≤ sizeLine ∧ R ys H') :
    ∃ W : Nat → Nat → List V → St → Hp → Prop, (∃ m, W 0 m [] (seed mp σ) H) ∧ ∀ i m ys σ' H', W i m ys σ' H' →
      ((Iel K a).stop i H' ∧ ys.length ≤ sizeLine ∧ R ys H') ∨
      ((Iel K a).go i H' ∧ ys.length < sizeLine ∧ ∀ x H'', (Iel K a).yld i H' x H'' → g x σ' H'' fun σ2 H2 => tc σ2 H2 fun b H3 =>
        if b = true then te σ2 H3 fun y H4 => ∃ m', m' < m ∧ W (i + 1) m' (ys ++ [y]) σ2 H4 else ∃ m', m' < m ∧ W (i + 1) m' ys σ2 H3) := by
  refine ⟨fun i m ys σ H => m = xs.length - i ∧ i ≤ xs.length ∧ Pv i ys σ H, ⟨xs.length, by simp, Nat.zero_le _, h0⟩, ?_⟩
  rintro i m ys σ' H' ⟨rfl, hi, p⟩
  have q0 := hl i ys σ' H' p
  by_cases hlt : i < xs.length
  · have e : ∀ ys σ H, (∃ m', m' < xs.length - i ∧ m' = xs.length - (i + 1) ∧ i + 1 ≤ xs.length ∧ Pv (i + 1) ys σ H) = Pv (i + 1) ys σ H := fun ys σ H => propext ⟨fun ⟨_, _, _, _, z⟩ => z, fun z => ⟨_, by omega, rfl, hlt, z⟩⟩
    have hx : xs[i]? = some xs[i] := by simp [hlt]
    refine .inr ⟨⟨xs, xs[i], q0, hx⟩, (hs i _ ys σ' H' hx p).1, fun x H'' y => ?_⟩
    obtain ⟨T, xi, e1, hT, e2, hxi⟩ := y
    subst e1 e2
    simp only [e]
    exact (hs i xi ys σ' H' (hxi xs q0) p).2 T hT
  · have e : i = xs.length := by omega
    subst e
    obtain ⟨hl', q⟩ := hd ys σ' H' p
    exact .inl ⟨⟨xs, q0, Nat.le_refl _⟩, hl', q⟩
/-- sorted(set(e)) -/
def tSortSet (K : PySem.W.Frag) (te : TE) : TE := fun σ H Q => te σ H fun x H1 => ∃ (p : Addr) (ns : List Int), x = .ref p ∧ (SqL K H1 p (ns.map V.int) ∨ SqT K H1 p (ns.map V.int)) ∧ ns.length < 64 ∧
  ∀ (l : Addr) (ms : List Int) (H2 : Hp), Ext [] H1 H2 → H1 l = none → H2 l = some (.lst (ms.map V.int)) → ms.Pairwise (· < ·) → (∀ k, k ∈ ms ↔ k ∈ ns) → ms.length ≤ ns.length → Q (.ref l) H2
def tMono (te : TE) : TE := fun σ H Q => ∃ D : VK, te σ H D ∧ ∀ x H1, D x H1 → Q x H1
theorem QE.mono {e : Expr} {te : TE} (he : QE X e te) : QE X e (tMono te) := ⟨fun pins s σ H Q I ⟨D, h, k⟩ => thn (he.run pins s σ H D I h) fun v s1 ⟨x, H1, I1, r1, q1⟩ => ⟨x, H1, I1, r1, k x H1 q1⟩⟩
theorem lt_of_nodup {l : List Int} (h : l.Pairwise (· ≤ ·)) (d : l.Nodup) : l.Pairwise (· < ·) := by
  have := h.and d
  exact this.imp fun {a b} ⟨h1, h2⟩ => by omega
theorem qe_sortedSet (K : PySem.W.Frag) {e : Expr} {te : TE} {p1 p2 q1 q2 : Pos} (hc : X.calm = true) (g1 : Gl X "sorted") (m1 : X.mg "sorted" = none) (g2 : Gl X "set") (m2 : X.mg "set" = none) (he : QE X e te) (hk : X.K = K := by rfl) (hs : notStar e = true := by rfl) :
    QE X (.Call (.Name "sorted" p1) [.Call (.Name "set" p2) [e] [] q2] [] q1) (tSortSet K te) := by
  have inner := qe_callTy (p := p2) (pos := q2) (call_setS K X.w hc hk rfl) g2 m2 (by decide +kernel) (qa_c he.mono qa_nil hs)
  have outer := qe_callB (p := p1) (pos := q1) (call_sortedS X.w hc rfl) g1 m1 (by decide +kernel) (qa_c inner qa_nil)
  refine outer.weaken fun σ H Q h => ?_
  refine ⟨_, h, fun x H1 ⟨p, ns, e1, e2, e3, q⟩ => ⟨p, ns, by rw [e1], e2, by omega, fun l ms nd mm ml hl => ⟨l, ms, rfl, upd_same, by omega, fun l2 ms2 pm ps h2 => ?_⟩⟩⟩
  refine q l2 ms2 _ (Ext.trans (.new hl) (.new h2)) ?_ upd_same (lt_of_nodup ps (pm.nodup_iff.mpr nd)) (fun k => (pm.mem_iff).trans (mm k)) (by rw [pm.length_eq]; exact ml)
  cases z : H1 l2 with
  | none => rfl
  | some o => exact absurd h2 (by rw [(Ext.new (S := []) hl).keep l2 o (by simp) z]; simp)
end
end L2

set_option Elab.async false
set_option linter.all false
set_option maxRecDepth 100000
/-! min(xs) and xs.index(n) of whole numbers. -/
namespace L2
open PySem PySem.Spec PyProof.Rows
section
variable {X : Cx}
theorem call_minL (K : PySem.W.Frag) (hc : X.calm = true) (hk : X.K = K := by rfl) : CallR X (.builtin "min") (fun xs H Q => ∃ (p : Addr) (ns : List Int), xs = [.ref p] ∧ SqL K H p (ns.map V.int) ∧ ns ≠ [] ∧ ∀ M, M ∈ ns → (∀ a ∈ ns, M ≤ a) → Q (.int M) H) := by
  subst hk
  intro pins s σ H xs us Q I r h
  obtain ⟨p, ns, rfl, hp, hne, q⟩ := h
  obtain ⟨u, rfl, ru⟩ := vals1 r
  cases ru
  obtain ⟨its, rv, pl, hz⟩ := I.list hp
  have hI : IntsAre its ns := IntsAre.of_vals rv
  obtain ⟨ys, e⟩ := hI.allInts.items
  have hl := pl.isList
  rw [e] at hl
  have hys : ys.size = ns.length := by
    have h1 := congrArg Array.size e
    rw [List.size_toArray] at h1
    have h2 := IntsAre.length hI
    simp only [intItems, Array.size_map] at h1
    omega
  have hn0 : 0 < ns.length := by
    cases ns with
    | nil => exact absurd rfl hne
    | cons a l => simp
  have nat : ∀ i, i < ns.length → numAt ys i = ns.getD i 0 := by
    intro i hi
    have h1 : i < its.length := by rw [IntsAre.length hI]; exact hi
    have h2 : its[i]? = some its[i] := by simp [h1]
    obtain ⟨t, ht⟩ := IntsAre.int_at hI i _ h2
    have h3 : (intItems ys)[i]? = some its[i] := by rw [← e, List.getElem?_toArray]; exact h2
    obtain ⟨t', ht'⟩ := intItems_at h3
    rw [ht] at ht'
    injection ht' with h4 h5
    exact h4.symm
  refine min_intList (I.ok.hd hc) hl (by omega) fun v h' tk hv hkp => ?_
  obtain ⟨t, rfl⟩ := intItems_at hv
  obtain ⟨b1, b2⟩ := argBest_lt (numAt ys) (ys.size - 1)
  have hb : argBest (fun i j => decide (numAt ys i < numAt ys j)) (ys.size - 1) < ns.length := by
    rcases Nat.lt_or_ge (argBest (fun i j => decide (numAt ys i < numAt ys j)) (ys.size - 1)) ns.length with z | z
    · exact z
    · rw [Array.getElem?_eq_none (by simp only [intItems, Array.size_map]; omega)] at hv
      cases hv
  refine ⟨.int (numAt ys (argBest (fun i j => decide (numAt ys i < numAt ys j)) (ys.size - 1))), H, I.kept (t' := tk) hkp, ⟨_, rfl⟩, q _ ?_ fun a ha => ?_⟩
  · rw [nat _ hb]
    simp [List.getD, hb]
  · obtain ⟨j, hj, rfl⟩ := List.getElem_of_mem ha
    have := b2 j (by omega)
    rw [nat j hj] at this
    simpa [List.getD, hj] using this
def rIndexL : V → List V → Hp → VK → Prop := fun x vs H Q => ∃ (l : Addr) (ns : List Int) (k : Int) (j : Nat), x = .ref l ∧ vs = [.int k] ∧ H l = some (.lst (ns.map V.int)) ∧ ns[j]? = some k ∧ (∀ i, i < j → ns[i]? ≠ some k) ∧ Q (.int j) H
theorem mt_indexL : MtM X "list.index" rIndexL := by
  intro pins s σ H x vs v us Q I rx rv h
  obtain ⟨l, ns, k, j, rfl, rfl, hH, hj, hno, q⟩ := h
  cases rx
  obtain ⟨u, rfl, ru⟩ := rv.one
  obtain ⟨t, rfl⟩ := ru
  obtain ⟨z, its, n, r', hl, e⟩ := I.lstM hH
  have hI : IntsAre its ns := IntsAre.of_vals r'
  have len := IntsAre.length hI
  have hjl : j < ns.length := (List.getElem?_eq_some_iff.mp hj).1
  have at' : ∀ (m : Nat) (hm : m < its.toArray.size), ∃ t, its.toArray[m] = Value.int (ns.getD m 0) t := by
    intro m hm
    rw [List.size_toArray] at hm
    have h2 : its[m]? = some its[m] := by simp [hm]
    obtain ⟨t, ht⟩ := IntsAre.int_at hI m _ h2
    exact ⟨t, by simpa using ht⟩
  have at2 : ∀ m, m < ns.length → ns[m]? = some (ns.getD m 0) := fun m hm => by simp [List.getD, hm]
  have hz2 : its.length ≤ sizeLine := by rw [← hl]; exact z
  rw [show sizeLine = 16777216 by decide] at hz2
  refine call_meets F.slot_list_index ⟨_, e, rfl⟩ F.entry_list_index (F.args_list_index_2 _ _)
    (PySem.MeetsSeq.list_index l its.toArray n (.int k t) (fun y => match y with | .int a _ => a == k | _ => false) (fun y hy => ?_) j (by rw [List.size_toArray]; omega) (by omega) ?_ fun m hm hmj => ?_) ⟨e, ?_⟩
  · obtain ⟨m, hm, rfl⟩ := Array.getElem_of_mem hy
    obtain ⟨t2, ht2⟩ := at' m hm
    rw [ht2]
    exact PySem.MeetsSeq.EqGives.int _ _ _ _
  · obtain ⟨t2, ht2⟩ := at' j (by rw [List.size_toArray]; omega)
    rw [ht2]
    have := at2 j hjl
    rw [hj] at this
    have e3 := Option.some.inj this
    show (ns.getD j 0 == k) = true
    rw [← e3]
    simp
  · obtain ⟨t2, ht2⟩ := at' m hm
    rw [ht2]
    have h3 := hno m hmj
    rw [List.size_toArray] at hm
    rw [at2 m (by omega)] at h3
    have : ns.getD m 0 ≠ k := fun z => h3 (by rw [z])
    simpa using this
  · exact ⟨.int j, H, I.tok _, ⟨_, rfl⟩, q⟩
end
end L2

open PySem
namespace Odj
def isIntD : PyData → Bool | .int _ => true | _ => false
def risingFrom : Int → List PyData → Bool
  | _, [] => true
  | a, .int i :: ds => !decide (i ≤ a) && risingFrom i ds
  | _, _ :: _ => false
def lastBelow (bound : Int) : List PyData → Bool
  | [] => true
  | [.int i] => decide (i < bound)
  | [_] => false
  | _ :: d :: ds => lastBelow bound (d :: ds)
def belowD (bound : Int) : PyData → Bool
  | .tuple ds => risingFrom (-1) ds && lastBelow bound ds
  | _ => false
def wholeD (lo hi : Int) : PyData → Bool
  | .int i => decide (lo ≤ i) && decide (i ≤ hi)
  | _ => false
def intOf : PyData → Int | .int i => i | _ => 0
/-- the ints at places from 1 on whose one ahead is not below -/
def falls (ds : List PyData) : List Int := ((List.range (ds.length - 1)).filter fun k => decide (intOf (ds.getD (k + 1) .none) ≤ intOf (ds.getD k .none))).map fun (k : Nat) => (1 : Int) + k
def risesD (many : Int) : PyData → Bool
  | .tuple ds => ds.all (wholeD 0 (many - 1)) && (falls ds).isEmpty
  | _ => false

theorem rise_key (b : Int) : ∀ (ds : List PyData) (a : Int), -1 ≤ a → (risingFrom a ds && lastBelow b ds) = (ds.all (wholeD 0 (b - 1)) && risingFrom a ds)
  | [], a, _ => by simp [risingFrom, lastBelow]
  | .int i :: ds, a, ha => by
    by_cases h : i ≤ a
    · simp [risingFrom, h]
    · have h0 : 0 ≤ i := by omega
      cases ds with
      | nil => 
        simp only [risingFrom, lastBelow, List.all_cons, List.all_nil, wholeD, Bool.and_true]
        by_cases h1 : i < b
        · have : i ≤ b - 1 := by omega
          simp [h, h0, h1, this]
        · have : ¬ i ≤ b - 1 := by omega
          simp [h, h0, h1, this]
      | cons d ds =>
        have ih := rise_key b (d :: ds) i (by omega)
        have e1 : risingFrom a (.int i :: d :: ds) = risingFrom i (d :: ds) := by simp [risingFrom, h]
        have e2 : lastBelow b (.int i :: d :: ds) = lastBelow b (d :: ds) := by simp [lastBelow]
        rw [e1, e2, ih, show (PyData.int i :: d :: ds).all (wholeD 0 (b - 1)) = (wholeD 0 (b - 1) (.int i) && (d :: ds).all (wholeD 0 (b - 1))) from List.all_cons]
        cases d with
        | int j =>
          by_cases hj : j ≤ i
          · simp [risingFrom, hj]
          · by_cases hb : j ≤ b - 1
            · have : i ≤ b - 1 := by omega
              simp [wholeD, h0, this]
            · simp [wholeD, hb]
        | _ => simp [risingFrom]
  | .none :: ds, a, _ => by simp [risingFrom]
  | .bool _ :: ds, a, _ => by simp [risingFrom]
  | .str _ :: ds, a, _ => by simp [risingFrom]
  | .list _ :: ds, a, _ => by simp [risingFrom]
  | .tuple _ :: ds, a, _ => by simp [risingFrom]
  | .dict _ :: ds, a, _ => by simp [risingFrom]

theorem falls_cons (d e : PyData) (ds : List PyData) : (falls (d :: e :: ds)).isEmpty = (!decide (intOf e ≤ intOf d) && (falls (e :: ds)).isEmpty) := by
  unfold falls
  simp only [List.isEmpty_map, List.length_cons, Nat.add_sub_cancel]
  rw [List.range_succ_eq_map, List.filter_cons]
  have e0 : intOf ((d :: e :: ds).getD (0 + 1) .none) = intOf e := rfl
  have e1 : intOf ((d :: e :: ds).getD 0 .none) = intOf d := rfl
  rw [e0, e1]
  have e2 : List.filter (fun k => decide (intOf ((d :: e :: ds).getD (k + 1) .none) ≤ intOf ((d :: e :: ds).getD k .none))) (List.map Nat.succ (List.range ds.length)) =
      List.map Nat.succ (List.filter (fun k => decide (intOf ((e :: ds).getD (k + 1) .none) ≤ intOf ((e :: ds).getD k .none))) (List.range ds.length)) := by
    rw [List.filter_map]
    rfl
  rw [e2]
  by_cases h : intOf e ≤ intOf d
  · simp [h]
  · simp [h]

theorem rise_falls (hi : Int) : ∀ (ds : List PyData) (a : Int), ds.all (wholeD 0 hi) = true → (∀ d, ds.head? = some d → a < intOf d) → risingFrom a ds = (falls ds).isEmpty
  | [], a, _, _ => by simp [risingFrom, falls]
  | [d], a, hw, hh => by
    cases d with
    | int i =>
      have : a < i := hh _ rfl
      have h : ¬ i ≤ a := by omega
      simp [risingFrom, falls, h]
    | _ => simp [wholeD] at hw
  | d :: e :: ds, a, hw, hh => by
    cases d with
    | int i =>
      have h1 : a < i := hh _ rfl
      have h : ¬ i ≤ a := by omega
      rw [falls_cons]
      have hw' : (e :: ds).all (wholeD 0 hi) = true := by
        rw [List.all_cons, Bool.and_eq_true] at hw
        exact hw.2
      have er : risingFrom a (.int i :: e :: ds) = risingFrom i (e :: ds) := by simp [risingFrom, h]
      rw [er]
      by_cases hc : intOf e ≤ intOf (.int i)
      · cases e with
        | int j =>
          have hc' : j ≤ i := hc
          simp [risingFrom, hc', intOf]
        | _ => simp [wholeD] at hw'
      · rw [rise_falls hi (e :: ds) i hw' (fun d' hd => by cases hd; exact Int.not_le.mp hc)]
        simp [hc]
    | _ => simp [wholeD] at hw

theorem law_eq (b : Int) (d : PyData) : belowD b d = risesD b d := by
  cases d with
  | tuple ds =>
    show (risingFrom (-1) ds && lastBelow b ds) = (ds.all (wholeD 0 (b - 1)) && (falls ds).isEmpty)
    rw [rise_key b ds (-1) (by omega)]
    cases hw : ds.all (wholeD 0 (b - 1)) with
    | false => rfl
    | true =>
      rw [rise_falls (b - 1) ds (-1) hw]
      intro d hd
      cases ds with
      | nil => cases hd
      | cons e ds =>
        rw [List.all_cons, Bool.and_eq_true] at hw
        have hd' : e = d := Option.some.inj hd
        subst hd'
        cases e with
        | int i =>
          have : (decide (0 ≤ i) && decide (i ≤ b - 1)) = true := hw.1
          rw [Bool.and_eq_true] at this
          have := of_decide_eq_true this.1
          show -1 < i
          omega
        | _ => simp [wholeD] at hw
  | _ => rfl
end Odj

set_option linter.all false
open PySem
namespace Odj
/-- two rising lists of the same numbers are one -/
theorem sorted_unique : ∀ {l1 l2 : List Int}, l1.Perm l2 → l1.Pairwise (· ≤ ·) → l2.Pairwise (· ≤ ·) → l1 = l2
  | [], l2, p, _, _ => (List.nil_perm.mp p).symm
  | a :: l1, [], p, _, _ => absurd p.length_eq (by simp)
  | a :: l1, b :: l2, p, h1, h2 => by
    have ha : a ∈ b :: l2 := p.mem_iff.mp (List.mem_cons_self ..)
    have hb : b ∈ a :: l1 := p.mem_iff.mpr (List.mem_cons_self ..)
    obtain ⟨q1, r1⟩ := List.pairwise_cons.mp h1
    obtain ⟨q2, r2⟩ := List.pairwise_cons.mp h2
    have e : a = b := by
      rcases List.mem_cons.mp ha with z | z
      · exact z
      · rcases List.mem_cons.mp hb with y | y
        · exact y.symm
        · have := q2 a z
          have := q1 b y
          omega
    subst e
    rw [sorted_unique (List.Perm.cons_inv p) r1 r2]
/-- numbers, each with whether it stood there an odd number of times so far -/
abbrev Odd := List (Int × Bool)
def isOdd (o : Odd) (k : Int) : Bool := ((o.find? fun p => decide (p.1 = k)).map (·.2)).getD false
def turnOdd (o : Odd) (k : Int) : Odd := if o.any (fun p => decide (p.1 = k)) then o.map (fun p => if p.1 = k then (p.1, !(isOdd o k)) else p) else o ++ [(k, !(isOdd o k))]
def oddsOf (row : List Int) : Odd := row.foldl turnOdd []
def trues (o : Odd) : List Int := (o.filter (·.2)).map (·.1)
def keysOf (o : Odd) : List Int := o.map (·.1)
theorem turn_keys (o : Odd) (k : Int) : keysOf (turnOdd o k) = if k ∈ keysOf o then keysOf o else keysOf o ++ [k] := by
  unfold turnOdd keysOf
  by_cases h : k ∈ o.map (·.1)
  · have h' : o.any (fun p => decide (p.1 = k)) = true := by
      obtain ⟨p, hp, e⟩ := List.mem_map.mp h
      exact List.any_eq_true.mpr ⟨p, hp, decide_eq_true e⟩
    rw [if_pos h', if_pos h, List.map_map]
    apply List.map_congr_left
    intro p _
    simp only [Function.comp]
    split <;> rfl
  · have h' : ¬ o.any (fun p => decide (p.1 = k)) = true := by
      intro z
      obtain ⟨p, hp, e⟩ := List.any_eq_true.mp z
      exact h (List.mem_map.mpr ⟨p, hp, of_decide_eq_true e⟩)
    rw [if_neg h', if_neg h, List.map_append]
    rfl
theorem turn_nodup {o : Odd} {k : Int} (h : (keysOf o).Nodup) : (keysOf (turnOdd o k)).Nodup := by
  rw [turn_keys]
  split
  · exact h
  · rename_i hk
    rw [List.nodup_append]
    refine ⟨h, by simp, fun a ha b hb => ?_⟩
    have : b = k := by simpa using hb
    subst this
    intro z
    subst z
    exact hk ha
theorem turn_len (o : Odd) (k : Int) : (turnOdd o k).length ≤ o.length + 1 := by
  unfold turnOdd
  split
  · simp
  · simp
theorem turn_mem {o : Odd} {k x : Int} (h : x ∈ keysOf (turnOdd o k)) : x = k ∨ x ∈ keysOf o := by
  rw [turn_keys] at h
  split at h
  · exact .inr h
  · rcases List.mem_append.mp h with z | z
    · exact .inr z
    · exact .inl (by simpa using z)
/-- what is asked of the pair's second, of a key -/
theorem odd_at {o : Odd} (h : (keysOf o).Nodup) {i : Nat} {p : Int × Bool} (hp : o[i]? = some p) : isOdd o p.1 = p.2 := by
  induction o generalizing i with
  | nil => cases hp
  | cons q o ih =>
    unfold keysOf at h
    rw [List.map_cons, List.nodup_cons] at h
    cases i with
    | zero =>
      have : q = p := by simpa using hp
      subst this
      simp [isOdd]
    | succ i =>
      have hp' : o[i]? = some p := by simpa using hp
      have hm : p.1 ∈ o.map (·.1) := List.mem_map.mpr ⟨p, List.mem_of_getElem? hp', rfl⟩
      have hne : ¬ q.1 = p.1 := fun z => h.1 (z ▸ hm)
      have := ih h.2 hp'
      unfold isOdd at this ⊢
      rw [List.find?_cons]
      simp only [hne, decide_false]
      exact this
theorem rows_fine : ∀ (row : List Int) (o : Odd) (m : Int), (keysOf o).Nodup → (∀ k ∈ keysOf o, 0 ≤ k ∧ k < m) → (∀ k ∈ row, 0 ≤ k ∧ k < m) → (keysOf (row.foldl turnOdd o)).Nodup ∧ ∀ k ∈ keysOf (row.foldl turnOdd o), 0 ≤ k ∧ k < m
  | [], o, m, h1, h2, _ => ⟨h1, h2⟩
  | k :: row, o, m, h1, h2, h3 => by
    rw [List.foldl_cons]
    refine rows_fine row _ m (turn_nodup h1) (fun x hx => ?_) fun x hx => h3 x (List.mem_cons_of_mem _ hx)
    rcases turn_mem hx with e | e
    · subst e
      exact h3 _ (List.mem_cons_self ..)
    · exact h2 x e
/-- numbers below m, each once: at most m -/
theorem nodup_le : ∀ {m : Nat} {l : List Int}, l.Nodup → (∀ k ∈ l, 0 ≤ k ∧ k < (m : Int)) → l.length ≤ m
  | 0, l, _, h => by
    cases l with
    | nil => simp
    | cons k l =>
      have := h k (List.mem_cons_self ..)
      omega
  | m + 1, l, hn, h => by
    by_cases hm : (m : Int) ∈ l
    · have h1 := nodup_le (m := m) (l := l.erase (m : Int)) (hn.erase _) fun k hk => by
        have hk' := (hn.mem_erase_iff).mp hk
        have := h k hk'.2
        have := hk'.1
        omega
      have := List.length_erase_of_mem hm
      have hp : 0 < l.length := List.length_pos_of_mem hm
      omega
    · have h1 := nodup_le (m := m) (l := l) hn fun k hk => by
        have := h k hk
        have hne : k ≠ (m : Int) := fun z => hm (z ▸ hk)
        omega
      omega
/-- of the numbers the odd ones: rising, whichever comes first, the sorting or the picking -/
theorem odd_same {o : Odd} {ns ms : List Int} (hn : (keysOf o).Nodup) (p1 : ns.Perm (trues o)) (s1 : ns.Pairwise (· ≤ ·)) (p2 : ms.Perm (keysOf o)) (s2 : ms.Pairwise (· ≤ ·)) : ns = ms.filter (isOdd o) := by
  have e : trues o = (keysOf o).filter (isOdd o) := by
    unfold trues keysOf
    rw [List.filter_map]
    congr 1
    apply List.filter_congr
    intro p hp
    obtain ⟨i, hi⟩ := List.getElem?_of_mem hp
    exact (odd_at hn hi).symm
  refine sorted_unique ?_ s1 (s2.filter _)
  rw [e] at p1
  exact p1.trans (p2.symm.filter _)
/-- ends of the ties of a set -/
def endsOf (ts : List (Int × Int × Int)) (some : List Int) : List Int := some.flatMap fun n => match ts[n.toNat]? with | .some t => [t.1, t.2.1] | .none => []
def paidOf (ts : List (Int × Int × Int)) (some : List Int) : Int := (some.map fun n => match ts[n.toNat]? with | .some t => t.2.2 | .none => 0).sum
end Odj

set_option linter.all false
open PySem
namespace Odj
/-- of strictly rising lists with the same numbers: one -/
theorem rising_one : ∀ {l1 l2 : List Int}, l1.Pairwise (· < ·) → l2.Pairwise (· < ·) → (∀ k, k ∈ l1 ↔ k ∈ l2) → l1 = l2
  | [], [], _, _, _ => rfl
  | [], b :: l2, _, _, h => absurd ((h b).mpr (List.mem_cons_self ..)) (by simp)
  | a :: l1, [], _, _, h => absurd ((h a).mp (List.mem_cons_self ..)) (by simp)
  | a :: l1, b :: l2, h1, h2, h => by
    obtain ⟨q1, r1⟩ := List.pairwise_cons.mp h1
    obtain ⟨q2, r2⟩ := List.pairwise_cons.mp h2
    have e : a = b := by
      rcases List.mem_cons.mp ((h a).mp (List.mem_cons_self ..)) with z | z
      · exact z
      · rcases List.mem_cons.mp ((h b).mpr (List.mem_cons_self ..)) with y | y
        · exact y.symm
        · have := q2 a z
          have := q1 b y
          omega
    subst e
    rw [rising_one r1 r2 fun k => ?_]
    constructor
    · intro hk
      rcases List.mem_cons.mp ((h k).mp (List.mem_cons_of_mem _ hk)) with z | z
      · have := q1 k hk
        omega
      · exact z
    · intro hk
      rcases List.mem_cons.mp ((h k).mpr (List.mem_cons_of_mem _ hk)) with z | z
      · have := q2 k hk
        omega
      · exact z
/-- ns: the numbers that stand in row an odd number of times, rising -/
def OddSet (row ns : List Int) : Prop := ns.Pairwise (· < ·) ∧ ∀ k, k ∈ ns ↔ row.count k % 2 = 1
theorem OddSet.one {r1 r2 n1 n2 : List Int} (h1 : OddSet r1 n1) (h2 : OddSet r2 n2) (h : ∀ k, r1.count k % 2 = r2.count k % 2) : n1 = n2 :=
  rising_one h1.1 h2.1 fun k => by rw [h1.2, h2.2, h k]
theorem OddSet.same {r1 r2 n1 : List Int} (h1 : OddSet r1 n1) (h : ∀ k, r1.count k % 2 = r2.count k % 2) : OddSet r2 n1 := ⟨h1.1, fun k => by rw [h1.2, h k]⟩
theorem nodup_lt {l : List Int} (h : l.Pairwise (· < ·)) : l.Nodup := h.imp fun hab z => by omega
/-- a rising list: each once -/
theorem OddSet.self {l : List Int} (h : l.Pairwise (· < ·)) : OddSet l l := ⟨h, fun k => by
  have hn := nodup_lt h
  by_cases hk : k ∈ l
  · have := List.count_pos_iff.mpr hk
    have h1 := List.nodup_iff_count.mp hn k
    constructor
    · intro _; omega
    · intro _; exact hk
  · have := List.count_eq_zero.mpr hk
    constructor
    · intro z; exact absurd z hk
    · intro z; omega⟩
theorem OddSet.count {r n : List Int} (h : OddSet r n) (k : Int) : n.count k % 2 = r.count k % 2 := by
  have h1 := (OddSet.self h.1).2 k
  have h2 := h.2 k
  have a1 := Nat.mod_two_eq_zero_or_one (n.count k)
  have a2 := Nat.mod_two_eq_zero_or_one (r.count k)
  by_cases hk : k ∈ n
  · rw [h1.mp hk, h2.mp hk]
  · have b1 : ¬ n.count k % 2 = 1 := fun z => hk (h1.mpr z)
    have b2 : ¬ r.count k % 2 = 1 := fun z => hk (h2.mpr z)
    omega
/-- sums over rows in which all stand an even number of times -/
theorem even_sum (f : Int → Nat) : ∀ (n : Nat) (l : List Int), l.length ≤ n → (∀ k, l.count k % 2 = 0) → (l.map f).sum % 2 = 0
  | _, [], _, _ => rfl
  | 0, x :: l, hl, _ => by simp at hl
  | n + 1, x :: l, hl, h => by
    have hx := h x
    rw [List.count_cons_self] at hx
    have hm : x ∈ l := List.count_pos_iff.mp (by omega)
    have hp : l.Perm (x :: l.erase x) := List.perm_cons_erase hm
    have hlen := hp.length_eq
    rw [List.length_cons] at hlen hl
    have ih := even_sum f n (l.erase x) (by omega) fun k => by
      have hk := h k
      rw [List.count_cons, hp.count_eq k, List.count_cons] at hk
      split at hk <;> omega
    have hs : (l.map f).sum = f x + ((l.erase x).map f).sum := by
      have := (hp.map f).sum_nat
      rw [this, List.map_cons, List.sum_cons]
    rw [List.map_cons, List.sum_cons, hs]
    omega
theorem sum_same (f : Int → Nat) {a b : List Int} (h : ∀ k, a.count k % 2 = b.count k % 2) : (a.map f).sum % 2 = (b.map f).sum % 2 := by
  have := even_sum f _ (a ++ b) (Nat.le_refl _) fun k => by
    rw [List.count_append]
    have := h k
    omega
  rw [List.map_append, List.sum_append] at this
  omega
theorem ends_count (ts : List (Int × Int × Int)) (p : Int) (ns : List Int) : (endsOf ts ns).count p = (ns.map fun n => match ts[n.toNat]? with | .some t => [t.1, t.2.1].count p | .none => 0).sum := by
  induction ns with
  | nil => rfl
  | cons n ns ih =>
    have e : endsOf ts (n :: ns) = (match ts[n.toNat]? with | .some t => [t.1, t.2.1] | .none => []) ++ endsOf ts ns := rfl
    rw [e, List.count_append, List.map_cons, List.sum_cons, ih]
    cases ts[n.toNat]? <;> rfl
theorem ends_same (ts : List (Int × Int × Int)) {a b : List Int} (h : ∀ k, a.count k % 2 = b.count k % 2) (p : Int) : (endsOf ts a).count p % 2 = (endsOf ts b).count p % 2 := by
  rw [ends_count, ends_count]
  exact sum_same _ h
/-- a walk along ties -/
def otherEnd (t : Int × Int × Int) (x : Int) : Int := if t.1 = x then t.2.1 else t.1
def Walk (ts : List (Int × Int × Int)) : Int → List Int → Int → Prop
  | x, [], y => x = y
  | x, n :: row, y => ∃ t, 0 ≤ n ∧ ts[n.toNat]? = .some t ∧ (t.1 = x ∨ t.2.1 = x) ∧ Walk ts (otherEnd t x) row y
theorem walk_ends (ts : List (Int × Int × Int)) (p : Int) : ∀ (row : List Int) (x y : Int), Walk ts x row y → (endsOf ts row).count p % 2 = [x, y].count p % 2
  | [], x, y, h => by
    have e : x = y := h
    subst e
    have e2 : endsOf ts [] = [] := rfl
    rw [e2, List.count_nil, List.count_cons, List.count_cons, List.count_nil]
    split <;> rfl
  | n :: row, x, y, h => by
    obtain ⟨t, h0, ht, hx, hw⟩ := h
    have ih := walk_ends ts p row _ y hw
    have e : endsOf ts (n :: row) = [t.1, t.2.1] ++ endsOf ts row := by
      have : endsOf ts (n :: row) = (match ts[n.toNat]? with | .some t => [t.1, t.2.1] | .none => []) ++ endsOf ts row := rfl
      rw [this, ht]
    have hc : [t.1, t.2.1].count p = [x, otherEnd t x].count p := by
      unfold otherEnd
      rcases hx with z | z
      · rw [if_pos z, z]
      · by_cases z1 : t.1 = x
        · rw [if_pos z1, z1]
        · rw [if_neg z1, z, List.count_cons, List.count_cons, List.count_cons, List.count_cons]
          omega
    rw [e, List.count_append, hc]
    simp only [List.count_cons, List.count_nil] at ih ⊢
    omega
theorem Walk.append {ts : List (Int × Int × Int)} : ∀ {a b : List Int} {x y z : Int}, Walk ts x a y → Walk ts y b z → Walk ts x (a ++ b) z
  | [], b, x, y, z, h1, h2 => by
    have e : x = y := h1
    subst e
    exact h2
  | n :: a, b, x, y, z, h1, h2 => by
    obtain ⟨t, h0, ht, hx, hw⟩ := h1
    exact ⟨t, h0, ht, hx, hw.append h2⟩
theorem Walk.bounds {ts : List (Int × Int × Int)} : ∀ {a : List Int} {x y : Int}, Walk ts x a y → ∀ n ∈ a, 0 ≤ n ∧ n < (ts.length : Int)
  | [], _, _, _, n, hn => by cases hn
  | m :: a, x, y, h, n, hn => by
    obtain ⟨t, h0, ht, hx, hw⟩ := h
    rcases List.mem_cons.mp hn with e | e
    · subst e
      have := (List.getElem?_eq_some_iff.mp ht).1
      omega
    · exact hw.bounds n e
theorem twice_even (row : List Int) (k : Int) : (row ++ row.reverse).count k % 2 = ([] : List Int).count k % 2 := by
  rw [List.count_append, List.count_reverse, List.count_nil]
  omega
end Odj

namespace Odj
/-! the parts of a web, by calling places alike -/
abbrev TieI := Int × Int × Int
def nameAt (ns : List Int) (i : Int) : Int := ns.getD i.toNat 0
/-- what is called hi, is called lo -/
def callAs (ns : List Int) (lo hi : Int) : List Int := ns.map fun n => if n = hi then lo else n
def mergeT (ns : List Int) (t : TieI) : List Int := callAs ns (min (nameAt ns t.1) (nameAt ns t.2.1)) (max (nameAt ns t.1) (nameAt ns t.2.1))
def nums (m : Nat) : List Int := (List.range m).map fun (k : Nat) => (k : Int)
def namesOf (m : Nat) (ts : List TieI) : List Int := ts.foldl mergeT (nums m)
/-- each is called by one that is called by itself -/
structure Called (m : Nat) (ns : List Int) : Prop where
  len : ns.length = m
  own : ∀ n ∈ ns, 0 ≤ n ∧ n < (m : Int) ∧ nameAt ns n = n
theorem nameAt_mem {ns : List Int} {i : Int} (h0 : 0 ≤ i) (h1 : i < (ns.length : Int)) : nameAt ns i ∈ ns := by
  unfold nameAt
  have : i.toNat < ns.length := by omega
  simp [List.getD, this]
theorem nums_at {m : Nat} {i : Int} (h0 : 0 ≤ i) (h1 : i < (m : Int)) : nameAt (nums m) i = i := by
  unfold nameAt nums
  have : i.toNat < m := by omega
  simp [List.getD, this]
  omega
theorem called_nums (m : Nat) : Called m (nums m) := by
  refine ⟨by simp [nums], fun n hn => ?_⟩
  unfold nums at hn
  obtain ⟨k, hk, rfl⟩ := List.mem_map.mp hn
  have := List.mem_range.mp hk
  exact ⟨by omega, by omega, nums_at (by omega) (by omega)⟩
theorem callAs_at (ns : List Int) (lo hi : Int) {i : Int} (h0 : 0 ≤ i) (h1 : i < (ns.length : Int)) : nameAt (callAs ns lo hi) i = if nameAt ns i = hi then lo else nameAt ns i := by
  unfold nameAt callAs
  have : i.toNat < ns.length := by omega
  simp [List.getD, this]
theorem Called.merge {m : Nat} {ns : List Int} (c : Called m ns) {t : TieI} (a0 : 0 ≤ t.1) (a1 : t.1 < (m : Int)) (b0 : 0 ≤ t.2.1) (b1 : t.2.1 < (m : Int)) : Called m (mergeT ns t) := by
  have l := c.len
  obtain ⟨x0, x1, x2⟩ := c.own _ (nameAt_mem a0 (by omega))
  obtain ⟨y0, y1, y2⟩ := c.own _ (nameAt_mem b0 (by omega))
  unfold mergeT
  generalize nameAt ns t.1 = x at *
  generalize nameAt ns t.2.1 = y at *
  refine ⟨by simp [callAs, l], fun n hn => ?_⟩
  have lo : 0 ≤ min x y ∧ min x y < (m : Int) ∧ nameAt ns (min x y) = min x y := by
    rcases Int.le_total x y with h | h
    · rw [Int.min_eq_left h]; exact ⟨x0, x1, x2⟩
    · rw [Int.min_eq_right h]; exact ⟨y0, y1, y2⟩
  obtain ⟨k, hk, e⟩ := List.mem_map.mp hn
  obtain ⟨k0, k1, k2⟩ := c.own k hk
  by_cases h : k = max x y
  · rw [if_pos h] at e
    subst e
    refine ⟨lo.1, lo.2.1, ?_⟩
    rw [callAs_at _ _ _ lo.1 (by omega), lo.2.2]
    split <;> rfl
  · rw [if_neg h] at e
    subst e
    refine ⟨k0, k1, ?_⟩
    rw [callAs_at _ _ _ k0 (by omega), k2, if_neg h]
theorem called_names {m : Nat} : ∀ (ts : List TieI) (ns : List Int), (∀ t ∈ ts, 0 ≤ t.1 ∧ t.1 < (m : Int) ∧ 0 ≤ t.2.1 ∧ t.2.1 < (m : Int)) → Called m ns → Called m (ts.foldl mergeT ns)
  | [], ns, _, c => c
  | t :: ts, ns, h, c => by
    obtain ⟨a0, a1, b0, b1⟩ := h t (by simp)
    exact called_names ts (mergeT ns t) (fun u hu => h u (by simp [hu])) (c.merge a0 a1 b0 b1)
/-- the places called by themselves, rising -/
def selves (m : Nat) (ns : List Int) : List Int := (nums m).filter fun p => decide (nameAt ns p = p)
def placesAt (ns : List Int) (r : Int) : List Int := (nums ns.length).filter fun p => decide (nameAt ns p = r)
theorem nums_rise (m : Nat) : (nums m).Pairwise (· < ·) := by
  unfold nums
  rw [List.pairwise_map]
  exact List.pairwise_lt_range.imp fun h => by omega
theorem mem_nums {m : Nat} {k : Int} : k ∈ nums m ↔ 0 ≤ k ∧ k < (m : Int) := by
  unfold nums
  rw [List.mem_map]
  constructor
  · rintro ⟨j, hj, rfl⟩
    have := List.mem_range.mp hj
    omega
  · rintro ⟨h0, h1⟩
    exact ⟨k.toNat, List.mem_range.mpr (by omega), by omega⟩
theorem selves_one {m : Nat} {ns ms : List Int} (c : Called m ns) (hr : ms.Pairwise (· < ·)) (hm : ∀ k, k ∈ ms ↔ k ∈ ns) : ms = selves m ns := by
  refine rising_one hr ((nums_rise m).filter _) fun k => ?_
  rw [hm]
  unfold selves
  rw [List.mem_filter, mem_nums]
  constructor
  · intro h
    obtain ⟨a, b, e⟩ := c.own k h
    exact ⟨⟨a, b⟩, by simpa using e⟩
  · rintro ⟨⟨a, b⟩, e⟩
    have e' : nameAt ns k = k := by simpa using e
    rw [← e']
    exact nameAt_mem a (by rw [c.len]; exact b)
theorem nums_snoc (m : Nat) : nums (m + 1) = nums m ++ [(m : Int)] := by
  unfold nums
  rw [List.range_succ, List.map_append]
  rfl
theorem nums_len (m : Nat) : (nums m).length = m := by simp [nums]
def partsOf (m : Nat) (ts : List TieI) : List (List Int) := (selves m (namesOf m ts)).map (placesAt (namesOf m ts))
end Odj

set_option Elab.async false
set_option linter.all false
set_option maxRecDepth 100000
namespace Odj
open PySem L2
def top (i : Nat) : Stmt := PySem.Challenge.pw_oddjoins_k15_whole_turned.main.body.getD i (.Pass ⟨0, 0, 0, 0⟩)
/-- the built-ins are not called otherwise -/
structure Bt (mg : Str → Option Value) : Prop where
  isinstance : mg "isinstance" = none
  int : mg "int" = none
  bool : mg "bool" = none
  tuple : mg "tuple" = none
  len : mg "len" = none
section
variable {P : Program} {w : World} {K : PySem.W.Frag} {mg : Str → Option Value} {base : Heap}
theorem kit_tt (t c : String) (b : Bool) (h : (if (Value.type t == Value.type c) = true then some true else PySem.W.kitCls K (.type t) (.type c)) = some b) : PySem.W.kitOne K (.type t) (.type c) = some b := h
theorem kit1 (d : PyData) : PySem.W.kitOne K (.type (tyD d)) (.type "int") = some (match d with | .int _ => true | .bool _ => true | _ => false) := by
  cases d <;> rfl
theorem kit2 (d : PyData) : PySem.W.kitOne K (.type (tyD d)) (.type "bool") = some (match d with | .bool _ => true | _ => false) := by
  cases d <;> rfl
theorem kit3 (d : PyData) : PySem.W.kitOne K (.type (tyD d)) (.type "tuple") = some (match d with | .tuple _ => true | _ => false) := by
  cases d <;> rfl
end
end Odj

set_option Elab.async false
set_option linter.all false
set_option maxRecDepth 100000
namespace Odj
open PySem L2
def spIsWhole : Sp := fun vs H Q _ => ∃ S d v, vs = [v] ∧ Rep S H d v ∧ Q (.bl (isIntD d)) H
def risingD : PyData → Bool
  | .tuple ds => risingFrom (-1) ds
  | _ => false
def spIsRising : Sp := fun vs H Q _ => ∃ S d v, vs = [v] ∧ Rep S H d v ∧ Q (.bl (risingD d)) H
section
variable {P : Program} {w : World} {K : PySem.W.Frag} {mg : Str → Option Value} {base : Heap} {f : Addr} {fd : FuncData}
end
end Odj

set_option Elab.async false
set_option linter.all false
set_option maxRecDepth 100000
namespace Odj
open PySem L2
/-- the feed at fa, its script at sa, asked n times so far -/
structure Feed (H : Hp) (fa sa : Addr) (n : Int) : Prop where
  ex : ∃ (ns : List Int) (i c : Int), H fa = some (.lst [.ref sa, .int i, .int c, .int n]) ∧ H sa = some (.lst (ns.map V.int))
  ne : sa ≠ fa
  lo : 0 ≤ n
theorem Feed.ext {S : List Addr} {H H' : Hp} {fa sa : Addr} {n : Int} (f : Feed H fa sa n) (x : Ext S H H') (h1 : fa ∉ S) (h2 : sa ∉ S) : Feed H' fa sa n := by
  obtain ⟨ns, i, c, e1, e2⟩ := f.ex
  exact ⟨⟨ns, i, c, x.keep _ _ h1 e1, x.keep _ _ h2 e2⟩, f.ne, f.lo⟩
theorem Feed.put {H : Hp} {fa sa : Addr} {n : Int} (f : Feed H fa sa n) (i c n' : Int) (h : 0 ≤ n') : Feed (upd H fa (.lst [.ref sa, .int i, .int c, .int n'])) fa sa n' ∧ Ext [fa] H (upd H fa (.lst [.ref sa, .int i, .int c, .int n'])) := by
  obtain ⟨ns, i0, c0, e1, e2⟩ := f.ex
  exact ⟨⟨⟨ns, i, c, upd_same, by rw [upd_ne f.ne]; exact e2⟩, f.ne, h⟩, .set (by simp) e1⟩
def most : Int := 1099511627776
/-- a draw below many -/
def spDraw : Sp := fun vs H Q _ => ∃ (fa sa : Addr) (n many : Int), vs = [.ref fa, .int many] ∧ Feed H fa sa n ∧ 0 < many ∧ many < 1073741824 ∧ n < most ∧
  ∀ (r : Int) (H' : Hp), 0 ≤ r → r < many → Feed H' fa sa (n + 1) → Ext [fa] H H' → Q (.int r) H'
theorem canLay_ints (ns : List Int) : PyData.canLayAll0 (ns.map PyData.int) = true := by
  induction ns with
  | nil => rfl
  | cons n ns ih => simpa [PyData.canLayAll0, PyData.canLay0] using ih
theorem depth_ints (ns : List Int) : PyData.depthAll (ns.map PyData.int) = 0 := by
  induction ns with
  | nil => rfl
  | cons n ns ih => simpa [PyData.depthAll, PyData.depth] using ih
section
variable {P : Program} {w : World} {K : PySem.W.Frag} {mg : Str → Option Value} {base : Heap} {f : Addr} {fd : FuncData}
theorem d_draw (F : Fun K "_law_draw" "_law_draw" (top 13) f fd) (hm : mg "_law_draw" = some (.ref f)) (B : Bt mg) : DefOk P w K mg base 1 "_law_draw" ["_law_feed_here", "_law_many"] spDraw := by
  refine ⟨f, fd, ?_, hm, F.kp, F.binds fun _ _ _ _ _ _ us hl => match us, hl with | [_, _], _ => rfl⟩
  have sc : FnScope ["_law_feed_here", "_law_many", "_law_found", "_law_cell", "_law_mixed"] ["_law_feed_here", "_law_many"] (defScope (top 13)) := ⟨rfl, rfl, rfl, by decide +kernel, rfl, by decide +kernel, by decide +kernel⟩
  refine F.okQ sc (fun vs H Q E h => ?_) (fun cdv A outer s H vs Q E hr h => ?_)
  · obtain ⟨fa, sa, n, many, rfl, _⟩ := h
    rfl
  · obtain ⟨fa, sa, n, many, rfl, fe, m0, m1, nm, q⟩ := h
    refine ⟨_, (qss_cons (qs_asg (qe_op op_add (qe_ix ix_list (qv 0) qe_int (fun _ _ => rfl)) qe_int) (qg_sub (qv 0) qe_int set_list))
      (qss_cons (qs_if (qt_cmpR op_gt (qe_ix ix_list (qv 0) qe_int (fun _ _ => rfl)) qe_int (nomark _)) (qss_cons (qs_set (i := 2) sc.nd rfl (Or.inl rfl) (qe_op op_mod (qe_ix ix_list (qv 0) qe_int (fun _ _ => rfl)) (qv 1)))
      (qss_cons (qs_asg (qe_op op_fdiv (qe_ix ix_list (qv 0) qe_int (fun _ _ => rfl)) (qv 1)) (qg_sub (qv 0) qe_int set_list))
      (qss_one (qs_ret (qv 2))))) qss_nil)
      (qss_cons (qs_set (i := 3) sc.nd rfl (Or.inl rfl) qe_int)
      (qss_cut (qs_if (qt_cmpR (op_neD hr) (qe_ix ix_list (qv 0) qe_int (fun _ _ => rfl)) (qe_lst qa_nil) (nomark _)) (qss_one (qs_set (i := 3) sc.nd rfl (Or.inl rfl) (qe_ix ix_list (qe_ix ix_list (qv 0) qe_int (fun _ _ => rfl)) (qe_op op_mod (qe_ix ix_list (qv 0) qe_int (fun _ _ => rfl)) (qe_callB call_len_seq (by rfl) B.len (by decide +kernel) (qa_c (qe_ix ix_list (qv 0) qe_int (fun _ _ => rfl)) qa_nil))) (fun _ _ => rfl)))) qss_nil)
      (qss_cons (qs_asg (qe_op op_add (qe_ix ix_list (qv 0) qe_int (fun _ _ => rfl)) qe_int) (qg_sub (qv 0) qe_int set_list))
      (qss_cut (qs_if (QW.pt (qw_and (qt_cmpR op_ge (qv 3) (qe_op op_pow qe_int qe_int) (nomark _)) (qw_and1 (qt_cmpR op_le (qe_ix ix_list (qv 0) qe_int (fun _ _ => rfl)) (qe_callB call_len_seq (by rfl) B.len (by decide +kernel) (qa_c (qe_ix ix_list (qv 0) qe_int (fun _ _ => rfl)) qa_nil)) (nomark _))))) (qss_cons (qs_asg (qe_op op_fdiv (qv 3) (qv 1)) (qg_sub (qv 0) qe_int set_list))
      (qss_one (qs_ret (qe_op op_mod (qv 3) (qv 1))))) qss_nil)
      (qss_cons (qs_set (i := 4) sc.nd rfl (Or.inl rfl) (qe_op op_mod (qe_op op_mul (qe_op op_add (qe_op op_mod (qv 3) qe_int) (qe_op op_mul qe_int (qe_ix ix_list (qv 0) qe_int (fun _ _ => rfl)))) qe_int) qe_int))
      (qss_cons (qs_set (i := 4) sc.nd rfl (Or.inl rfl) (qe_op op_mod (qe_op op_mul (qe_op op_add (qe_op op_fdiv (qv 4) qe_int) (qe_op op_mul (qe_op op_mul qe_int (qe_ix ix_list (qv 0) qe_int (fun _ _ => rfl))) (qe_ix ix_list (qv 0) qe_int (fun _ _ => rfl)))) qe_int) qe_int))
      (qss_one (qs_ret (qe_op op_mod (qe_op op_fdiv (qv 4) qe_int) (qv 1)))))))))))), ?_⟩
    obtain ⟨ns, i, c, e1, e2⟩ := fe.ex
    have n0 := fe.lo
    obtain ⟨f1, x1⟩ := fe.put i c (n + 1) (by omega)
    refine ⟨_, rfl, fa, _, 3, _, rfl, rfl, SqL.of e1, rfl, n, 1, rfl, rfl, _, rfl, fa, _, 3, 3, rfl, rfl, e1, rfl, ?_⟩
    refine ⟨_, rfl, fa, _, 2, _, rfl, rfl, SqL.of upd_same, rfl, c, 0, rfl, rfl, _, rfl, ite2 (fun hc => ?_) (fun hc => ?_)⟩
    · refine ⟨_, rfl, fa, _, 2, _, rfl, rfl, SqL.of upd_same, rfl, _, rfl, c, many, rfl, rfl, m0, ?_⟩
      refine ⟨_, rfl, fa, _, 2, _, rfl, rfl, SqL.of upd_same, rfl, _, rfl, c, many, rfl, rfl, ⟨m0, m1⟩, _, rfl, fa, _, 2, 2, rfl, rfl, upd_same, rfl, ?_⟩
      obtain ⟨f2, x2⟩ := f1.put i (c / many) (n + 1) (by omega)
      exact ⟨_, rfl, q _ _ (Int.emod_nonneg _ (by omega)) (Int.emod_lt_of_pos _ m0) f2 (x1.trans x2)⟩
    · -- the cell
      refine ⟨fun σ' H' => ∃ cell : Int, σ' = [some (.ref fa), some (.int many), none, some (.int cell), none] ∧ Feed H' fa sa (n + 1) ∧ Ext [fa] H H', ?_, ?_⟩
      · refine ⟨_, rfl, fa, _, 0, _, rfl, rfl, SqL.of upd_same, rfl, Nat.zero_le _, fun p hp => ?_⟩
        have hpf : p ≠ fa := fun z => by rw [z, upd_same] at hp; cases hp
        have x2 : Ext [] (upd H fa (.lst [.ref sa, .int i, .int c, .int (n + 1)])) (upd (upd H fa (.lst [.ref sa, .int i, .int c, .int (n + 1)])) p (.lst [])) := .new hp
        have f2 := f1.ext x2 (by simp) (by simp)
        have x3 := x1.trans (x2.mono (S' := [fa]) (by simp))
        have a2 : (upd (upd H fa (.lst [.ref sa, .int i, .int c, .int (n + 1)])) p (.lst [])) sa = some (.lst (ns.map V.int)) := x2.keep _ _ (by simp) (by rw [upd_ne fe.ne]; exact e2)
        have a1 : (upd (upd H fa (.lst [.ref sa, .int i, .int c, .int (n + 1)])) p (.lst [])) fa = some (.lst [.ref sa, .int i, .int c, .int (n + 1)]) := x2.keep _ _ (by simp) upd_same
        refine ⟨[], .list (ns.map .int), .list [], .lst a2 (by simp) (.ints ns), .lst upd_same (by simp) .nil, canLay_ints ns, rfl, by simp [PyData.depth, depth_ints], _, rfl, ?_⟩
        cases ns with
        | nil => exact iteF ⟨7, rfl, f2, x3⟩
        | cons k ns =>
          refine iteT ?_
          have hl : (0 : Int) < (((k :: ns).map V.int).length : Nat) := by simp
          obtain ⟨v, hv, hv2⟩ := atI_ex (xs := (k :: ns).map V.int) (Int.emod_nonneg i (by omega)) (Int.emod_lt_of_pos i hl)
          obtain ⟨z, rfl⟩ : ∃ z, v = V.int z := by
            rw [List.getElem?_map] at hv2
            cases e : (k :: ns)[(i % (((k :: ns).map V.int).length : Nat)).toNat]? with
            | none => rw [e] at hv2; cases hv2
            | some z => rw [e] at hv2; exact ⟨z, (Option.some.inj hv2).symm⟩
          refine ⟨_, rfl, fa, _, 0, _, rfl, rfl, SqL.of a1, rfl, _, rfl, fa, _, 1, _, rfl, rfl, SqL.of a1, rfl, _, rfl, fa, _, 0, _, rfl, rfl, SqL.of a1, rfl, sa, _, rfl, .inl (SqL.of a2), i, _, rfl, rfl, hl, sa, _, _, _, rfl, rfl, SqL.of a2, hv, z, rfl, f2, x3⟩
      · rintro σ' H' ⟨cell, rfl, f2, x2⟩
        obtain ⟨ns2, i2, c2, b1, b2⟩ := f2.ex
        obtain ⟨f3, x3⟩ := f2.put (i2 + 1) c2 (n + 1) (by omega)
        have b3 : (upd H' fa (.lst [.ref sa, .int (i2 + 1), .int c2, .int (n + 1)])) sa = some (.lst (ns2.map V.int)) := by rw [upd_ne fe.ne]; exact b2
        refine ⟨_, rfl, fa, _, 1, _, rfl, rfl, SqL.of b1, rfl, i2, 1, rfl, rfl, _, rfl, fa, _, 1, 1, rfl, rfl, b1, rfl, ?_⟩
        refine ⟨fun σ' H2 => σ' = [some (.ref fa), some (.int many), none, some (.int cell), none] ∧ H2 = upd H' fa (.lst [.ref sa, .int (i2 + 1), .int c2, .int (n + 1)]), ?_, ?_⟩
        · refine ⟨_, rfl, 10, 18, rfl, rfl, ⟨by decide, by decide, by decide⟩, cell, _, rfl, rfl, _, rfl, ite2 (fun hb => ?_) (fun hb => ?_)⟩
          · refine ⟨_, rfl, fa, _, 1, _, rfl, rfl, SqL.of upd_same, rfl, _, rfl, fa, _, 0, _, rfl, rfl, SqL.of upd_same, rfl, sa, _, rfl, .inl (SqL.of b3), _, _, rfl, rfl, _, rfl, ite2 (fun hd => ?_) (fun hd => ?_)⟩
            · refine ⟨_, rfl, _, rfl, cell, many, rfl, rfl, ⟨m0, m1⟩, _, rfl, fa, _, 2, 2, rfl, rfl, upd_same, rfl, ?_⟩
              obtain ⟨f4, x4⟩ := f3.put (i2 + 1) (cell / many) (n + 1) (by omega)
              exact ⟨_, rfl, _, rfl, cell, many, rfl, rfl, m0, q _ _ (Int.emod_nonneg _ (by omega)) (Int.emod_lt_of_pos _ m0) f4 ((x2.trans x3).trans x4)⟩
            · exact ⟨rfl, rfl⟩
          · exact iteF ⟨rfl, rfl⟩
        · rintro σ' H2 ⟨rfl, rfl⟩
          have nb : -(2 ^ 64) < n + 1 ∧ n + 1 < 2 ^ 64 := by
            have : most = 1099511627776 := rfl
            constructor <;> omega
          refine ⟨_, rfl, _, _, rfl, rfl, (by show (0 : Int) < 1000000007; decide), _, rfl, fa, _, 3, _, rfl, rfl, SqL.of upd_same, rfl, _, _, rfl, rfl, .inl ⟨by decide, by decide⟩, _, _, rfl, rfl, _, _, rfl, rfl, .inr ⟨by decide, by decide⟩, _, _, rfl, rfl, (by show (0 : Int) < 2147483629; decide), ?_⟩
          refine ⟨_, rfl, _, _, rfl, rfl, ⟨by decide, by decide⟩, _, rfl, fa, _, 3, _, rfl, rfl, SqL.of upd_same, rfl, _, _, rfl, rfl, .inl ⟨by decide, by decide⟩, _, rfl, fa, _, 3, _, rfl, rfl, SqL.of upd_same, rfl, _, _, rfl, rfl, .inr nb, _, _, rfl, rfl, _, _, rfl, rfl, .inr ⟨by decide, by decide⟩, _, _, rfl, rfl, (by show (0 : Int) < 2147483587; decide), ?_⟩
          exact ⟨_, rfl, _, _, rfl, rfl, ⟨by decide, by decide⟩, _, rfl, _, _, rfl, rfl, m0, q _ _ (Int.emod_nonneg _ (by omega)) (Int.emod_lt_of_pos _ m0) f3 (x2.trans x3)⟩
end
end Odj

set_option Elab.async false
set_option linter.all false
set_option maxRecDepth 100000
set_option maxHeartbeats 4000000
namespace Odj
open PySem L2
theorem rising_ints : ∀ (ds : List PyData) (a : Int), risingFrom a ds = true → ∀ d ∈ ds, ∃ i, d = .int i
  | [], _, _, d, hd => by cases hd
  | .int j :: ds, a, h, d, hd => by
    rcases List.mem_cons.mp hd with e | e
    · exact ⟨j, e⟩
    · refine rising_ints ds j ?_ d e
      simp only [risingFrom, Bool.and_eq_true] at h
      exact h.2
  | .none :: ds, a, h, d, hd => by cases h
  | .bool _ :: ds, a, h, d, hd => by cases h
  | .str _ :: ds, a, h, d, hd => by cases h
  | .list _ :: ds, a, h, d, hd => by cases h
  | .tuple _ :: ds, a, h, d, hd => by cases h
  | .dict _ :: ds, a, h, d, hd => by cases h
theorem lastBelow_at (b : Int) : ∀ (ds : List PyData) (i : Int), ds[ds.length - 1]? = some (.int i) → lastBelow b ds = decide (i < b)
  | [], i, h => by cases h
  | [d], i, h => by
    have : d = .int i := Option.some.inj h
    subst this
    rfl
  | d :: e :: ds, i, h => by
    rw [show lastBelow b (d :: e :: ds) = lastBelow b (e :: ds) from by simp [lastBelow]]
    exact lastBelow_at b (e :: ds) i (by simpa using h)
theorem atI_neg1 {α : Type} {xs : List α} {x : α} (h : xs[xs.length - 1]? = some x) : atI xs (-1) = some x := by
  have hl : xs.length - 1 < xs.length := (List.getElem?_eq_some_iff.mp h).1
  unfold atI ixN
  rw [if_neg (by decide), if_pos (by omega)]
  show xs[(-1 + (xs.length : Int)).toNat]? = some x
  rw [show (-1 + (xs.length : Int)).toNat = xs.length - 1 by omega]
  exact h
def spBelow : Sp := fun vs H Q _ => ∃ S d v b, vs = [v, .int b] ∧ Rep S H d v ∧ Q (.bl (belowD b d)) H
/-- a web's own shape -/
def webD (many : Int) (ts : List PyData) : PyData := .tuple [.int many, .tuple ts]
def spSide : Sp := fun vs H Q _ => ∃ S d v many ts w, vs = [w, v] ∧ Rep S H (webD many ts) w ∧ Rep S H d v ∧ Q (.bl (belowD many d)) H
def spSet : Sp := fun vs H Q _ => ∃ S d v many ts w, vs = [w, v] ∧ Rep S H (webD many ts) w ∧ Rep S H d v ∧ Q (.bl (belowD (ts.length : Nat) d)) H
def spWhole : Sp := fun vs H Q _ => ∃ S d v lo hi, vs = [v, .int lo, .int hi] ∧ Rep S H d v ∧ Q (.bl (wholeD lo hi d)) H
theorem web_of {S : List Addr} {H : Hp} {many : Int} {ts : List PyData} {v : V} (h : Rep S H (webD many ts) v) : ∃ a t xs, v = .ref a ∧ H a = some (.tup [.int many, .ref t]) ∧ H t = some (.tup xs) ∧ Reps S H ts xs := by
  obtain ⟨a, xs, e, ha, r⟩ := h.of_tup
  obtain ⟨x, r1, e1, h1, h2⟩ := r.of_cons
  obtain ⟨y, r2, e2, h3, h4⟩ := h2.of_cons
  have e3 := h4.of_nil
  have e4 := h1.of_int
  subst e1 e2 e3 e4
  obtain ⟨t, ys, e5, ht, h5⟩ := h3.of_tup
  subst e5
  exact ⟨a, t, ys, e, ha, ht, h5⟩
def spFeed (K : PySem.W.Frag) : Sp := fun vs H Q _ => ∃ (a : Addr) (ns : List Int), vs = [.ref a] ∧ SqL K H a (ns.map V.int) ∧ ∀ (fa sa : Addr) (H' : Hp), Feed H' fa sa 0 → Ext [] H H' → H fa = none → H sa = none → Q (.ref fa) H'
def spPrice : Sp := fun vs H Q _ => ∃ (fa sa : Addr) (n : Int) (b : Bool), vs = [.ref fa, .bl b] ∧ Feed H fa sa n ∧ n + 3 ≤ most ∧
  ∀ (p n' : Int) (H' : Hp), -99 ≤ p → p ≤ 99 → n ≤ n' → n' ≤ n + 3 → Feed H' fa sa n' → Ext [fa] H H' → Q (.int p) H'
theorem Feed.has {H : Hp} {fa sa : Addr} {n : Int} (f : Feed H fa sa n) {l : Addr} (h : H l = none) : l ≠ fa ∧ l ≠ sa := by
  obtain ⟨ns, i, c, e1, e2⟩ := f.ex
  exact ⟨(ne_of_none e1 h).symm, (ne_of_none e2 h).symm⟩
section
variable {P : Program} {w : World} {K : PySem.W.Frag} {mg : Str → Option Value} {base : Heap} {f : Addr} {fd : FuncData}
theorem d_feed (F : Fun K "_law_feed" "_law_feed" (top 12) f fd) (hm : mg "_law_feed" = some (.ref f)) : DefOk P w K mg base 1 "_law_feed" ["_law_script"] (spFeed K) := by
  refine ⟨f, fd, ?_, hm, F.kp, F.binds fun _ _ _ _ _ _ us hl => match us, hl with | [_], _ => rfl⟩
  have sc : FnScope ["_law_script"] ["_law_script"] (defScope (top 12)) := ⟨rfl, rfl, rfl, by decide +kernel, rfl, by decide +kernel, by decide +kernel⟩
  refine F.okQ sc (fun vs H Q E h => ?_) (fun cdv A outer s H vs Q E hr h => ?_)
  · obtain ⟨a, ns, rfl, _⟩ := h
    rfl
  · obtain ⟨a, ns, rfl, hs, q⟩ := h
    refine ⟨_, (qss_one (qs_ret (qe_lst (qa_c (qe_slice (slL K) (qv 0) qo_none (qo_some qe_int)) (qa_c qe_int (qa_c qe_int (qa_c qe_int qa_nil))))))), ?_⟩
    refine ⟨_, rfl, 63, rfl, a, _, rfl, hs, fun p hp => ⟨by show 4 ≤ sizeLine; decide, fun l hl => ?_⟩⟩
    have hpl : p ≠ l := fun z => by rw [← z, upd_same] at hl; cases hl
    have hl0 : H l = none := by rw [upd_ne hpl.symm] at hl; exact hl
    have x : Ext [] H (upd (upd H p (.lst (cutV (ns.map V.int) none (some 63)))) l (.lst [.ref p, .int 0, .int 0, .int 0])) := (Ext.new hp).trans (.new hl)
    refine q l p _ ⟨⟨(ns.drop (HT.sIx (ns.map V.int).length 0 none)).take (HT.sIx (ns.map V.int).length (ns.map V.int).length (some 63) - HT.sIx (ns.map V.int).length 0 none), 0, 0, upd_same, ?_⟩, hpl, by decide⟩ x hl0 hp
    rw [upd_ne hpl, upd_same]
    unfold cutV
    rw [List.map_take, List.map_drop]
theorem d_price (F : Fun K "_law_price" "_law_price" (top 14) f fd) (hm : mg "_law_price" = some (.ref f)) (D_law_draw : DefOk P w K mg base 1 "_law_draw" ["_law_feed_here", "_law_many"] spDraw) : DefOk P w K mg base 2 "_law_price" ["_law_feed_here", "_law_signed"] spPrice := by
  refine ⟨f, fd, ?_, hm, F.kp, F.binds fun _ _ _ _ _ _ us hl => match us, hl with | [_, _], _ => rfl⟩
  have sc : FnScope ["_law_feed_here", "_law_signed", "_law_price_here"] ["_law_feed_here", "_law_signed"] (defScope (top 14)) := ⟨rfl, rfl, rfl, by decide +kernel, rfl, by decide +kernel, by decide +kernel⟩
  refine F.okQ sc (fun vs H Q E h => ?_) (fun cdv A outer s H vs Q E hr h => ?_)
  · obtain ⟨fa, sa, n, b, rfl, _⟩ := h
    rfl
  · obtain ⟨fa, sa, n, b, rfl, fe, nm, q⟩ := h
    refine ⟨_, (qss_cons (qs_set (i := 2) sc.nd rfl (Or.inl rfl) (qe_ix (ixL K) (qe_lst (qa_c qe_int (qa_c qe_int (qa_c qe_int (qa_c qe_int (qa_c qe_int (qa_c qe_int (qa_c qe_int (qa_c (qe_callD D_law_draw (hr.mono (by decide)) (qa_c (qv 0) (qa_c qe_int qa_nil))) qa_nil))))))))) (qe_callD D_law_draw (hr.mono (by decide)) (qa_c (qv 0) (qa_c qe_int qa_nil))) (fun _ _ => rfl)))
      (qss_one (qs_ret (qe_ifExp (QW.pt (qw_and (qt_val (qv 1)) (qw_and1 (qt_cmpR op_eq (qe_callD D_law_draw (hr.mono (by decide)) (qa_c (qv 0) (qa_c qe_int qa_nil))) qe_int (nomark _))))) (qe_un un_neg (qv 2)) (qv 2))))), ?_⟩
    refine ⟨_, rfl, fa, sa, n, 100, rfl, fe, by decide, by decide, by omega, fun r H1 h0 h1 f1 x1 => ⟨by show 8 ≤ sizeLine; decide, fun l hl => ?_⟩⟩
    have f1' := f1.ext (Ext.new (S := []) (o := .lst [.int 1, .int 2, .int 3, .int 0, .int 5, .int 1, .int 99, .int r]) hl) (by simp) (by simp)
    refine ⟨_, rfl, fa, sa, n + 1, 8, rfl, f1', by decide, by decide, by omega, fun r2 H2 g0 g1 f2 x2 => ?_⟩
    have hlf := (f1.has hl).1
    have hl2 : H2 l = some (.lst [.int 1, .int 2, .int 3, .int 0, .int 5, .int 1, .int 99, .int r]) := x2.keep l _ (by simpa using hlf) upd_same
    obtain ⟨v, hv, hv2⟩ := atI_ex (xs := [V.int 1, .int 2, .int 3, .int 0, .int 5, .int 1, .int 99, .int r]) g0 (by simpa using g1)
    obtain ⟨p, rfl, p0, p1⟩ : ∃ p, v = V.int p ∧ 0 ≤ p ∧ p ≤ 99 := by
      have hm := List.mem_of_getElem? hv2
      simp only [List.mem_cons, List.not_mem_nil, or_false] at hm
      rcases hm with e | e | e | e | e | e | e | e <;> exact ⟨_, e, by omega, by omega⟩
    have xx : Ext [fa] H H2 := (x1.trans (.new hl)).trans x2
    refine ⟨l, _, r2, _, rfl, rfl, SqL.of hl2, hv, ?_⟩
    refine ⟨_, rfl, b, rfl, ?_⟩
    cases b with
    | false => exact iteF (iteF ⟨_, rfl, q p _ H2 (by omega) (by omega) (by omega) (by omega) f2 xx⟩)
    | true =>
      refine iteT ⟨_, rfl, fa, sa, n + 1 + 1, 3, rfl, f2, by decide, by decide, by omega, fun r3 H3 k0 k1 f3 x3 => ⟨rfl, _, rfl, ite2 (fun hz => ?_) (fun hz => ?_)⟩⟩
      · exact ⟨_, rfl, p, rfl, q (-p) _ H3 (by omega) (by omega) (by omega) (by omega) f3 (xx.trans x3)⟩
      · exact ⟨_, rfl, q p _ H3 (by omega) (by omega) (by omega) (by omega) f3 (xx.trans x3)⟩
end
end Odj

set_option Elab.async false
set_option linter.all false
set_option maxRecDepth 100000
set_option maxHeartbeats 4000000
namespace L2
open PySem
/-! ### comprehensions by a word -/
section
variable {mp : List (Option Nat)} {g : TG} {tc : TT} {te : TE} {σ : St} {H : Hp} {R : List V → Hp → Prop}
theorem comp_range {lo : Int} {n : Nat} (Pv : Nat → List V → St → Hp → Prop) (h0 : Pv 0 [] (seed mp σ) H)
    (hs : ∀ i ys σ' H', i < n → Pv i ys σ' H' → ys.length < sizeLine ∧ g (.int (lo + i)) σ' H' fun σ2 H2 => tc σ2 H2 fun b H3 => if b = true then te σ2 H3 fun y H4 => Pv (i + 1) (ys ++ [y]) σ2 H4 else Pv (i + 1) ys σ2 H3)
    (hd : ∀ ys σ' H', Pv n ys σ' H' → ys.length ≤ sizeLine ∧ R ys H') :
    ∃ W : Nat → Nat → List V → St → Hp → Prop, (∃ m, W 0 m [] (seed mp σ) H) ∧ ∀ i m ys σ' H', W i m ys σ' H' →
      ((Itr lo n).stop i H' ∧ ys.length ≤ sizeLine ∧ R ys H') ∨
      ((Itr lo n).go i H' ∧ ys.length < sizeLine ∧ ∀ x H'', (Itr lo n).yld i H' x H'' → g x σ' H'' fun σ2 H2 => tc σ2 H2 fun b H3 =>
        if b = true then te σ2 H3 fun y H4 => ∃ m', m' < m ∧ W (i + 1) m' (ys ++ [y]) σ2 H4 else ∃ m', m' < m ∧ W (i + 1) m' ys σ2 H3) := by
  refine ⟨fun i m ys σ H => m = n - i ∧ i ≤ n ∧ Pv i ys σ H, ⟨n, by simp, Nat.zero_le _, h0⟩, ?_⟩
  rintro i m ys σ' H' ⟨rfl, hi, p⟩
  by_cases hlt : i < n
  · obtain ⟨hl, q⟩ := hs i ys σ' H' hlt p
    refine .inr ⟨hlt, hl, fun x H'' y => ?_⟩
    obtain ⟨e, y⟩ := y
    subst e y
    have e : ∀ ys σ H, (∃ m', m' < n - i ∧ m' = n - (i + 1) ∧ i + 1 ≤ n ∧ Pv (i + 1) ys σ H) = Pv (i + 1) ys σ H := fun ys σ H => propext ⟨fun ⟨_, _, _, _, z⟩ => z, fun z => ⟨_, by omega, rfl, hlt, z⟩⟩
    simp only [e]
    exact q
  · have e : i = n := by omega
    subst e
    obtain ⟨hl, q⟩ := hd ys σ' H' p
    exact .inl ⟨Nat.le_refl _, hl, q⟩
theorem comp_tup {K : PySem.W.Frag} {a : Addr} {xs : List V} (Pv : Nat → List V → St → Hp → Prop) (h0 : Pv 0 [] (seed mp σ) H) (hl : ∀ i ys σ' H', Pv i ys σ' H' → SqT K H' a xs)
    (hs : ∀ i x ys σ' H', xs[i]? = some x → Pv i ys σ' H' → ys.length < sizeLine ∧ g x σ' H' fun σ2 H2 => tc σ2 H2 fun b H3 => if b = true then te σ2 H3 fun y H4 => Pv (i + 1) (ys ++ [y]) σ2 H4 else Pv (i + 1) ys σ2 H3)
    (hd : ∀ ys σ' H', Pv xs.length ys σ' H' → ys.length ≤ sizeLine ∧ R ys H') :
    ∃ W : Nat → Nat → List V → St → Hp → Prop, (∃ m, W 0 m [] (seed mp σ) H) ∧ ∀ i m ys σ' H', W i m ys σ' H' →
      ((Itt K a).stop i H' ∧ ys.length ≤ sizeLine ∧ R ys H') ∨
      ((Itt K a).go i H' ∧ ys.length < sizeLine ∧ ∀ x H'', (Itt K a).yld i H' x H'' → g x σ' H'' fun σ2 H2 => tc σ2 H2 fun b H3 =>
        if b = true then te σ2 H3 fun y H4 => ∃ m', m' < m ∧ W (i + 1) m' (ys ++ [y]) σ2 H4 else ∃ m', m' < m ∧ W (i + 1) m' ys σ2 H3) := by
  refine ⟨fun i m ys σ H => m = xs.length - i ∧ i ≤ xs.length ∧ Pv i ys σ H, ⟨xs.length, by simp, Nat.zero_le _, h0⟩, ?_⟩
  rintro i m ys σ' H' ⟨rfl, hi, p⟩
  have q0 := hl i ys σ' H' p
  by_cases hlt : i < xs.length
  · have e : ∀ ys σ H, (∃ m', m' < xs.length - i ∧ m' = xs.length - (i + 1) ∧ i + 1 ≤ xs.length ∧ Pv (i + 1) ys σ H) = Pv (i + 1) ys σ H := fun ys σ H => propext ⟨fun ⟨_, _, _, _, z⟩ => z, fun z => ⟨_, by omega, rfl, hlt, z⟩⟩
    have hx : xs[i]? = some xs[i] := by simp [hlt]
    refine .inr ⟨⟨xs, xs[i], q0, hx⟩, (hs i _ ys σ' H' hx p).1, fun x H'' y => ?_⟩
    obtain ⟨e1, y⟩ := y
    subst e1
    simp only [e]
    exact (hs i x ys σ' _ (y xs q0) p).2
  · have e : i = xs.length := by omega
    subst e
    obtain ⟨hl, q⟩ := hd ys σ' H' p
    exact .inl ⟨⟨xs, q0, Nat.le_refl _⟩, hl, q⟩
end
end L2
namespace Odj
open PySem L2
/-- some of many numbers -/
def spSome : Sp := fun vs H Q _ => ∃ (fa sa : Addr) (n many : Int), vs = [.ref fa, .int many] ∧ Feed H fa sa n ∧ 0 ≤ many ∧ many ≤ 1000 ∧ n + 1 + many ≤ most ∧
  ∀ (ns : List Int) (v : V) (n' : Int) (H' : Hp), Rep [fa] H' (.tuple (ns.map .int)) v → ns.length ≤ many.toNat → (∀ i ∈ ns, 0 ≤ i ∧ i < many) → n ≤ n' → n' ≤ n + 1 + many → Feed H' fa sa n' → Ext [fa] H H' → Q v H'
theorem rng_ints (j : Int) : rngV 0 j = (((List.range j.toNat).map fun (k : Nat) => (k : Int)).map V.int) := by
  unfold rngV
  rw [List.map_map, Int.sub_zero]
  apply List.map_congr_left
  intro k _
  simp
structure Bt2 (mg : Str → Option Value) : Prop where
  range : mg "range" = none
section
variable {P : Program} {w : World} {K : PySem.W.Frag} {mg : Str → Option Value} {base : Heap} {f : Addr} {fd : FuncData}
theorem d_some (F : Fun K "_law_some" "_law_some" (top 16) f fd) (hm : mg "_law_some" = some (.ref f)) (B : Bt mg) (B2 : Bt2 mg) (D_law_draw : DefOk P w K mg base 1 "_law_draw" ["_law_feed_here", "_law_many"] spDraw) : DefOk P w K mg base 2 "_law_some" ["_law_feed_here", "_law_many"] spSome := by
  refine ⟨f, fd, ?_, hm, F.kp, F.binds fun _ _ _ _ _ _ us hl => match us, hl with | [_, _], _ => rfl⟩
  have sc : FnScope ["_law_feed_here", "_law_many", "_law_way"] ["_law_feed_here", "_law_many"] (defScope (top 16)) := ⟨rfl, rfl, rfl, by decide +kernel, rfl, by decide +kernel, by decide +kernel⟩
  refine F.okQ sc (fun vs H Q E h => ?_) (fun cdv A outer s H vs Q E hr h => ?_)
  · obtain ⟨fa, sa, n, many, rfl, _⟩ := h
    rfl
  · obtain ⟨fa, sa, n, many, rfl, fe, m0, m1, nm, q⟩ := h
    refine ⟨_, (qss_cons (qs_set (i := 2) sc.nd rfl (Or.inr rfl) (qe_callD D_law_draw (hr.mono (by decide)) (qa_c (qv 0) (qa_c qe_int qa_nil))))
      (qss_cons (qs_if (qt_cmpR op_lt (qv 2) qe_int (nomark _)) (qss_one (qs_ret (qe_callTy (call_tuple_rng rfl) (by rfl) B.tuple (by decide +kernel) (qa_c (qe_callTy call_rng (by rfl) B2.range (by decide +kernel) (qa_c (qe_op op_mul (qv 1) (qv 2)) qa_nil)) qa_nil)))) qss_nil)
      (qss_one (qs_ret (qe_callTy (tupleK K) (by rfl) B.tuple (by decide +kernel) (qa_c (qe_comp (N := ["_law_k", "_law_feed_here", "_law_way"]) (mp := [none, some 0, some 2]) rfl (qi_range1 (by rfl) B2.range (qa_c (qv 1) qa_nil)) rfl (by show compOk ["_law_feed_here", "_law_many", "_law_way"] (defScope (top 16)) _ _ _ = true; decide +kernel) fun _ _ _ _ _ => ⟨(qg_name (i := 0) (by show List.Nodup [("_law_k" : Str), ("_law_feed_here" : Str), ("_law_way" : Str)]; decide +kernel) rfl (Or.inl rfl)), (qk_one (qt_cmpR op_eq (qe_callD D_law_draw (hr.mono (by decide)) (qa_c (qv 1) (qa_c (qv 2) qa_nil))) qe_int (nomark _))), (qv 0)⟩) qa_nil)))))), ?_⟩
    have n0 := fe.lo
    refine ⟨_, rfl, fa, sa, n, 6, rfl, fe, by decide, by decide, by omega, fun way H1 w0 w1 f1 x1 => ?_⟩
    refine ⟨_, rfl, _, _, rfl, rfl, _, rfl, ite2 (fun hw => ?_) (fun hw => ?_)⟩
    · have hw' : way < 2 := of_decide_eq_true hw
      have hb : 0 ≤ many * way ∧ many * way ≤ 1000 := by
        have : way = 0 ∨ way = 1 := by omega
        rcases this with e | e <;> subst e <;> omega
      refine ⟨_, rfl, _, rfl, _, _, rfl, rfl, .inr ⟨by omega, by omega⟩, _, rfl, fun p hp => ?_⟩
      refine ⟨p, 0, many * way, rfl, upd_same, ⟨by omega, by omega, by omega, by omega⟩, by omega, fun l hl => ?_⟩
      have hpl : p ≠ l := fun z => by rw [← z, upd_same] at hl; cases hl
      have hle : many * way ≤ many := by
        have : way = 0 ∨ way = 1 := by omega
        rcases this with e | e <;> subst e <;> omega
      refine q ((List.range (many * way).toNat).map fun (k : Nat) => (k : Int)) _ (n + 1) _ (.tup upd_same (by rw [rng_ints]; exact .ints _)) ?_ ?_ (by omega) (by omega) ((f1.ext ((Ext.new (S := []) hp).trans (.new hl)) (by simp) (by simp))) (x1.trans ((Ext.new hp).trans (.new hl)))
      · rw [List.length_map, List.length_range]
        omega
      · intro i hi
        obtain ⟨k, hk, rfl⟩ := List.mem_map.mp hi
        have := List.mem_range.mp hk
        omega
    · have hw' : 2 ≤ way := by
        have : ¬ way < 2 := fun z => hw (decide_eq_true z)
        omega
      refine ⟨_, rfl, many, rfl, by omega, by omega, comp_range (fun i ys σ' H' => (∃ y, σ' = [y, some (.ref fa), some (.int way)]) ∧ (∃ ns : List Int, ys = ns.map V.int ∧ ns.length ≤ i ∧ ∀ k ∈ ns, 0 ≤ k ∧ k < (i : Int)) ∧ i ≤ many.toNat ∧ Feed H' fa sa (n + 1 + i) ∧ Ext [fa] H H')
        ⟨⟨none, rfl⟩, ⟨[], rfl, Nat.le_refl _, by simp⟩, Nat.zero_le _, by simpa using f1, x1⟩ ?_ ?_⟩
      · rintro i ys σ' H' hi ⟨⟨y, rfl⟩, ⟨ns, rfl, hl, hk⟩, _, f2, x2⟩
        refine ⟨by rw [List.length_map, show sizeLine = 16777216 by decide]; omega, ?_⟩
        refine ⟨_, rfl, _, rfl, fa, sa, n + 1 + i, way, rfl, f2, by omega, by omega, by omega, fun r H3 r0 r1 f3 x3 => ⟨rfl, _, rfl, ?_⟩⟩
        have fe3 : Feed H3 fa sa (n + 1 + ((i + 1 : Nat) : Int)) := by
          have : n + 1 + ((i + 1 : Nat) : Int) = n + 1 + (i : Int) + 1 := by omega
          rw [this]
          exact f3
        refine ite2 (fun hz => ?_) (fun hz => ?_)
        · refine ⟨_, rfl, ⟨_, rfl⟩, ⟨ns ++ [0 + (i : Int)], by simp, by simp; omega, ?_⟩, by omega, fe3, x2.trans x3⟩
          intro k hk'
          rcases List.mem_append.mp hk' with h | h
          · have := hk k h
            omega
          · have : k = 0 + (i : Int) := by simpa using h
            omega
        · refine ⟨⟨_, rfl⟩, ⟨ns, rfl, by omega, fun k hk' => ?_⟩, by omega, fe3, x2.trans x3⟩
          have := hk k hk'
          omega
      · rintro ys σ' H' ⟨_, ⟨ns, rfl, hl, hk⟩, _, f2, x2⟩
        refine ⟨by rw [List.length_map, show sizeLine = 16777216 by decide]; omega, fun D hD => ?_⟩
        refine ⟨D, _, rfl, .inl ⟨SqL.of upd_same, fun l hl2 => ?_⟩⟩
        refine q ns _ (n + 1 + (many.toNat : Int)) _ (.tup upd_same (.ints ns)) hl (fun i hi => ?_) (by omega) (by omega) ?_ ?_
        · have := hk i hi
          omega
        · exact f2.ext ((Ext.new (S := []) hD).trans (.new hl2)) (by simp) (by simp)
        · exact x2.trans ((Ext.new hD).trans (.new hl2))
end
end Odj

set_option Elab.async false
set_option linter.all false
set_option maxRecDepth 100000
set_option maxHeartbeats 4000000
namespace Odj
open PySem L2
theorem truN {i : Nat} {x : V} {σ : St} {H : Hp} {A B : St → Hp → Prop} (h : A (σ.set i (some x)) H) : gName i x σ H fun σ2 H2 => tTrue σ2 H2 fun b H3 => if b = true then A σ2 H3 else B σ2 H3 := by
  show if true = true then A (σ.set i (some x)) H else B (σ.set i (some x)) H
  exact iteT h
def lenD : PyData → Nat
  | .tuple ds => ds.length
  | _ => 0
def spRises : Sp := fun vs H Q _ => ∃ S d v many, vs = [.int many, v] ∧ Rep S H d v ∧ lenD d ≤ 100000 ∧ ∀ H', Ext [] H H' → Q (.bl (risesD many d)) H'
theorem inV_whole (lo hi : Int) (ds : List PyData) : inV (.bl false) (ds.map fun d => V.bl (wholeD lo hi d)) = !ds.all (wholeD lo hi) := by
  induction ds with
  | nil => rfl
  | cons d ds ih =>
    have : inV (.bl false) ((d :: ds).map fun d => V.bl (wholeD lo hi d)) = ((wholeD lo hi d == false) || inV (.bl false) (ds.map fun d => V.bl (wholeD lo hi d))) := rfl
    rw [this, ih, List.all_cons]
    cases wholeD lo hi d <;> rfl
theorem flat_whole (lo hi : Int) (ds : List PyData) : (ds.map fun d => V.bl (wholeD lo hi d)).all flatV = true := by
  induction ds with
  | nil => rfl
  | cons d ds ih => simpa [flatV] using ih
theorem eqv_nil (fs : List Int) : PyData.eqv (.list (fs.map .int)) (.list []) = fs.isEmpty := by
  cases fs <;> simp [PyData.eqv, PyData.eqvAll]
theorem int_at {S : List Addr} {H : Hp} {ds : List PyData} {xs : List V} {lo hi : Int} (r : Reps S H ds xs) (hw : ds.all (wholeD lo hi) = true) {i : Nat} (h : i < ds.length) : xs[i]? = some (.int (intOf (ds.getD i .none))) := by
  have e : ds[i]? = some ds[i] := by simp [h]
  obtain ⟨x, hx, rx⟩ := r.at e
  have hm : wholeD lo hi ds[i] = true := List.all_eq_true.mp hw _ (List.getElem_mem h)
  rw [hx, List.getD_eq_getElem?_getD, e]
  generalize ds[i] = d at hm rx
  cases d with
  | int z => rw [rx.of_int]; rfl
  | _ => cases hm
section
variable {P : Program} {w : World} {K : PySem.W.Frag} {mg : Str → Option Value} {base : Heap} {f : Addr} {fd : FuncData}
end
end Odj

set_option Elab.async false
set_option linter.all false
set_option maxRecDepth 100000
set_option maxHeartbeats 8000000
namespace Odj
open PySem L2
abbrev Tie := Int × Int × Int
def tieD (t : Tie) : PyData := .tuple [.int t.1, .int t.2.1, .int t.2.2]
structure TieOk (many : Int) (t : Tie) : Prop where
  a0 : 0 ≤ t.1
  ab : t.1 < t.2.1
  bm : t.2.1 < many
  p0 : -99 ≤ t.2.2
  p1 : t.2.2 ≤ 99
/-- ties stand so in H, whatever lists change -/
def Ties (H : Hp) (ts : List Tie) (xs : List V) : Prop := ∀ S, Reps S H (ts.map tieD) xs
theorem Ties.ext {S : List Addr} {H H' : Hp} {ts : List Tie} {xs : List V} (h : Ties H ts xs) (x : Ext S H H') : Ties H' ts xs := fun S' => ((h (S' ++ S)).ext (x.mono fun b hb => List.mem_append_right _ hb)).less fun b hb => List.mem_append_left _ hb
theorem Ties.nil {H : Hp} : Ties H [] [] := fun _ => .nil
theorem Ties.append {H : Hp} {ts us : List Tie} {xs ys : List V} (h : Ties H ts xs) (k : Ties H us ys) : Ties H (ts ++ us) (xs ++ ys) := fun S => by rw [List.map_append]; exact (h S).append (k S)
theorem Ties.one {H : Hp} {t : Tie} {p : Addr} (h : H p = some (.tup [.int t.1, .int t.2.1, .int t.2.2])) : Ties H [t] [.ref p] := fun S => .cons (.tup h (.cons (.int _) (.cons (.int _) (.cons (.int _) .nil)))) .nil
theorem Ties.take {H : Hp} {ts : List Tie} {xs : List V} (h : Ties H ts xs) (n : Nat) : Ties H (ts.take n) (xs.take n) := fun S => by rw [List.map_take]; exact (h S).take n
theorem Ties.drop {H : Hp} {ts : List Tie} {xs : List V} (h : Ties H ts xs) (n : Nat) : Ties H (ts.drop n) (xs.drop n) := fun S => by rw [List.map_drop]; exact (h S).drop n
theorem Ties.length {H : Hp} {ts : List Tie} {xs : List V} (h : Ties H ts xs) : xs.length = ts.length := by have := (h []).length; rw [List.length_map] at this; exact this
theorem Ties.at {H : Hp} {ts : List Tie} {xs : List V} (h : Ties H ts xs) {i : Nat} {x : V} (hx : xs[i]? = some x) : ∃ t, ts[i]? = some t ∧ Ties H [t] [x] := by
  have hi : i < xs.length := (List.getElem?_eq_some_iff.mp hx).1
  have hi' : i < ts.length := by rw [← h.length]; exact hi
  refine ⟨ts[i], by simp [hi'], fun S => ?_⟩
  obtain ⟨d, hd, r⟩ := (h S).get hx
  rw [List.getElem?_map] at hd
  have : ts[i]? = some ts[i] := by simp [hi']
  rw [this] at hd
  have hd' : tieD ts[i] = d := Option.some.inj hd
  subst hd'
  exact .cons r .nil
/-- the list of ties under work: at l, new since H0 -/
structure Found (H0 H : Hp) (fa sa l : Addr) (many : Int) (ts : List Tie) : Prop where
  ex : ∃ xs, H l = some (.lst xs) ∧ Ties H ts xs
  ok : ∀ t ∈ ts, TieOk many t
  nf : l ≠ fa
  ns : l ≠ sa
  new : H0 l = none
  ext : Ext [fa] H0 H
section
variable {H0 H H' : Hp} {fa sa l : Addr} {many n : Int} {ts : List Tie}
theorem Found.step (f : Found H0 H fa sa l many ts) (x : Ext [fa] H H') : Found H0 H' fa sa l many ts := by
  obtain ⟨xs, h1, h2⟩ := f.ex
  exact ⟨⟨xs, x.keep _ _ (by simpa using f.nf) h1, h2.ext x⟩, f.ok, f.nf, f.ns, f.new, f.ext.trans x⟩
theorem Found.set (f : Found H0 H fa sa l many ts) {ys : List V} {us : List Tie} (h : Ties H us ys) (hk : ∀ t ∈ us, TieOk many t) : Found H0 (upd H l (.lst ys)) fa sa l many us := by
  obtain ⟨xs, h1, h2⟩ := f.ex
  exact ⟨⟨ys, upd_same, h.ext (.set (S := [l]) (by simp) h1)⟩, hk, f.nf, f.ns, f.new, f.ext.set' f.new h1⟩
theorem Found.feed (f : Found H0 H fa sa l many ts) (fe : Feed H fa sa n) {o : HO} : Feed (upd H l o) fa sa n := by
  obtain ⟨xs, h1, _⟩ := f.ex
  exact fe.ext (.set (S := [l]) (by simp) h1) (by simpa using f.nf.symm) (by simpa using f.ns.symm)
end
def spWeb : Sp := fun vs H Q _ => ∃ (fa sa : Addr) (n mp ties : Int) (b : Bool), vs = [.ref fa, .int mp, .int ties, .bl b] ∧ Feed H fa sa n ∧ 0 < mp ∧ mp ≤ 60 ∧ 0 ≤ ties ∧ ties ≤ 200 ∧ n + 3000 ≤ most ∧
  ∀ (many : Int) (ts : List Tie) (v : V) (n' : Int) (H' : Hp), Rep [fa] H' (webD many (ts.map tieD)) v → 1 ≤ many → many ≤ mp → ts.length ≤ ties.toNat → (∀ t ∈ ts, TieOk many t) → n ≤ n' → n' ≤ n + 3000 → Feed H' fa sa n' → Ext [fa] H H' → Q v H'
section
variable {P : Program} {w : World} {K : PySem.W.Frag} {mg : Str → Option Value} {base : Heap} {f : Addr} {fd : FuncData}
theorem d_web (F : Fun K "_law_web" "_law_web" (top 15) f fd) (hm : mg "_law_web" = some (.ref f)) (B : Bt mg) (B2 : Bt2 mg) (D_law_draw : DefOk P w K mg base 1 "_law_draw" ["_law_feed_here", "_law_many"] spDraw)
    (D_law_price : DefOk P w K mg base 2 "_law_price" ["_law_feed_here", "_law_signed"] spPrice) : DefOk P w K mg base 3 "_law_web" ["_law_feed_here", "_law_most", "_law_ties", "_law_signed"] spWeb := by
  refine ⟨f, fd, ?_, hm, F.kp, F.binds fun _ _ _ _ _ _ us hl => match us, hl with | [_, _, _, _], _ => rfl⟩
  have sc : FnScope ["_law_feed_here", "_law_most", "_law_ties", "_law_signed", "_law_many", "_law_way", "_law_found", "_law_k", "_law_a", "_law_tie"] ["_law_feed_here", "_law_most", "_law_ties", "_law_signed"] (defScope (top 15)) := ⟨rfl, rfl, rfl, by decide +kernel, rfl, by decide +kernel, by decide +kernel⟩
  refine F.okQ sc (fun vs H Q E h => ?_) (fun cdv A outer s H vs Q E hr h => ?_)
  · obtain ⟨fa, sa, n, mp, ties, b, rfl, _⟩ := h
    rfl
  · obtain ⟨fa, sa, n, mp, ties, b, rfl, fe, m0, m1, t0, t1, nm, q⟩ := h
    have hsz : sizeLine = 16777216 := by decide
    have hmo : most = 1099511627776 := rfl
    refine ⟨_, (qss_cons (qs_set (i := 4) sc.nd rfl (Or.inl rfl) (qe_op op_add qe_int (qe_callD D_law_draw (hr.mono (by decide)) (qa_c (qv 0) (qa_c (qv 1) qa_nil)))))
      (qss_cons (qs_set (i := 5) sc.nd rfl (Or.inl rfl) (qe_callD D_law_draw (hr.mono (by decide)) (qa_c (qv 0) (qa_c qe_int qa_nil))))
      (qss_cons (qs_set (i := 6) sc.nd rfl (Or.inl rfl) (qe_lst qa_nil))
      (qss_cut (qs_if (qt_cmpR op_lt (qv 5) qe_int (nomark _)) (qss_one (qs_comp (i := 6) sc.nd rfl rfl (N := ["_law_k", "_law_feed_here", "_law_signed"]) (mp := [none, some 0, some 3]) rfl (qi_range1 (by rfl) B2.range (qa_c (qe_op op_sub (qv 4) qe_int) qa_nil)) rfl (by show compOk ["_law_feed_here", "_law_most", "_law_ties", "_law_signed", "_law_many", "_law_way", "_law_found", "_law_k", "_law_a", "_law_tie"] (defScope (top 15)) _ _ _ = true; decide +kernel) fun _ _ _ _ _ => ⟨(qg_name (i := 0) (by show List.Nodup [("_law_k" : Str), ("_law_feed_here" : Str), ("_law_signed" : Str)]; decide +kernel) rfl (Or.inl rfl)), qk_nil, (qe_tup (qa_c (qv 0) (qa_c (qe_op op_add (qv 0) qe_int) (qa_c (qe_callD D_law_price (hr.mono (by decide)) (qa_c (qv 1) (qa_c (qv 2) qa_nil))) qa_nil))))⟩)) qss_nil)
      (qss_cut (qs_if (QW.pt (qw_and (qt_cmpR op_eq (qv 5) qe_int (nomark _)) (qw_and1 (qt_cmpR op_gt (qv 4) qe_int (nomark _))))) (qss_one (qs_expr (qe_bmK K PySem.F.plainAttrs_list PySem.F.slot_list_append PySem.F.type_list_append mt_append (qv 6) (qa_c (qe_tup (qa_c qe_int (qa_c (qe_op op_sub (qv 4) qe_int) (qa_c (qe_callD D_law_price (hr.mono (by decide)) (qa_c (qv 0) (qa_c (qv 3) qa_nil))) qa_nil)))) qa_nil)))) qss_nil)
      (qss_cons (qs_for PassesOwn.never rfl (qi_range1 (by rfl) B2.range (qa_c (qe_op op_mul (qe_callD D_law_draw (hr.mono (by decide)) (qa_c (qv 0) (qa_c (qe_op op_add (qv 2) qe_int) qa_nil))) (qe_callTy call_int1 (by rfl) B.int (by decide +kernel) (qa_c (qe_cmpR op_gt (qv 4) qe_int (nomark _)) qa_nil))) qa_nil)) (qg_name (i := 7) sc.nd rfl (Or.inl rfl)) (qss_cons (qs_set (i := 8) sc.nd rfl (Or.inl rfl) (qe_callD D_law_draw (hr.mono (by decide)) (qa_c (qv 0) (qa_c (qe_op op_sub (qv 4) qe_int) qa_nil))))
      (qss_cons (qs_set (i := 9) sc.nd rfl (Or.inl rfl) (qe_tup (qa_c (qv 8) (qa_c (qe_op op_add (qe_op op_add (qv 8) qe_int) (qe_callD D_law_draw (hr.mono (by decide)) (qa_c (qv 0) (qa_c (qe_op op_sub (qe_op op_sub (qv 4) qe_int) (qv 8)) qa_nil)))) (qa_c (qe_callD D_law_price (hr.mono (by decide)) (qa_c (qv 0) (qa_c (qv 3) qa_nil))) qa_nil)))))
      (qss_cut (qs_if (QW.pt (qw_and (qt_cmpR (op_neD hr) (qv 6) (qe_lst qa_nil) (nomark _)) (qw_and1 (qt_cmpR op_eq (qe_callD D_law_draw (hr.mono (by decide)) (qa_c (qv 0) (qa_c qe_int qa_nil))) qe_int (nomark _))))) (qss_one (qs_set (i := 9) sc.nd rfl (Or.inl rfl) (qe_ix (ixL K) (qv 6) (qe_callD D_law_draw (hr.mono (by decide)) (qa_c (qv 0) (qa_c (qe_callB (lenK K) (by rfl) B.len (by decide +kernel) (qa_c (qv 6) qa_nil)) qa_nil))) (fun _ _ => rfl)))) qss_nil)
      (qss_one (qs_expr (qe_bmK K PySem.F.plainAttrs_list PySem.F.slot_list_insert PySem.F.type_list_insert mt_insert (qv 6) (qa_c (qe_callD D_law_draw (hr.mono (by decide)) (qa_c (qv 0) (qa_c (qe_op op_add (qe_callB (lenK K) (by rfl) B.len (by decide +kernel) (qa_c (qv 6) qa_nil)) qe_int) qa_nil))) (qa_c (qv 9) qa_nil)))))))))
      (qss_one (qs_ret (qe_tup (qa_c (qv 4) (qa_c (qe_callTy (tupleK K) (by rfl) B.tuple (by decide +kernel) (qa_c (qe_slice (slL K) (qv 6) qo_none (qo_some (qv 2))) qa_nil)) qa_nil))))))))))), ?_⟩
    have n0 := fe.lo
    refine ⟨_, rfl, _, rfl, fa, sa, n, mp, rfl, fe, by omega, by omega, by omega, fun r H1 r0 r1 f1 x1 => ⟨_, _, rfl, rfl, ?_⟩⟩
    refine ⟨_, rfl, fa, sa, n + 1, 4, rfl, f1, by decide, by decide, by omega, fun way H2 w0 w1 f2 x2 => ?_⟩
    refine ⟨Nat.zero_le _, fun l hl => ?_⟩
    have hmany : 1 ≤ 1 + r ∧ 1 + r ≤ mp := by omega
    dsimp only
    generalize (1 + r) = many at hmany ⊢
    have hlf := f2.has hl
    have x12 := x1.trans x2
    have g0 : Found H (upd H2 l (.lst [])) fa sa l many [] := ⟨⟨[], upd_same, .nil⟩, by simp, hlf.1, hlf.2, x12.fresh (by simpa using hlf.1) hl, x12.trans (.new hl)⟩
    have f3 : Feed (upd H2 l (.lst [])) fa sa (n + 1 + 1) := f2.ext (Ext.new (S := []) hl) (by simp) (by simp)
    refine ⟨fun σ' H' => ∃ l ts n', σ' = [some (.ref fa), some (.int mp), some (.int ties), some (.bl b), some (.int many), some (.int way), some (.ref l), none, none, none] ∧ Found H H' fa sa l many ts ∧ ts.length ≤ 60 ∧ Feed H' fa sa n' ∧ n ≤ n' ∧ n' ≤ n + 182, ?_, ?_⟩
    · refine ⟨_, rfl, _, _, rfl, rfl, _, rfl, ite2 (fun hw => ?_) (fun hw => ⟨l, [], _, rfl, g0, by simp, f3, by omega, by omega⟩)⟩
      refine ⟨_, rfl, _, _, rfl, rfl, many - 1, rfl, by omega, by omega, comp_range (fun i ys σ' H' => (∃ y, σ' = [y, some (.ref fa), some (.bl b)]) ∧ ∃ ts n', Ties H' ts ys ∧ (∀ t ∈ ts, TieOk many t) ∧ ts.length = i ∧ i ≤ (many - 1).toNat ∧ Feed H' fa sa n' ∧ n ≤ n' ∧ n' ≤ n + 2 + 3 * i ∧ Ext [fa] H H')
        ⟨⟨none, rfl⟩, [], _, .nil, by simp, rfl, Nat.zero_le _, f3, by omega, by omega, g0.ext⟩ ?_ ?_⟩
      · rintro i ys σ' H' hi ⟨⟨y, rfl⟩, ts, n', hts, hok, hlen, hi2, f4, n1, n2, x4⟩
        refine ⟨by rw [hts.length]; omega, truN ⟨_, rfl, _, rfl, _, _, rfl, rfl, _, rfl, _, rfl, fa, sa, n', b, rfl, f4, by omega, fun p n'' H'' p0 p1 k0 k1 f5 x5 => ⟨by show 3 ≤ sizeLine; decide, fun t ht => ?_⟩⟩⟩
        have x6 : Ext [] H'' (upd H'' t (.tup [.int (0 + (i : Int)), .int (0 + (i : Int) + 1), .int p])) := .new ht
        refine ⟨⟨_, rfl⟩, ts ++ [(0 + (i : Int), 0 + (i : Int) + 1, p)], n'', ((hts.ext x5).ext x6).append (.one upd_same), ?_, by simp [hlen], by omega, f5.ext x6 (by simp) (by simp), by omega, by omega, (x4.trans x5).trans (x6.mono (by simp))⟩
        intro t' ht'
        rcases List.mem_append.mp ht' with h | h
        · exact hok t' h
        · have : t' = (0 + (i : Int), 0 + (i : Int) + 1, p) := by simpa using h
          subst this
          exact ⟨by show 0 ≤ 0 + (i : Int); omega, by show 0 + (i : Int) < 0 + (i : Int) + 1; omega, by show 0 + (i : Int) + 1 < many; omega, p0, p1⟩
      · rintro ys σ' H' ⟨_, ts, n', hts, hok, hlen, hi2, f4, n1, n2, x4⟩
        refine ⟨by rw [hts.length]; omega, fun D hD => ?_⟩
        have hDf := f4.has hD
        exact ⟨D, ts, n', rfl, ⟨⟨ys, upd_same, hts.ext (Ext.new (S := []) hD)⟩, hok, hDf.1, hDf.2, x4.fresh (by simpa using hDf.1) hD, x4.trans (.new hD)⟩, by omega, f4.ext (Ext.new (S := []) hD) (by simp) (by simp), n1, by omega⟩
    rintro σ1 H3 ⟨l, ts, n1, rfl, g1, hlen1, f4, a1, a2⟩
    refine ⟨fun σ' H' => ∃ l ts n', σ' = [some (.ref fa), some (.int mp), some (.int ties), some (.bl b), some (.int many), some (.int way), some (.ref l), none, none, none] ∧ Found H H' fa sa l many ts ∧ ts.length ≤ 61 ∧ Feed H' fa sa n' ∧ n ≤ n' ∧ n' ≤ n + 185, ?_, ?_⟩
    · refine ⟨_, rfl, rfl, _, rfl, ite2 (fun hw => ?_) (fun hw => iteF ⟨l, ts, n1, rfl, g1, by omega, f4, a1, by omega⟩)⟩
      refine ⟨_, rfl, _, _, rfl, rfl, _, rfl, ite2 (fun hgt => ?_) (fun hgt => ⟨l, ts, n1, rfl, g1, by omega, f4, a1, by omega⟩)⟩
      have hgt' : 1 < many := of_decide_eq_true hgt
      obtain ⟨xs, e1, e2⟩ := g1.ex
      refine ⟨_, rfl, .inl ⟨rfl, _, SqL.of e1⟩, _, rfl, _, _, rfl, rfl, _, rfl, _, rfl, fa, sa, n1, b, rfl, f4, by omega, fun p n'' H'' p0 p1 k0 k1 f5 x5 => ⟨by show 3 ≤ sizeLine; decide, fun t ht => ?_⟩⟩
      have g2 := g1.step x5
      have x6 : Ext [] H'' (upd H'' t (.tup [.int 0, .int (many - 1), .int p])) := .new ht
      have g3 := g2.step (x6.mono (by simp))
      obtain ⟨ys, e3, e4⟩ := g3.ex
      refine ⟨l, ys, .ref t, rfl, rfl, e3, by rw [e4.length]; omega, l, ts ++ [(0, many - 1, p)], n'', rfl, g3.set (e4.append (.one upd_same)) ?_, by simp; omega, g3.feed (f5.ext x6 (by simp) (by simp)), by omega, by omega⟩
      intro t' ht'
      rcases List.mem_append.mp ht' with h | h
      · exact g1.ok t' h
      · have : t' = (0, many - 1, p) := by simpa using h
        subst this
        exact ⟨by show (0 : Int) ≤ 0; decide, by show 0 < many - 1; omega, by show many - 1 < many; omega, p0, p1⟩
    rintro σ2 H4 ⟨l, ts, n2, rfl, g2, hlen2, f5, b1, b2⟩
    refine ⟨_, rfl, _, rfl, _, _, rfl, rfl, fa, sa, n2, ties + 1, rfl, f5, by omega, by omega, by omega, fun r5 H5 c0 c1 f6 x6 => ⟨_, rfl, _, _, rfl, rfl, .inr ⟨_, rfl, _, _, rfl, rfl, .inl ⟨by omega, by omega⟩, _, rfl, ?_⟩⟩⟩
    have hj : ∃ j : Int, r5 * (if decide (1 < many) = true then 1 else 0) = j ∧ 0 ≤ j ∧ j ≤ 200 ∧ (0 < j → 1 < many) := by
      by_cases h : 1 < many
      · exact ⟨r5, by simp [h], by omega, by omega, fun _ => h⟩
      · exact ⟨0, by simp [h], by omega, by omega, fun z => absurd z (by decide)⟩
    obtain ⟨j, ej, j0, j1, j2⟩ := hj
    rw [ej]
    refine ⟨by omega, by omega, for_range (fun i σ' H' => ∃ l ts n' x7 x8 x9, σ' = [some (.ref fa), some (.int mp), some (.int ties), some (.bl b), some (.int many), some (.int way), some (.ref l), x7, x8, x9] ∧ Found H H' fa sa l many ts ∧ i ≤ 200 ∧ ts.length ≤ 61 + i ∧ Feed H' fa sa n' ∧ n ≤ n' ∧ n' ≤ n + 186 + 8 * i)
      ⟨l, ts, _, none, none, none, rfl, g2.step x6, by omega, by omega, f6, by omega, by omega⟩ ?_ ?_⟩
    · rintro i σ' H' hi ⟨l, ts, n', x7, x8, x9, rfl, g3, hi2, hlen3, f7, d1, d2⟩
      have h1m : 1 < many := j2 (by omega)
      refine ⟨_, rfl, _, rfl, _, _, rfl, rfl, fa, sa, n', many - 1, rfl, f7, by omega, by omega, by omega, fun a H6 u0 u1 f8 x8' => ?_⟩
      refine ⟨_, rfl, _, rfl, _, _, rfl, rfl, _, rfl, _, rfl, _, _, rfl, rfl, _, rfl, _, _, rfl, rfl, fa, sa, n' + 1, many - 1 - a, rfl, f8, by omega, by omega, by omega, fun c H7 v0 v1 f9 x9' => ⟨_, _, rfl, rfl, _, rfl, _, rfl, fa, sa, n' + 1 + 1, b, rfl, f9, by omega, fun p n'' H8 p0 p1 k0 k1 f10 x10 => ⟨by show 3 ≤ sizeLine; decide, fun t ht => ?_⟩⟩⟩
      have x11 : Ext [] H8 (upd H8 t (.tup [.int a, .int (a + 1 + c), .int p])) := .new ht
      have g4 := (((g3.step x8').step x9').step x10).step (x11.mono (S' := [fa]) (by simp))
      have f11 := f10.ext x11 (by simp) (by simp)
      have t4 : Ties (upd H8 t (.tup [.int a, .int (a + 1 + c), .int p])) [(a, a + 1 + c, p)] [.ref t] := .one upd_same
      generalize upd H8 t (.tup [.int a, .int (a + 1 + c), .int p]) = H9 at g4 f11 t4
      refine ⟨fun σ' H' => ∃ tv tt n', σ' = [some (.ref fa), some (.int mp), some (.int ties), some (.bl b), some (.int many), some (.int way), some (.ref l), some (.int (0 + (i : Int))), some (.int a), some tv] ∧ Found H H' fa sa l many ts ∧ Ties H' [tt] [tv] ∧ TieOk many tt ∧ Feed H' fa sa n' ∧ n'' ≤ n' ∧ n' ≤ n'' + 2, ?_, ?_⟩
      · obtain ⟨xs, e1, e2⟩ := g4.ex
        have ok0 : TieOk many (a, a + 1 + c, p) := ⟨u0, by show a < a + 1 + c; omega, by show a + 1 + c < many; omega, p0, p1⟩
        refine ⟨_, rfl, Nat.zero_le _, fun pp hpp => ?_⟩
        have x12 : Ext [] H9 (upd H9 pp (.lst [])) := .new hpp
        have g5 := g4.step (x12.mono (S' := [fa]) (by simp))
        have f12 := f11.ext x12 (by simp) (by simp)
        have t5 := t4.ext x12
        have e3 : (upd H9 pp (.lst [])) l = some (.lst xs) := x12.keep _ _ (by simp) e1
        refine ⟨[], .list (ts.map tieD), .list [], .lst e3 (by simp) ((e2.ext x12) []), .lst upd_same (by simp) .nil, ?_, rfl, ?_, _, rfl, ite2 (fun hne => ?_) (fun hne => iteF ⟨.ref t, _, n'', rfl, g5, t5, ok0, f12, by omega, by omega⟩)⟩
        · show PyData.canLayAll0 (ts.map tieD) = true
          clear e2 e3 g5 g4 g3 hlen3
          induction ts with
          | nil => rfl
          | cons t ts ih => simpa [PyData.canLayAll0, PyData.canLay0, tieD] using ih
        · show PyData.depthAll (ts.map tieD) + 1 ≤ 60
          have : PyData.depthAll (ts.map tieD) ≤ 1 := by
            clear e2 e3 g5 g4 g3 hlen3
            induction ts with
            | nil => simp [PyData.depthAll]
            | cons t ts ih => simp only [List.map_cons, PyData.depthAll, tieD, PyData.depth] at ih ⊢; omega
          omega
        have hne' : 0 < ts.length := by
          cases ts with
          | nil => simp [PyData.eqv, PyData.eqvAll] at hne
          | cons _ _ => simp
        refine ⟨_, rfl, fa, sa, n'', 5, rfl, f12, by decide, by decide, by omega, fun r13 H13 w0' w1' f13 x13 => ⟨rfl, _, rfl, ite2 (fun hz => ?_) (fun hz => ⟨.ref t, _, n'' + 1, rfl, g5.step x13, t5.ext x13, ok0, f13, by omega, by omega⟩)⟩⟩
        have g6 := g5.step x13
        obtain ⟨ys, e5, e6⟩ := g6.ex
        refine ⟨_, rfl, _, rfl, _, rfl, l, ys, rfl, .inl (SqL.of e5), fa, sa, n'' + 1, _, rfl, f13, by rw [e6.length]; omega, by rw [e6.length]; omega, by omega, fun r14 H14 y0 y1 f14 x14 => ?_⟩
        have g7 := g6.step x14
        have e7 : H14 l = some (.lst ys) := x14.keep _ _ (by simpa using g7.nf) e5
        obtain ⟨v, hv, hv2⟩ := atI_ex y0 y1
        obtain ⟨tt, ht1, ht2⟩ := (e6.ext x14).at hv2
        exact ⟨l, ys, _, v, rfl, rfl, SqL.of e7, hv, v, tt, n'' + 1 + 1, rfl, g7, ht2, g7.ok tt (List.mem_of_getElem? ht1), f14, by omega, by omega⟩
      · rintro σ3 H10 ⟨tv, tt, n3, rfl, g5, t5, ok5, f12, o1, o2⟩
        obtain ⟨xs, e1, e2⟩ := g5.ex
        refine ⟨_, rfl, .inl ⟨rfl, _, SqL.of e1⟩, _, rfl, _, rfl, l, xs, rfl, .inl (SqL.of e1), _, _, rfl, rfl, fa, sa, n3, _, rfl, f12, by rw [e2.length]; omega, by rw [e2.length]; omega, by omega, fun r13 H13 w0' w1' f13 x13 => ⟨_, rfl, ?_⟩⟩
        have g6 := g5.step x13
        have e3 : H13 l = some (.lst xs) := x13.keep _ _ (by simpa using g5.nf) e1
        have e4 := e2.ext x13
        rw [e2.length] at w1'
        refine ⟨l, xs, r13, tv, rfl, rfl, e3, by rw [e2.length]; omega, w0', by omega, l, ts.take r13.toNat ++ [tt] ++ ts.drop r13.toNat, n3 + 1, _, _, _, rfl, g6.set (ys := xs.take r13.toNat ++ tv :: xs.drop r13.toNat) ?_ ?_, by omega, ?_, g6.feed f13, by omega, by omega⟩
        · have := ((e4.take r13.toNat).append (t5.ext x13)).append (e4.drop r13.toNat)
          simpa using this
        · intro t' ht'
          simp only [List.mem_append, List.mem_singleton] at ht'
          rcases ht' with (h | h) | h
          · exact g5.ok t' (List.mem_of_mem_take h)
          · exact h ▸ ok5
          · exact g5.ok t' (List.mem_of_mem_drop h)
        · simp
          omega
    · rintro σ' H' ⟨l, ts, n', x7, x8, x9, rfl, g3, hi2, hlen3, f7, d1, d2⟩
      obtain ⟨xs, e1, e2⟩ := g3.ex
      refine ⟨_, rfl, _, rfl, _, rfl, ties, rfl, l, xs, rfl, SqL.of e1, fun p hp => ⟨p, _, rfl, .inl ⟨SqL.of upd_same, fun t ht => ⟨by show 2 ≤ sizeLine; decide, fun v hv => ?_⟩⟩⟩⟩
      have y1 : Ext [] H' (upd H' p (.lst (cutV xs none (some ties)))) := .new hp
      have y2 : Ext [] (upd H' p (.lst (cutV xs none (some ties)))) (upd (upd H' p (.lst (cutV xs none (some ties)))) t (.tup (cutV xs none (some ties)))) := .new ht
      have e3 : cutV xs none (some ties) = (xs.drop 0).take ties.toNat := by
        unfold cutV
        rw [show ties = ((ties.toNat : Nat) : Int) by omega, HT.sIx_nat, HT.sIx_none]
        simp only [List.drop_zero, Nat.sub_zero, Int.toNat_natCast]
        by_cases hc : ties.toNat ≤ xs.length
        · rw [Nat.min_eq_left hc]
        · rw [Nat.min_eq_right (by omega), List.take_of_length_le (Nat.le_refl _), List.take_of_length_le (by omega)]
      have e4 : Ties (upd (upd H' p (.lst (cutV xs none (some ties)))) t (.tup (cutV xs none (some ties)))) (ts.take ties.toNat) (cutV xs none (some ties)) := by
        have h4 := ((e2.ext y1).ext y2).take ties.toNat
        rw [show xs.take ties.toNat = cutV xs none (some ties) from e3.symm] at h4
        exact h4
      have htv : t ≠ v := fun z => by rw [← z, upd_same] at hv; cases hv
      have y3 : Ext [] (upd (upd H' p (.lst (cutV xs none (some ties)))) t (.tup (cutV xs none (some ties)))) (upd (upd (upd H' p (.lst (cutV xs none (some ties)))) t (.tup (cutV xs none (some ties)))) v (.tup [.int many, .ref t])) := .new hv
      refine q many (ts.take ties.toNat) _ n' _ (.tup upd_same (.cons (.int _) (.cons (.tup (by rw [upd_ne htv]; exact upd_same) (e4.ext y3 _)) .nil))) (by omega) (by omega) (by rw [List.length_take]; omega) (fun t' ht' => g3.ok t' (List.mem_of_mem_take ht')) d1 (by omega) (((f7.ext y1 (by simp) (by simp)).ext y2 (by simp) (by simp)).ext y3 (by simp) (by simp)) (((g3.ext.trans (y1.mono (by simp))).trans (y2.mono (by simp))).trans (y3.mono (by simp)))
end
end Odj

set_option Elab.async false
set_option linter.all false
set_option maxRecDepth 100000
set_option maxHeartbeats 8000000
namespace L2
open PySem
section
variable {mp : List (Option Nat)} {g : TG} {tc : TT} {te : TE} {σ : St} {H : Hp} {R : List V → Hp → Prop}
theorem comp_list {K : PySem.W.Frag} {a : Addr} {xs : List V} (Pv : Nat → List V → St → Hp → Prop) (h0 : Pv 0 [] (seed mp σ) H) (hl : ∀ i ys σ' H', Pv i ys σ' H' → SqL K H' a xs)
    (hs : ∀ i x ys σ' H', xs[i]? = some x → Pv i ys σ' H' → ys.length < sizeLine ∧ g x σ' H' fun σ2 H2 => tc σ2 H2 fun b H3 => if b = true then te σ2 H3 fun y H4 => Pv (i + 1) (ys ++ [y]) σ2 H4 else Pv (i + 1) ys σ2 H3)
    (hd : ∀ ys σ' H', Pv xs.length ys σ' H' → ys.length ≤ sizeLine ∧ R ys H') :
    ∃ W : Nat → Nat → List V → St → Hp → Prop, (∃ m, W 0 m [] (seed mp σ) H) ∧ ∀ i m ys σ' H', W i m ys σ' H' →
      ((Itl K a).stop i H' ∧ ys.length ≤ sizeLine ∧ R ys H') ∨
      ((Itl K a).go i H' ∧ ys.length < sizeLine ∧ ∀ x H'', (Itl K a).yld i H' x H'' → g x σ' H'' fun σ2 H2 => tc σ2 H2 fun b H3 =>
        if b = true then te σ2 H3 fun y H4 => ∃ m', m' < m ∧ W (i + 1) m' (ys ++ [y]) σ2 H4 else ∃ m', m' < m ∧ W (i + 1) m' ys σ2 H3) := by
  refine ⟨fun i m ys σ H => m = xs.length - i ∧ i ≤ xs.length ∧ Pv i ys σ H, ⟨xs.length, by simp, Nat.zero_le _, h0⟩, ?_⟩
  rintro i m ys σ' H' ⟨rfl, hi, p⟩
  have q0 := hl i ys σ' H' p
  by_cases hlt : i < xs.length
  · have e : ∀ ys σ H, (∃ m', m' < xs.length - i ∧ m' = xs.length - (i + 1) ∧ i + 1 ≤ xs.length ∧ Pv (i + 1) ys σ H) = Pv (i + 1) ys σ H := fun ys σ H => propext ⟨fun ⟨_, _, _, _, z⟩ => z, fun z => ⟨_, by omega, rfl, hlt, z⟩⟩
    have hx : xs[i]? = some xs[i] := by simp [hlt]
    refine .inr ⟨⟨xs, xs[i], q0, hx⟩, (hs i _ ys σ' H' hx p).1, fun x H'' y => ?_⟩
    obtain ⟨e1, y⟩ := y
    subst e1
    simp only [e]
    exact (hs i x ys σ' _ (y xs q0) p).2
  · have e : i = xs.length := by omega
    subst e
    obtain ⟨hl, q⟩ := hd ys σ' H' p
    exact .inl ⟨⟨xs, q0, Nat.le_refl _⟩, hl, q⟩
theorem atI_at {α : Type} {xs : List α} {i : Int} (h0 : -(xs.length : Int) ≤ i) (h1 : i < xs.length) : ∃ v, atI xs i = some v ∧ xs[(if 0 ≤ i then i else i + xs.length).toNat]? = some v := by
  by_cases h : 0 ≤ i
  · obtain ⟨v, e1, e2⟩ := atI_ex h h1
    exact ⟨v, e1, by rw [if_pos h]; exact e2⟩
  · have hl : (i + xs.length).toNat < xs.length := by omega
    refine ⟨xs[(i + xs.length).toNat], ?_, by rw [if_neg h]; simp [hl]⟩
    unfold atI ixN
    rw [if_neg h, if_pos h0]
    simp [hl]
theorem erase_perm {α : Type} : ∀ {l : List α} {i : Nat} (h : i < l.length), (l[i] :: l.eraseIdx i).Perm l
  | a :: l, 0, _ => List.Perm.refl _
  | a :: l, i + 1, h => by
    have h' : i < l.length := by simpa using h
    exact (List.Perm.swap a l[i] (l.eraseIdx i)).trans ((erase_perm h').cons a)
theorem nodup_at {α : Type} : ∀ {l : List α}, l.Nodup → ∀ {i j : Nat} {x : α}, l[i]? = some x → l[j]? = some x → i = j
  | [], _, i, j, x, h, _ => by cases h
  | a :: l, hn, 0, 0, x, _, _ => rfl
  | a :: l, hn, 0, j + 1, x, h1, h2 => by
    rw [List.nodup_cons] at hn
    have e : a = x := by simpa using h1
    have h2' : l[j]? = some x := by simpa using h2
    exact absurd (e ▸ List.mem_of_getElem? h2') hn.1
  | a :: l, hn, i + 1, 0, x, h1, h2 => by
    rw [List.nodup_cons] at hn
    have e : a = x := by simpa using h2
    have h1' : l[i]? = some x := by simpa using h1
    exact absurd (e ▸ List.mem_of_getElem? h1') hn.1
  | a :: l, hn, i + 1, j + 1, x, h1, h2 => by
    rw [List.nodup_cons] at hn
    rw [nodup_at hn.2 (i := i) (j := j) (by simpa using h1) (by simpa using h2)]
theorem atI_any {α : Type} {xs : List α} {i : Int} (h0 : -(xs.length : Int) ≤ i) (h1 : i < xs.length) : ∃ v, atI xs i = some v ∧ v ∈ xs := by
  by_cases h : 0 ≤ i
  · obtain ⟨v, e1, e2⟩ := atI_ex h h1
    exact ⟨v, e1, List.mem_of_getElem? e2⟩
  · have hl : (i + xs.length).toNat < xs.length := by omega
    refine ⟨xs[(i + xs.length).toNat], ?_, List.getElem_mem hl⟩
    unfold atI ixN
    rw [if_neg h, if_pos h0]
    simp [hl]
end
end L2
namespace Odj
open PySem L2
structure WideOk (many : Int) (t : Tie) : Prop where
  a0 : 0 ≤ t.1
  ab : t.1 < t.2.1
  bm : t.2.1 < many
  p0 : -99 ≤ t.2.2
  p1 : t.2.2 ≤ 99
def AllIn (many : Int) (xs : List V) : Prop := ∀ x ∈ xs, ∃ z, x = V.int z ∧ 0 ≤ z ∧ z < many
def PairsIn (many : Int) (H : Hp) (ys : List V) : Prop := ∀ y ∈ ys, ∃ p a b, y = V.ref p ∧ H p = some (.tup [.int a, .int b]) ∧ 0 ≤ a ∧ a < many ∧ 0 ≤ b ∧ b < many ∧ a ≠ b
theorem PairsIn.ext {S : List Addr} {many : Int} {H H' : Hp} {ys : List V} (h : PairsIn many H ys) (x : Ext S H H') : PairsIn many H' ys := fun y hy => let ⟨p, a, b, e, hp, r⟩ := h y hy; ⟨p, a, b, e, x.tup _ _ hp, r⟩
theorem PairsIn.snoc {many : Int} {H : Hp} {ys : List V} (h : PairsIn many H ys) {p : Addr} {a b : Int} (hp : H p = some (.tup [.int a, .int b])) (a0 : 0 ≤ a) (a1 : a < many) (b0 : 0 ≤ b) (b1 : b < many) (ne : a ≠ b) : PairsIn many H (ys ++ [.ref p]) := fun y hy => by
  rcases List.mem_append.mp hy with z | z
  · exact h y z
  · exact ⟨p, a, b, by simpa using z, hp, a0, a1, b0, b1, ne⟩
def spWide : Sp := fun vs H Q _ => ∃ (fa sa : Addr) (n ties : Int), vs = [.ref fa, .int ties] ∧ Feed H fa sa n ∧ 0 ≤ ties ∧ ties ≤ 200 ∧ n + 3000 ≤ most ∧
  ∀ (many : Int) (ts : List Tie) (v : V) (n' : Int) (H' : Hp), Rep [fa] H' (webD many (ts.map tieD)) v → 10 ≤ many → many ≤ 60 → ts.length ≤ 200 → (∀ t ∈ ts, WideOk many t) → n ≤ n' → n' ≤ n + 3000 → Feed H' fa sa n' → Ext [fa] H H' → Q v H'
structure Bt3 (mg : Str → Option Value) : Prop where
  list : mg "list" = none
  min : mg "min" = none
  max : mg "max" = none
section
variable {P : Program} {w : World} {K : PySem.W.Frag} {mg : Str → Option Value} {base : Heap} {f : Addr} {fd : FuncData}
end
end Odj

set_option Elab.async false
set_option linter.all false
set_option maxRecDepth 100000
set_option maxHeartbeats 8000000
namespace Odj
open PySem L2
/-! ### data with small leaves -/
mutual
def Gd (B : Nat) : PyData → Prop
  | .none => True
  | .bool _ => True
  | .int i => i.natAbs ≤ B
  | .str x => (∀ c ∈ x.cps.toList, c < 1114112) ∧ x.cps.size ≤ 60
  | .tuple ds => GdL B ds
  | .list ds => GdL B ds
  | .dict _ => False
def GdL (B : Nat) : List PyData → Prop
  | [] => True
  | d :: ds => Gd B d ∧ GdL B ds
end
theorem gdl_iff {B : Nat} : ∀ {ds : List PyData}, GdL B ds ↔ ∀ d ∈ ds, Gd B d
  | [] => by simp [GdL]
  | d :: ds => by simp [GdL, gdl_iff (ds := ds)]
mutual
theorem gd_mono {B C : Nat} (h : B ≤ C) : ∀ d : PyData, Gd B d → Gd C d
  | .none, _ => by simp [Gd]
  | .bool _, _ => by simp [Gd]
  | .int i, g => by simp only [Gd] at g ⊢; omega
  | .str x, g => by simp only [Gd] at g ⊢; exact g
  | .tuple ds, g => by simp only [Gd] at g ⊢; exact gdl_mono h ds g
  | .list ds, g => by simp only [Gd] at g ⊢; exact gdl_mono h ds g
  | .dict _, g => by simp only [Gd] at g
theorem gdl_mono {B C : Nat} (h : B ≤ C) : ∀ ds : List PyData, GdL B ds → GdL C ds
  | [], _ => by simp [GdL]
  | d :: ds, g => by simp only [GdL] at g ⊢; exact ⟨gd_mono h d g.1, gdl_mono h ds g.2⟩
end
theorem big50 : (10 : Nat) ^ 50 < 2 ^ 1920 := by decide +kernel
mutual
theorem gd_lay : ∀ d : PyData, Gd (10 ^ 50) d → d.canLay0 = true ∧ d.showable = true ∧ d.leavesShort 60 = true
  | .none, _ => ⟨rfl, rfl, rfl⟩
  | .bool _, _ => ⟨rfl, rfl, rfl⟩
  | .int i, g => by
    simp only [Gd] at g
    refine ⟨rfl, ?_, ?_⟩
    · simp only [PyData.showable, decide_eq_true_eq]
      by_cases h : i.natAbs = 0
      · rw [h]; decide
      · exact (Nat.log2_lt h).mpr (Nat.lt_of_le_of_lt g big50)
    · simp only [PyData.leavesShort, decide_eq_true_eq]
      have e := int_text_length_le10 (k := 51) (by decide) (Nat.lt_of_le_of_lt g (by decide +kernel : (10 : Nat) ^ 50 < 10 ^ 51))
      show (Str.ofString (toString i)).length ≤ 60
      rw [ofString_length]
      omega
  | .str x, g => by
    simp only [Gd] at g
    refine ⟨?_, rfl, ?_⟩
    · show PyData.strOk x = true
      unfold PyData.strOk
      rw [Array.all_eq_true']
      intro c hc
      exact decide_eq_true (g.1 c (by simpa using hc))
    · simp only [PyData.leavesShort, List.all_eq_true, decide_eq_true_eq]
      intro c hc
      exact Nat.lt_of_lt_of_le (g.1 c hc) (by decide)
  | .tuple ds, g => by simp only [Gd] at g; simpa only [PyData.canLay0, PyData.showable, PyData.leavesShort] using gdl_lay ds g
  | .list ds, g => by simp only [Gd] at g; simpa only [PyData.canLay0, PyData.showable, PyData.leavesShort] using gdl_lay ds g
  | .dict _, g => by simp only [Gd] at g
theorem gdl_lay : ∀ ds : List PyData, GdL (10 ^ 50) ds → PyData.canLayAll0 ds = true ∧ PyData.showableAll ds = true ∧ PyData.leavesShortAll 60 ds = true
  | [], _ => ⟨rfl, rfl, rfl⟩
  | d :: ds, g => by
    simp only [GdL] at g
    obtain ⟨a1, a2, a3⟩ := gd_lay d g.1
    obtain ⟨b1, b2, b3⟩ := gdl_lay ds g.2
    simp only [PyData.canLayAll0, PyData.showableAll, PyData.leavesShortAll, a1, a2, a3, b1, b2, b3]
    exact ⟨rfl, rfl, rfl⟩
end
theorem good_of {d : PyData} (g : Gd (10 ^ 50) d) (hd : d.depth ≤ 60) (hw : d.weight ≤ 200000) : Good d := ⟨(gd_lay d g).1, (gd_lay d g).2.1, (gd_lay d g).2.2, hd, hw⟩
theorem wA_append : ∀ xs ys : List PyData, PyData.weightAll (xs ++ ys) = PyData.weightAll xs + PyData.weightAll ys
  | [], ys => by simp [PyData.weightAll]
  | x :: xs, ys => by simp only [List.cons_append, PyData.weightAll, wA_append xs ys]; omega
theorem dA_append : ∀ xs ys : List PyData, PyData.depthAll (xs ++ ys) = max (PyData.depthAll xs) (PyData.depthAll ys)
  | [], ys => by simp [PyData.depthAll]
  | x :: xs, ys => by simp only [List.cons_append, PyData.depthAll, dA_append xs ys]; omega
theorem wA_split (xs : List PyData) (n : Nat) : PyData.weightAll xs = PyData.weightAll (xs.take n) + PyData.weightAll (xs.drop n) := by rw [← wA_append, List.take_append_drop]
theorem dA_split (xs : List PyData) (n : Nat) : PyData.depthAll xs = max (PyData.depthAll (xs.take n)) (PyData.depthAll (xs.drop n)) := by rw [← dA_append, List.take_append_drop]
theorem wA_rev : ∀ xs : List PyData, PyData.weightAll xs.reverse = PyData.weightAll xs
  | [] => rfl
  | x :: xs => by rw [List.reverse_cons, wA_append, wA_rev xs]; simp only [PyData.weightAll]; omega
theorem dA_rev : ∀ xs : List PyData, PyData.depthAll xs.reverse = PyData.depthAll xs
  | [] => rfl
  | x :: xs => by rw [List.reverse_cons, dA_append, dA_rev xs]; simp only [PyData.depthAll]; omega
theorem len_wA : ∀ xs : List PyData, xs.length ≤ PyData.weightAll xs
  | [] => Nat.le_refl _
  | x :: xs => by have := len_wA xs; simp only [List.length_cons, PyData.weightAll]; omega
theorem w_int {i : Int} {k : Nat} (h : i.natAbs < 2 ^ k) : PyData.weight (.int i) ≤ k := by
  simp only [PyData.weight]
  split
  · omega
  · rename_i hne
    have : i.natAbs ≠ 0 := fun z => hne (by simp; omega)
    have := (Nat.log2_lt this).mpr h
    omega
/-- odd things -/
def spOdd : Sp := fun vs H Q _ => ∃ (fa sa : Addr) (n : Int), vs = [.ref fa] ∧ Feed H fa sa n ∧ n + 1 ≤ most ∧
  ∀ (d : PyData) (v : V) (H' : Hp), Rep [fa] H' d v → Gd (10 ^ 39) d → d.weight ≤ 140 → d.depth ≤ 1 → Feed H' fa sa (n + 1) → Ext [fa] H H' → Q v H'
def odds0 : List PyData := [.none, .bool true, .bool false, .int 0, .int 1, .int 2, .int (-1), .int 60, .int 61, .int (10 ^ Int.toNat 39), .str "", .str "way", .str "-", .tuple [], .list [], .tuple [.int 0], .tuple [.int 0, .int 1], .list [.int 0, .int 1]]
theorem odds0_fine : ∀ d ∈ odds0, Gd (10 ^ 39) d ∧ d.weight ≤ 140 ∧ d.depth ≤ 1 := by
  intro d hd
  unfold odds0 at hd
  simp only [List.mem_cons, List.not_mem_nil, or_false] at hd
  rcases hd with rfl | rfl | rfl | rfl | rfl | rfl | rfl | rfl | rfl | rfl | rfl | rfl | rfl | rfl | rfl | rfl | rfl | rfl <;> refine ⟨?_, by decide +kernel, by decide +kernel⟩ <;> simp only [Gd, GdL] <;> decide +kernel
section
variable {P : Program} {w : World} {K : PySem.W.Frag} {mg : Str → Option Value} {base : Heap} {f : Addr} {fd : FuncData}
end
end Odj

set_option Elab.async false
set_option linter.all false
set_option maxRecDepth 100000
set_option maxHeartbeats 8000000
namespace L2
open PySem
/-! ### rules by data -/
def cutL {α : Type} (xs : List α) (lo hi : Option Int) : List α := (xs.drop (HT.sIx xs.length 0 lo)).take (HT.sIx xs.length xs.length hi - HT.sIx xs.length 0 lo)
theorem cutL_to {α : Type} (xs : List α) (k : Int) (h : 0 ≤ k) : cutL xs none (some k) = xs.take k.toNat := by
  unfold cutL
  rw [show k = ((k.toNat : Nat) : Int) by omega, HT.sIx_nat, HT.sIx_none]
  simp only [List.drop_zero, Nat.sub_zero, Int.toNat_natCast]
  by_cases hc : k.toNat ≤ xs.length
  · rw [Nat.min_eq_left hc]
  · rw [Nat.min_eq_right (by omega), List.take_of_length_le (Nat.le_refl _), List.take_of_length_le (by omega)]
theorem cutL_from {α : Type} (xs : List α) (k : Int) (h : 0 ≤ k) : cutL xs (some k) none = xs.drop k.toNat := by
  unfold cutL
  rw [show k = ((k.toNat : Nat) : Int) by omega, HT.sIx_nat, HT.sIx_none]
  simp only [Int.toNat_natCast]
  by_cases hc : k.toNat ≤ xs.length
  · rw [Nat.min_eq_left hc, List.take_of_length_le (by rw [List.length_drop]; exact Nat.le_refl _)]
  · rw [Nat.min_eq_right (by omega), List.drop_of_length_le (Nat.le_refl _), List.drop_of_length_le (by omega)]
    simp
section
variable {K : PySem.W.Frag} {S : List Addr} {H : Hp} {ds es : List PyData} {v u : V} {Q : VK}
theorem sl_rep {lo hi : Option Int} (r : Rep S H (.tuple ds) v) (q : ∀ v' H', Ext [] H H' → Rep S H' (.tuple (cutL ds lo hi)) v' → Q v' H') : rSlTA K v lo hi H Q := by
  obtain ⟨a, xs, rfl, ha, rs⟩ := r.of_tup
  have hc : Reps S H (cutL ds lo hi) (cutV xs lo hi) := by
    unfold cutL cutV
    rw [rs.length]
    exact (rs.drop _).take _
  refine ⟨a, xs, rfl, SqT.of ha, fun e => q _ _ (.refl _ _) (.tup ha (e ▸ hc)), fun p hp => q _ _ (.new hp) (.tup upd_same (hc.ext (.new hp)))⟩
theorem cat_rep (r1 : Rep S H (.tuple ds) v) (r2 : Rep S H (.tuple es) u) (hz : ds.length + es.length ≤ sizeLine) (q : ∀ v' H', Ext [] H H' → Rep S H' (.tuple (ds ++ es)) v' → Q v' H') : rCatA K v u H Q := by
  obtain ⟨a, xs, rfl, ha, rs⟩ := r1.of_tup
  obtain ⟨b, ys, rfl, hb, rt⟩ := r2.of_tup
  have hc := rs.append rt
  refine ⟨a, b, xs, ys, rfl, rfl, SqT.of ha, SqT.of hb, by rw [rs.length, rt.length]; exact hz, fun e => q _ _ (.refl _ _) (.tup hb (by subst e; exact hc)), fun e => q _ _ (.refl _ _) (.tup ha (by subst e; simpa using hc)), fun p hp => q _ _ (.new hp) (.tup upd_same (hc.ext (.new hp)))⟩
theorem ix_rep {i : Int} (r : Rep S H (.tuple ds) v) (h0 : 0 ≤ i) (h1 : i < ds.length) (q : ∀ d x, ds[i.toNat]? = some d → Rep S H d x → Q x H) : rIxT K v (.int i) H Q := by
  obtain ⟨a, xs, rfl, ha, rs⟩ := r.of_tup
  obtain ⟨x, e1, e2⟩ := atI_ex (xs := xs) h0 (by rw [rs.length]; exact h1)
  obtain ⟨d, hd, rd⟩ := rs.get e2
  exact ⟨a, xs, i, x, rfl, rfl, SqT.of ha, e1, q d x hd rd⟩
end
end L2
namespace Odj
open PySem L2
structure Bt4 (mg : Str → Option Value) : Prop where
  str : mg "str" = none
/-- a thing bent somewhere; of a depth below k -/
def spBent (k : Nat) : Sp := fun vs H Q _ => ∃ (fa sa : Addr) (n : Int) (d : PyData) (v : V) (B : Nat), vs = [.ref fa, v] ∧ Feed H fa sa n ∧ Rep [fa] H d v ∧ Gd B d ∧ 10 ^ 39 ≤ B ∧ B + 1 ≤ 10 ^ 49 ∧ d.depth < k ∧ d.weight ≤ 50000 ∧ d.depth ≤ 50 ∧ n + 4 * ((d.depth : Int) + 1) ≤ most ∧
  ∀ (d' : PyData) (v' : V) (n' : Int) (H' : Hp), Rep [fa] H' d' v' → Gd (B + 1) d' → d'.weight ≤ 2 * d.weight + 400 → d'.depth ≤ d.depth + 1 → n ≤ n' → n' ≤ n + 4 * ((d.depth : Int) + 1) → Feed H' fa sa n' → Ext [fa] H H' → Q v' H'
theorem ofString_ok (s : String) : ∀ c ∈ (Str.ofString s).cps.toList, c < 1114112 := by
  intro c hc
  rw [Str.ofString_eq_toList] at hc
  simp only [List.mem_map] at hc
  obtain ⟨ch, _, rfl⟩ := hc
  have := ch.valid
  rcases this with h | ⟨_, h⟩
  · exact Nat.lt_trans h (by decide)
  · exact h
theorem gdl_take {B : Nat} {ds : List PyData} (g : GdL B ds) (n : Nat) : GdL B (ds.take n) := gdl_iff.mpr fun d hd => gdl_iff.mp g d (List.mem_of_mem_take hd)
theorem gdl_drop {B : Nat} {ds : List PyData} (g : GdL B ds) (n : Nat) : GdL B (ds.drop n) := gdl_iff.mpr fun d hd => gdl_iff.mp g d (List.mem_of_mem_drop hd)
theorem gdl_append {B : Nat} {ds es : List PyData} (g : GdL B ds) (h : GdL B es) : GdL B (ds ++ es) := gdl_iff.mpr fun d hd => (List.mem_append.mp hd).elim (gdl_iff.mp g d) (gdl_iff.mp h d)
section
variable {P : Program} {w : World} {K : PySem.W.Frag} {mg : Str → Option Value} {base : Heap} {f : Addr} {fd : FuncData}
end
end Odj

set_option Elab.async false
set_option linter.all false
set_option maxRecDepth 100000
set_option maxHeartbeats 8000000
namespace Odj
open PySem L2
structure Bt5 (mg : Str → Option Value) : Prop where
  repr : mg "repr" = none
def spLaw (K : PySem.W.Frag) : Sp := fun vs H Q _ => ∃ (a : Addr) (ns : List Int), vs = [.ref a] ∧ SqL K H a (ns.map V.int) ∧ ns.length ≤ 63 ∧ ∀ H', Q (.bl true) H'
/-- webs that can be shown -/
structure WebOk (many : Int) (ts : List PyData) : Prop where
  m0 : 1 ≤ many
  m1 : many ≤ 60
  len : ts.length ≤ 200
  gd : Gd (10 ^ 50) (webD many ts)
  wt : (webD many ts).weight ≤ 10000
  dp : (webD many ts).depth ≤ 10
def IsWeb (d : PyData) : Prop := ∃ many ts, d = webD many ts ∧ WebOk many ts
/-- things that can be shown -/
structure ThOk (d : PyData) : Prop where
  gd : Gd (10 ^ 50) d
  wt : d.weight ≤ 50000
  dp : d.depth ≤ 50
theorem ThOk.len {d : PyData} (t : ThOk d) : lenD d ≤ 100000 := by
  cases d with
  | tuple ds =>
    have := len_wA ds
    have h := t.wt
    simp only [PyData.weight] at h
    simp only [lenD]
    omega
  | _ => simp [lenD]
theorem ties_fine : ∀ {ts : List Tie}, (∀ t ∈ ts, t.1.natAbs ≤ 100 ∧ t.2.1.natAbs ≤ 100 ∧ t.2.2.natAbs ≤ 100) → GdL (10 ^ 50) (ts.map tieD) ∧ PyData.weightAll (ts.map tieD) ≤ 25 * ts.length ∧ PyData.depthAll (ts.map tieD) ≤ 1
  | [], _ => ⟨by simp [GdL], by simp [PyData.weightAll], by simp [PyData.depthAll]⟩
  | t :: ts, h => by
    obtain ⟨h1, h2, h3⟩ := ties_fine (ts := ts) fun t ht => h t (List.mem_cons_of_mem _ ht)
    obtain ⟨k1, k2, k3⟩ := h t (List.mem_cons_self ..)
    have w1 := w_int (i := t.1) (k := 7) (by omega)
    have w2 := w_int (i := t.2.1) (k := 7) (by omega)
    have w3 := w_int (i := t.2.2) (k := 7) (by omega)
    have hb : (100 : Nat) ≤ 10 ^ 50 := by decide +kernel
    refine ⟨?_, ?_, ?_⟩
    · simp only [List.map_cons, GdL, tieD, Gd]
      exact ⟨⟨by omega, by omega, by omega, trivial⟩, h1⟩
    · have e : PyData.weightAll ((t :: ts).map tieD) = (PyData.weight (.int t.1) + 1 + (PyData.weight (.int t.2.1) + 1 + (PyData.weight (.int t.2.2) + 1 + 0))) + 1 + PyData.weightAll (ts.map tieD) := by simp only [List.map_cons, PyData.weightAll, tieD, PyData.weight]
      rw [e, List.length_cons]
      omega
    · simp only [List.map_cons, PyData.depthAll, tieD, PyData.depth]
      omega
theorem web_ok {many : Int} {ts : List Tie} (h1 : 1 ≤ many) (h2 : many ≤ 60) (hl : ts.length ≤ 200) (h : ∀ t ∈ ts, t.1.natAbs ≤ 100 ∧ t.2.1.natAbs ≤ 100 ∧ t.2.2.natAbs ≤ 100) : WebOk many (ts.map tieD) := by
  obtain ⟨k1, k2, k3⟩ := ties_fine h
  have w1 := w_int (i := many) (k := 7) (by omega)
  have hb : (100 : Nat) ≤ 10 ^ 50 := by decide +kernel
  refine ⟨h1, h2, by simpa using hl, ?_, ?_, ?_⟩
  · simp only [webD, Gd, GdL]
    exact ⟨by omega, k1, trivial⟩
  · have e : (webD many (ts.map tieD)).weight = PyData.weight (.int many) + 1 + (PyData.weightAll (ts.map tieD) + 1 + 0) := by simp only [webD, PyData.weight, PyData.weightAll]
    rw [e]
    omega
  · simp only [webD, PyData.depth, PyData.depthAll]
    omega
/-- tuples of small ints -/
theorem ints_fine : ∀ {ns : List Int}, (∀ i ∈ ns, i.natAbs ≤ 1000) → GdL (10 ^ 39) (ns.map .int) ∧ PyData.weightAll (ns.map .int) ≤ 11 * ns.length ∧ PyData.depthAll (ns.map .int) ≤ 0
  | [], _ => ⟨by simp [GdL], by simp [PyData.weightAll], by simp [PyData.depthAll]⟩
  | i :: ns, h => by
    obtain ⟨h1, h2, h3⟩ := ints_fine (ns := ns) fun t ht => h t (List.mem_cons_of_mem _ ht)
    have k1 := h i (List.mem_cons_self ..)
    have w1 := w_int (i := i) (k := 10) (by omega)
    have hb : (1000 : Nat) ≤ 10 ^ 39 := by decide +kernel
    refine ⟨?_, ?_, ?_⟩
    · simp only [List.map_cons, GdL, Gd]
      exact ⟨by omega, h1⟩
    · have e : PyData.weightAll ((i :: ns).map .int) = PyData.weight (.int i) + 1 + PyData.weightAll (ns.map .int) := by simp only [List.map_cons, PyData.weightAll]
      rw [e, List.length_cons]
      omega
    · simp only [List.map_cons, PyData.depthAll, PyData.depth]
      omega
theorem big3950 : (10 : Nat) ^ 39 ≤ 10 ^ 50 := by decide +kernel
theorem ints_ok {ns : List Int} (h : ∀ i ∈ ns, i.natAbs ≤ 1000) (hl : ns.length ≤ 1000) : ThOk (.tuple (ns.map .int)) := by
  obtain ⟨h1, h2, h3⟩ := ints_fine h
  refine ⟨?_, ?_, ?_⟩
  · simp only [Gd]
    exact gdl_mono big3950 _ h1
  · simp only [PyData.weight]
    omega
  · simp only [PyData.depth]
    omega
end Odj

set_option Elab.async false
set_option linter.all false
set_option maxRecDepth 100000
set_option maxHeartbeats 8000000
namespace L2
open PySem
theorem Ext.put {S : List Addr} {H0 H : Hp} {p : Addr} {o : HO} (a : Ext S H0 H) (h0 : H0 p = none) : Ext S H0 (upd H p o) :=
  ⟨fun b u hb e => by rw [upd_ne (fun z => by rw [z, h0] at e; cases e)]; exact a.keep b u hb e, fun b ys e => by rw [upd_ne (fun z => by rw [z, h0] at e; cases e)]; exact a.tup b ys e⟩
end L2
namespace Odj
open PySem L2
def liftO (o : Odd) : List (Key × V) := o.map fun p => ((Sum.inl p.1 : Key), V.bl p.2)
theorem lift_find (o : Odd) (k : Int) : valV (liftO o) (Sum.inl k) = ((o.find? fun p => decide (p.1 = k)).map (·.2)).map V.bl := by
  induction o with
  | nil => rfl
  | cons p o ih =>
    have e : liftO (p :: o) = ((Sum.inl p.1 : Key), V.bl p.2) :: liftO o := rfl
    by_cases h : p.1 = k
    · rw [e, valV_pos (by rw [h]), List.find?_cons]
      simp [h]
    · rw [e, valV_neg (fun z => h (Sum.inl.inj z)), ih, List.find?_cons]
      simp [h]
theorem lift_get (o : Odd) (k : Int) : (valV (liftO o) (Sum.inl k)).getD (.bl false) = .bl (isOdd o k) := by
  rw [lift_find]
  unfold isOdd
  cases (o.find? fun p => decide (p.1 = k)) <;> rfl
theorem lift_at {o : Odd} (h : (keysOf o).Nodup) {i : Nat} {p : Int × Bool} (hp : o[i]? = some p) : valV (liftO o) (Sum.inl p.1) = some (.bl p.2) := by
  have e := odd_at h hp
  rw [lift_find]
  unfold isOdd at e
  cases hf : (o.find? fun q => decide (q.1 = p.1)) with
  | none =>
    have := List.find?_eq_none.mp hf p (List.mem_of_getElem? hp)
    simp at this
  | some q =>
    rw [hf] at e
    have e' : q.2 = p.2 := e
    simp [e']
theorem lift_put (o : Odd) (k : Int) : putK (liftO o) (Sum.inl k) (.bl (!isOdd o k)) = liftO (turnOdd o k) := by
  have ha : ((liftO o).any fun kv => decide (kv.1 = Sum.inl k)) = o.any fun p => decide (p.1 = k) := by
    unfold liftO
    rw [List.any_map]
    congr 1
    funext p
    show decide ((Sum.inl p.1 : Key) = Sum.inl k) = decide (p.1 = k)
    by_cases h : p.1 = k
    · simp [h]
    · have : ¬ (Sum.inl p.1 : Key) = Sum.inl k := fun z => h (Sum.inl.inj z)
      simp [h]
  unfold putK turnOdd
  rw [ha]
  split
  · unfold liftO
    rw [List.map_map, List.map_map]
    apply List.map_congr_left
    intro p _
    simp only [Function.comp]
    by_cases h : p.1 = k
    · simp [h]
    · have : ¬ (Sum.inl p.1 : Key) = Sum.inl k := fun z => h (Sum.inl.inj z)
      simp [h]
  · unfold liftO
    rw [List.map_append]
    rfl
theorem lift_len (o : Odd) : (liftO o).length = o.length := by unfold liftO; rw [List.length_map]
theorem lift_keys (o : Odd) : (liftO o).map (·.1) = (keysOf o).map Sum.inl := by
  unfold liftO keysOf
  rw [List.map_map, List.map_map]
  rfl
theorem odds_len {row : List Int} {m : Nat} (h : ∀ k ∈ row, 0 ≤ k ∧ k < (m : Int)) : (oddsOf row).length ≤ m ∧ (keysOf (oddsOf row)).Nodup := by
  obtain ⟨h1, h2⟩ := rows_fine row [] m (by simp [keysOf]) (by simp [keysOf]) h
  have := nodup_le h1 h2
  unfold keysOf at this
  rw [List.length_map] at this
  exact ⟨this, h1⟩
theorem odds_snoc (row : List Int) (k : Int) : oddsOf (row ++ [k]) = turnOdd (oddsOf row) k := by
  unfold oddsOf
  rw [List.foldl_append]
  rfl
/-- the odd ones, rising -/
def OddSort (row ns : List Int) : Prop := ns.Perm (trues (oddsOf row)) ∧ ns.Pairwise (· ≤ ·)
structure Bt7 (mg : Str → Option Value) : Prop where
  sorted : mg "sorted" = none
  sum : mg "sum" = none
  enumerate : mg "enumerate" = none
end Odj

set_option Elab.async false
set_option linter.all false
set_option maxRecDepth 100000
set_option maxHeartbeats 8000000
namespace L2
open PySem
/-- for k, x in enumerate(the tuple at a) -/
theorem for_enumT {K : PySem.W.Frag} {a : Addr} {xs : List V} {g : TG} {tb : TS} {D : Ends} {σ : St} {H : Hp} (Pv : Nat → St → Hp → Prop) (h0 : Pv 0 σ H) (hl : ∀ i σ H, i ≤ xs.length → Pv i σ H → SqT K H a xs)
    (hs : ∀ i x σ H, xs[i]? = some x → Pv i σ H → ∀ T, H T = none → g (.ref T) σ (upd H T (.tup [.int (i : Nat), x])) fun σ2 H2 => tb { D with nx := Pv (i + 1), ct := Pv (i + 1), bk := D.nx } σ2 H2) (hd : ∀ σ H, Pv xs.length σ H → D.nx σ H) :
    ∃ W : Nat → Nat → St → Hp → Prop, (∃ m, W 0 m σ H) ∧ ∀ i m σ H, W i m σ H →
      ((Ite K a).stop i H ∧ D.nx σ H) ∨ ((Ite K a).go i H ∧ ∃ N : St → Hp → Prop, (∀ σ' H', N σ' H' → ∃ m', m' < m ∧ W (i + 1) m' σ' H') ∧ ∀ x H', (Ite K a).yld i H x H' → g x σ H' fun σ2 H2 => tb { D with nx := N, ct := N, bk := D.nx } σ2 H2) := by
  refine ⟨fun i m σ H => m = xs.length - i ∧ i ≤ xs.length ∧ Pv i σ H, ⟨xs.length, by simp, Nat.zero_le _, h0⟩, ?_⟩
  rintro i m σ H ⟨rfl, hi, p⟩
  have q := hl i σ H hi p
  by_cases hlt : i < xs.length
  · refine .inr ⟨⟨xs, xs[i], q, by simp [hlt]⟩, Pv (i + 1), fun σ' H' p' => ⟨xs.length - (i + 1), by omega, rfl, hlt, p'⟩, fun x H' y => ?_⟩
    obtain ⟨T, xi, e1, hT, e2, hxi⟩ := y
    subst e1 e2
    exact hs i xi σ H (hxi xs q) p T hT
  · have e : i = xs.length := by omega
    subst e
    exact .inl ⟨⟨xs, q, Nat.le_refl _⟩, hd σ H p⟩
theorem qs_never {X : Cx} {st : Stmt} : QS X st tNever := ⟨ps_never⟩
end L2
namespace Odj
open PySem L2
theorem isOdd_turn (o : Odd) (k j : Int) : isOdd (turnOdd o k) j = if j = k then !isOdd o k else isOdd o j := by
  have e := lift_get (turnOdd o k) j
  rw [← lift_put, valV_put] at e
  by_cases h : j = k
  · subst h
    rw [if_pos rfl] at e
    rw [if_pos rfl]
    exact (V.bl.inj e).symm
  · rw [if_neg (fun z => h (Sum.inl.inj z)), lift_get] at e
    rw [if_neg h]
    exact (V.bl.inj e).symm
theorem isOdd_fold (k : Int) : ∀ (row : List Int) (o : Odd), isOdd (row.foldl turnOdd o) k = (isOdd o k != decide (row.count k % 2 = 1))
  | [], o => by simp
  | x :: row, o => by
    rw [List.foldl_cons, isOdd_fold k row, isOdd_turn, List.count_cons]
    by_cases h : k = x
    · subst h
      rw [if_pos rfl]
      have h2 := Nat.mod_two_eq_zero_or_one (row.count k)
      rcases h2 with z | z
      · have e1 : (row.count k + if (k == k) = true then 1 else 0) % 2 = 1 := by simp; omega
        simp only [e1, z]
        cases isOdd o k <;> rfl
      · have e1 : (row.count k + if (k == k) = true then 1 else 0) % 2 = 0 := by simp; omega
        simp only [e1, z]
        cases isOdd o k <;> rfl
    · rw [if_neg h]
      have e1 : (x == k) = false := by
        rw [beq_eq_false_iff_ne]
        exact fun z => h z.symm
      simp [e1]
theorem isOdd_count (row : List Int) (k : Int) : isOdd (oddsOf row) k = decide (row.count k % 2 = 1) := by
  unfold oddsOf
  rw [isOdd_fold]
  have : isOdd [] k = false := rfl
  rw [this]
  cases decide (row.count k % 2 = 1) <;> rfl
theorem fold_nodup : ∀ (row : List Int) (o : Odd), (keysOf o).Nodup → (keysOf (row.foldl turnOdd o)).Nodup
  | [], o, h => h
  | x :: row, o, h => fold_nodup row _ (turn_nodup h)
theorem odds_nodup (row : List Int) : (keysOf (oddsOf row)).Nodup := fold_nodup row [] (by simp [keysOf])
theorem fold_short : ∀ (row : List Int) (o : Odd), (row.foldl turnOdd o).length ≤ o.length + row.length
  | [], o => by simp
  | x :: row, o => by
    rw [List.foldl_cons, List.length_cons]
    have := fold_short row (turnOdd o x)
    have := turn_len o x
    omega
theorem odds_short (row : List Int) : (oddsOf row).length ≤ row.length := by
  have := fold_short row []
  unfold oddsOf
  simpa using this
theorem odd_key {o : Odd} {k : Int} (h : isOdd o k = true) : k ∈ keysOf o := by
  unfold isOdd at h
  cases hf : (o.find? fun p => decide (p.1 = k)) with
  | none => rw [hf] at h; cases h
  | some p => exact List.mem_map.mpr ⟨p, List.mem_of_find?_eq_some hf, by simpa using List.find?_some hf⟩
theorem trues_eq {o : Odd} (hn : (keysOf o).Nodup) : trues o = (keysOf o).filter (isOdd o) := by
  unfold trues keysOf
  rw [List.filter_map]
  congr 1
  apply List.filter_congr
  intro p hp
  obtain ⟨i, hi⟩ := List.getElem?_of_mem hp
  exact (odd_at hn hi).symm
theorem odd_set {row ns : List Int} (h : OddSort row ns) : OddSet row ns ∧ ns.length ≤ row.length := by
  have hn := odds_nodup row
  have ht := trues_eq hn
  have hnd : ns.Nodup := h.1.symm.nodup (by rw [ht]; exact hn.filter _)
  refine ⟨⟨?_, fun k => ?_⟩, ?_⟩
  · have := h.2.and hnd
    exact this.imp fun z => by
      have h1 := z.1
      have h2 := z.2
      omega
  · rw [h.1.mem_iff, ht, List.mem_filter, isOdd_count]
    constructor
    · intro z; exact of_decide_eq_true z.2
    · intro z
      exact ⟨odd_key (by rw [isOdd_count]; exact decide_eq_true z), decide_eq_true z⟩
  · rw [h.1.length_eq]
    unfold trues
    rw [List.length_map]
    exact Nat.le_trans (List.length_filter_le _ _) (odds_short row)
def spOddOnes : Sp := fun vs H Q _ => ∃ (a : Addr) (row : List Int), vs = [.ref a] ∧ (H a = some (.lst (row.map V.int)) ∨ H a = some (.tup (row.map V.int))) ∧ (oddsOf row).length ≤ 60 ∧ row.length ≤ 100000 ∧
  ∀ (ns : List Int) (p : Addr) (H' : Hp), OddSet row ns → ns.length ≤ row.length → H' p = some (.tup (ns.map V.int)) → Ext [] H H' → Q (.ref p) H'
section
variable {P : Program} {w : World} {K : PySem.W.Frag} {mg : Str → Option Value} {base : Heap} {f : Addr} {fd : FuncData}
theorem d_odd_ones (F : Fun K "odd_ones" "odd_ones" (top 1) f fd) (hm : mg "odd_ones" = some (.ref f)) (B : Bt mg) (B7 : Bt7 mg) : DefOk P w K mg base 1 "odd_ones" ["row"] spOddOnes := by
  refine ⟨f, fd, ?_, hm, F.kp, F.binds fun _ _ _ _ _ _ us hl => match us, hl with | [_], _ => rfl⟩
  have sc : FnScope ["row", "odd", "number"] ["row"] (defScope (top 1)) := ⟨rfl, rfl, rfl, by decide +kernel, rfl, by decide +kernel, by decide +kernel⟩
  refine F.okQ sc (fun vs H Q E h => ?_) (fun cdv A outer s H vs Q E hr h => ?_)
  · obtain ⟨a, row, rfl, _⟩ := h
    rfl
  · obtain ⟨a, row, rfl, ha, hb, hrl, q⟩ := h
    have hsz : sizeLine = 16777216 := by decide
    have hu := hu_of hr
    rcases ha with ha | ha
    · skip
      refine ⟨_, (qss_cons (qs_set (i := 1) sc.nd rfl (Or.inr rfl) qe_dnewK)
      (qss_cons (qs_for PassesOwn.never rfl (qi_listK K (qv 0)) (qg_name (i := 2) sc.nd rfl (Or.inl rfl)) (qss_one (qs_dput hu (qv 1) (qv 2) (qe_not (qe_dget2 hu (qv 1) (qv 2) qe_bl ⟨rfl, rfl, rfl, rfl⟩)))))
      (qss_one (qs_ret (qe_callTy (tupleK K) (by rfl) B.tuple (by decide +kernel) (qa_c (qe_callB (call_sortedL K) (by rfl) B7.sorted (by decide +kernel) (qa_c (qe_comp (N := ["number", "odd"]) (mp := [none, some 1]) rfl (qi_dict (qv 1)) rfl (by show compOk ["row", "odd", "number"] (defScope (top 1)) _ _ _ = true; decide +kernel) fun _ _ _ _ _ => ⟨(qg_name (i := 0) (by show List.Nodup [("number" : Str), ("odd" : Str)]; decide +kernel) rfl (Or.inl rfl)), (qk_one (qt_val (qe_dget hu (qv 1) (qv 0) (fun _ _ => rfl)))), (qv 0)⟩) qa_nil)) qa_nil)))))), ?_⟩
      intro d hd
      have had : a ≠ d := ne_of_none ha hd
      refine ⟨_, rfl, a, rfl, ⟨_, SqL.of (by rw [upd_ne had]; exact ha)⟩, for_list (xs := row.map V.int) (fun i σ' H' => (∃ y, σ' = [some (.ref a), some (.ref d), y]) ∧ H' d = some (.dK (liftO (oddsOf (row.take i)))) ∧ Ext [] H H')
        ⟨⟨none, rfl⟩, upd_same, .new hd⟩ (fun i σ' H' _ h => SqL.of (h.2.2.keep _ _ (by simp) ha)) ?_ ?_⟩
      · rintro i x σ' H' hx ⟨⟨y, rfl⟩, hD, x1⟩
        rw [List.getElem?_map] at hx
        cases hk : row[i]? with
        | none => rw [hk] at hx; cases hx
        | some k =>
          rw [hk] at hx
          cases hx
          have ol := odds_short (row.take i)
          rw [List.length_take] at ol
          refine ⟨_, rfl, d, rfl, .inl ⟨_, .inl hD⟩, _, rfl, _, DGet.k (k := Sum.inl k) hD, _, lift_get _ _, _, rfl, _, rfl, d, _, rfl, DPut.k (k := Sum.inl k) hD (by rw [lift_len]; omega), ⟨_, rfl⟩, ?_, x1.put hd⟩
          rw [upd_same, lift_put, List.take_add_one, hk]
          show _ = some (HO.dK (liftO (oddsOf (row.take i ++ [k]))))
          rw [odds_snoc]
      · rintro σ' H' ⟨⟨y, rfl⟩, hD, x1⟩
        rw [List.take_of_length_le (by rw [List.length_map]; exact Nat.le_refl _)] at hD
        have ol : (oddsOf row).length ≤ 60 ∧ (keysOf (oddsOf row)).Nodup := ⟨hb, odds_nodup row⟩
        refine ⟨_, rfl, d, _, rfl, hD, fun o => comp_dict (fun i ys σ' H2 => (∃ y, σ' = [y, some (.ref d)]) ∧ H2 = upd H' d (.frz o (.dK (liftO (oddsOf row)))) ∧ ys = (((oddsOf row).take i).filter (·.2)).map fun p => V.int p.1) ⟨⟨none, rfl⟩, rfl, rfl⟩
          (fun i ys σ' H2 h => by rw [h.2.1]; exact upd_same) ?_ ?_⟩
        · rintro i k v ys σ' H2 hkv ⟨⟨y, rfl⟩, rfl, rfl⟩
          unfold liftO at hkv
          rw [List.getElem?_map] at hkv
          cases hp : (oddsOf row)[i]? with
          | none => rw [hp] at hkv; cases hkv
          | some p =>
            rw [hp] at hkv
            cases hkv
            have hl : ((((oddsOf row).take i).filter (·.2)).map fun p => V.int p.1).length < sizeLine := by
              rw [List.length_map]
              have := List.length_filter_le (·.2) ((oddsOf row).take i)
              rw [List.length_take] at this
              omega
            refine ⟨hl, _, rfl, _, rfl, d, .bl p.2, rfl, .inl ⟨_, Sum.inl p.1, .inr ⟨o, upd_same⟩, rfl, (lift_at ol.2 hp).symm⟩, _, rfl, ?_⟩
            have et : (oddsOf row).take (i + 1) = (oddsOf row).take i ++ [p] := by rw [List.take_add_one, hp]; rfl
            cases hb2 : p.2 with
            | true => exact iteT ⟨_, rfl, ⟨_, rfl⟩, rfl, by rw [et, List.filter_append, List.map_append]; simp [List.filter_cons, hb2]; rfl⟩
            | false => exact iteF ⟨⟨_, rfl⟩, rfl, by rw [et, List.filter_append, List.map_append]; simp [List.filter_cons, hb2]⟩
        · rintro ys σ' H2 ⟨⟨y, rfl⟩, rfl, rfl⟩
          rw [List.take_of_length_le (by rw [lift_len]; exact Nat.le_refl _)]
          have e : ((oddsOf row).filter (·.2)).map (fun p => V.int p.1) = (trues (oddsOf row)).map V.int := by unfold trues; rw [List.map_map]; rfl
          rw [e]
          have hl : (trues (oddsOf row)).length ≤ 60 := by
            unfold trues
            rw [List.length_map]
            have := List.length_filter_le (·.2) (oddsOf row)
            omega
          refine ⟨by rw [List.length_map]; omega, fun D hDn => ⟨D, trues (oddsOf row), rfl, SqL.of upd_same, by omega, fun l ms p1 p2 hl2 => ⟨l, _, rfl, .inl ⟨SqL.of upd_same, fun t ht => q ms t _ (odd_set ⟨p1, p2⟩).1 (odd_set ⟨p1, p2⟩).2 upd_same ?_⟩⟩⟩⟩
          exact (((x1.put hd).trans (.new hDn)).trans (.new hl2)).trans (.new ht)
    · skip
      refine ⟨_, (qss_cons (qs_set (i := 1) sc.nd rfl (Or.inr rfl) qe_dnewK)
      (qss_cons (qs_for PassesOwn.never rfl (qi_tupK K (qv 0)) (qg_name (i := 2) sc.nd rfl (Or.inl rfl)) (qss_one (qs_dput hu (qv 1) (qv 2) (qe_not (qe_dget2 hu (qv 1) (qv 2) qe_bl ⟨rfl, rfl, rfl, rfl⟩)))))
      (qss_one (qs_ret (qe_callTy (tupleK K) (by rfl) B.tuple (by decide +kernel) (qa_c (qe_callB (call_sortedL K) (by rfl) B7.sorted (by decide +kernel) (qa_c (qe_comp (N := ["number", "odd"]) (mp := [none, some 1]) rfl (qi_dict (qv 1)) rfl (by show compOk ["row", "odd", "number"] (defScope (top 1)) _ _ _ = true; decide +kernel) fun _ _ _ _ _ => ⟨(qg_name (i := 0) (by show List.Nodup [("number" : Str), ("odd" : Str)]; decide +kernel) rfl (Or.inl rfl)), (qk_one (qt_val (qe_dget hu (qv 1) (qv 0) (fun _ _ => rfl)))), (qv 0)⟩) qa_nil)) qa_nil)))))), ?_⟩
      intro d hd
      have had : a ≠ d := ne_of_none ha hd
      refine ⟨_, rfl, a, rfl, ⟨_, SqT.of (by rw [upd_ne had]; exact ha)⟩, for_tup (K := K) (a := a) (xs := row.map V.int) (fun i σ' H' => (∃ y, σ' = [some (.ref a), some (.ref d), y]) ∧ H' d = some (.dK (liftO (oddsOf (row.take i)))) ∧ Ext [] H H')
        ⟨⟨none, rfl⟩, upd_same, .new hd⟩ (fun i σ' H' _ h => SqT.of (h.2.2.tup _ _ ha)) ?_ ?_⟩
      · rintro i x σ' H' hx ⟨⟨y, rfl⟩, hD, x1⟩
        rw [List.getElem?_map] at hx
        cases hk : row[i]? with
        | none => rw [hk] at hx; cases hx
        | some k =>
          rw [hk] at hx
          cases hx
          have ol := odds_short (row.take i)
          rw [List.length_take] at ol
          refine ⟨_, rfl, d, rfl, .inl ⟨_, .inl hD⟩, _, rfl, _, DGet.k (k := Sum.inl k) hD, _, lift_get _ _, _, rfl, _, rfl, d, _, rfl, DPut.k (k := Sum.inl k) hD (by rw [lift_len]; omega), ⟨_, rfl⟩, ?_, x1.put hd⟩
          rw [upd_same, lift_put, List.take_add_one, hk]
          show _ = some (HO.dK (liftO (oddsOf (row.take i ++ [k]))))
          rw [odds_snoc]
      · rintro σ' H' ⟨⟨y, rfl⟩, hD, x1⟩
        rw [List.take_of_length_le (by rw [List.length_map]; exact Nat.le_refl _)] at hD
        have ol : (oddsOf row).length ≤ 60 ∧ (keysOf (oddsOf row)).Nodup := ⟨hb, odds_nodup row⟩
        refine ⟨_, rfl, d, _, rfl, hD, fun o => comp_dict (fun i ys σ' H2 => (∃ y, σ' = [y, some (.ref d)]) ∧ H2 = upd H' d (.frz o (.dK (liftO (oddsOf row)))) ∧ ys = (((oddsOf row).take i).filter (·.2)).map fun p => V.int p.1) ⟨⟨none, rfl⟩, rfl, rfl⟩
          (fun i ys σ' H2 h => by rw [h.2.1]; exact upd_same) ?_ ?_⟩
        · rintro i k v ys σ' H2 hkv ⟨⟨y, rfl⟩, rfl, rfl⟩
          unfold liftO at hkv
          rw [List.getElem?_map] at hkv
          cases hp : (oddsOf row)[i]? with
          | none => rw [hp] at hkv; cases hkv
          | some p =>
            rw [hp] at hkv
            cases hkv
            have hl : ((((oddsOf row).take i).filter (·.2)).map fun p => V.int p.1).length < sizeLine := by
              rw [List.length_map]
              have := List.length_filter_le (·.2) ((oddsOf row).take i)
              rw [List.length_take] at this
              omega
            refine ⟨hl, _, rfl, _, rfl, d, .bl p.2, rfl, .inl ⟨_, Sum.inl p.1, .inr ⟨o, upd_same⟩, rfl, (lift_at ol.2 hp).symm⟩, _, rfl, ?_⟩
            have et : (oddsOf row).take (i + 1) = (oddsOf row).take i ++ [p] := by rw [List.take_add_one, hp]; rfl
            cases hb2 : p.2 with
            | true => exact iteT ⟨_, rfl, ⟨_, rfl⟩, rfl, by rw [et, List.filter_append, List.map_append]; simp [List.filter_cons, hb2]; rfl⟩
            | false => exact iteF ⟨⟨_, rfl⟩, rfl, by rw [et, List.filter_append, List.map_append]; simp [List.filter_cons, hb2]⟩
        · rintro ys σ' H2 ⟨⟨y, rfl⟩, rfl, rfl⟩
          rw [List.take_of_length_le (by rw [lift_len]; exact Nat.le_refl _)]
          have e : ((oddsOf row).filter (·.2)).map (fun p => V.int p.1) = (trues (oddsOf row)).map V.int := by unfold trues; rw [List.map_map]; rfl
          rw [e]
          have hl : (trues (oddsOf row)).length ≤ 60 := by
            unfold trues
            rw [List.length_map]
            have := List.length_filter_le (·.2) (oddsOf row)
            omega
          refine ⟨by rw [List.length_map]; omega, fun D hDn => ⟨D, trues (oddsOf row), rfl, SqL.of upd_same, by omega, fun l ms p1 p2 hl2 => ⟨l, _, rfl, .inl ⟨SqL.of upd_same, fun t ht => q ms t _ (odd_set ⟨p1, p2⟩).1 (odd_set ⟨p1, p2⟩).2 upd_same ?_⟩⟩⟩⟩
          exact (((x1.put hd).trans (.new hDn)).trans (.new hl2)).trans (.new ht)
end
end Odj

set_option Elab.async false
set_option linter.all false
set_option maxRecDepth 100000
set_option maxHeartbeats 8000000
namespace Odj
open PySem L2
/-- a web whose ties join unlike places, prices small -/
structure TieFine (many : Int) (t : Tie) : Prop where
  a0 : 0 ≤ t.1
  ab : t.1 < t.2.1
  bm : t.2.1 < many
  p0 : -99 ≤ t.2.2
  p1 : t.2.2 ≤ 99
structure WebFn (many : Int) (ts : List Tie) : Prop where
  m0 : 1 ≤ many
  m1 : many ≤ 60
  len : ts.length ≤ 200
  ok : ∀ t ∈ ts, TieFine many t
def SetOk (m : Nat) (ns : List Int) : Prop := (∀ i ∈ ns, 0 ≤ i ∧ i < (m : Int)) ∧ ns.length ≤ 1000
/-- the tie at a place -/
theorem tie_at {S : List Addr} {H : Hp} {ts : List Tie} {xs : List V} (r : Reps S H (ts.map tieD) xs) {i : Int} (h0 : 0 ≤ i) (h1 : i < (ts.length : Int)) : ∃ t p, ts[i.toNat]? = some t ∧ t ∈ ts ∧ atI xs i = some (.ref p) ∧ Rep S H (tieD t) (.ref p) ∧ H p = some (.tup [.int t.1, .int t.2.1, .int t.2.2]) := by
  have hl := r.length
  rw [List.length_map] at hl
  obtain ⟨v, e1, e2⟩ := atI_ex (xs := xs) h0 (by omega)
  obtain ⟨d, hd, rd⟩ := r.get e2
  rw [List.getElem?_map] at hd
  have hi : i.toNat < ts.length := by omega
  have hts : ts[i.toNat]? = some ts[i.toNat] := by simp [hi]
  rw [hts] at hd
  have hd' : tieD ts[i.toNat] = d := Option.some.inj hd
  subst hd'
  obtain ⟨p, xs', ev, hp, rr⟩ := rd.of_tup
  subst ev
  obtain ⟨y1, r1, z1, q1, w1⟩ := rr.of_cons
  obtain ⟨y2, r2, z2, q2, w2⟩ := w1.of_cons
  obtain ⟨y3, r3, z3, q3, w3⟩ := w2.of_cons
  have z4 := w3.of_nil
  have o1 := q1.of_int
  have o2 := q2.of_int
  have o3 := q3.of_int
  subst z1 z2 z3 z4 o1 o2 o3
  exact ⟨ts[i.toNat], p, hts, List.getElem_mem hi, e1, rd, hp⟩
theorem ends_snoc (ts : List Tie) (ns : List Int) (n : Int) {t : Tie} (h : ts[n.toNat]? = some t) : endsOf ts (ns ++ [n]) = endsOf ts ns ++ [t.1, t.2.1] := by
  unfold endsOf
  rw [List.flatMap_append]
  simp [h]
theorem ends_fine {many : Int} {ts : List Tie} (w : WebFn many ts) (ns : List Int) : (∀ k ∈ endsOf ts ns, 0 ≤ k ∧ k < 60) ∧ (endsOf ts ns).length ≤ 2 * ns.length := by
  induction ns with
  | nil => simp [endsOf]
  | cons n ns ih =>
    have e : endsOf ts (n :: ns) = (match ts[n.toNat]? with | .some t => [t.1, t.2.1] | .none => []) ++ endsOf ts ns := rfl
    rw [e]
    cases h : ts[n.toNat]? with
    | none => exact ⟨by simpa using ih.1, by have := ih.2; simp; omega⟩
    | some t =>
      have o := w.ok t (List.mem_of_getElem? h)
      have o1 := o.a0
      have o2 := o.ab
      have o3 := o.bm
      have m1 := w.m1
      refine ⟨fun k hk => ?_, by have := ih.2; simp; omega⟩
      rcases List.mem_append.mp hk with z | z
      · simp only [List.mem_cons, List.not_mem_nil, or_false] at z
        rcases z with rfl | rfl <;> omega
      · exact ih.1 k z
theorem rep_ints {S : List Addr} {H : Hp} {ns : List Int} {u : V} (h : Rep S H (.tuple (ns.map .int)) u) : ∃ a, u = .ref a ∧ H a = some (.tup (ns.map V.int)) := by
  obtain ⟨a, xs, rfl, ha, r⟩ := h.of_tup
  have : xs = ns.map V.int := by
    clear ha h
    induction ns generalizing xs with
    | nil => exact r.of_nil
    | cons n ns ih =>
      obtain ⟨x, r1, e, h1, h2⟩ := r.of_cons
      have e1 := h1.of_int
      subst e e1
      rw [ih r1 h2]
      rfl
  subst this
  exact ⟨a, rfl, ha⟩
def spOddsOf : Sp := fun vs H Q _ => ∃ (S : List Addr) (many : Int) (ts : List Tie) (ns : List Int) (v u : V), vs = [v, u] ∧ Rep S H (webD many (ts.map tieD)) v ∧ Rep S H (.tuple (ns.map .int)) u ∧ WebFn many ts ∧ SetOk ts.length ns ∧
  ∀ (os : List Int) (p : Addr) (H' : Hp), OddSet (endsOf ts ns) os → H' p = some (.tup (os.map V.int)) → Ext [] H H' → Q (.ref p) H'
def spOther : Sp := fun vs H Q _ => ∃ (S : List Addr) (t : Tie) (v : V) (x : Int), vs = [v, .int x] ∧ Rep S H (tieD t) v ∧ Q (.int (otherEnd t x)) H
/-- a step that can be gone -/
def spStep : Sp := fun vs H Q _ => ∃ (S : List Addr) (many : Int) (ts : List Tie) (v : V) (x n : Int) (t : Tie), vs = [v, .int x, .int n] ∧ Rep S H (webD many (ts.map tieD)) v ∧ 0 ≤ n ∧ ts[n.toNat]? = some t ∧ (t.1 = x ∨ t.2.1 = x) ∧ ∀ H', Ext [] H H' → Q (.bl true) H'
def spPlaces : Sp := fun vs H Q _ => ∃ (S : List Addr) (many : Int) (ts : List Tie) (v u : V) (x y : Int) (row : List Int), vs = [v, .int x, u] ∧ Rep S H (webD many (ts.map tieD)) v ∧ Rep S H (.tuple (row.map .int)) u ∧ Walk ts x row y ∧ row.length ≤ 1000 ∧
  ∀ (l : Addr) (ps : List V) (H' : Hp), H' l = some (.lst ps) → atI ps (-1) = some (.int y) → Ext [] H H' → Q (.ref l) H'
def spWalked : Sp := fun vs H Q _ => ∃ (S : List Addr) (many : Int) (ts : List Tie) (v u : V) (x y : Int) (row : List Int), vs = [v, .int x, u] ∧ Rep S H (webD many (ts.map tieD)) v ∧ Rep S H (.tuple (row.map .int)) u ∧ Walk ts x row y ∧ row.length ≤ 1000 ∧
  ∀ (H' : Hp), Ext [] H H' → Q (.int y) H'
def spTimes : Sp := fun vs H Q _ => ∃ (S : List Addr) (u : V) (row : List Int), vs = [u] ∧ Rep S H (.tuple (row.map .int)) u ∧ row.length ≤ 60 ∧
  ∀ (ns : List Int) (p : Addr) (H' : Hp), OddSet row ns → ns.length ≤ row.length → H' p = some (.tup (ns.map V.int)) → Ext [] H H' → Q (.ref p) H'
def spTurns : Sp := fun vs H Q _ => ∃ (S : List Addr) (u z : V) (a b : List Int), vs = [u, z] ∧ Rep S H (.tuple (a.map .int)) u ∧ Rep S H (.tuple (b.map .int)) z ∧ a.length + b.length ≤ 60 ∧
  ∀ (ns : List Int) (p : Addr) (H' : Hp), OddSet (a ++ b) ns → H' p = some (.tup (ns.map V.int)) → Ext [] H H' → Q (.ref p) H'
def spAhead : Sp := fun vs H Q _ => ∃ (S : List Addr) (many : Int) (ts : List Tie) (v : V) (n x : Int) (t : Tie), vs = [v, .int n, .int x] ∧ Rep S H (webD many (ts.map tieD)) v ∧ 0 ≤ n ∧ ts[n.toNat]? = some t ∧ Q (.int (t.1 + t.2.1 - x)) H
theorem inV_ints (a : Int) (side : List Int) : inV (.int a) (side.map V.int) = decide (a ∈ side) := by
  induction side with
  | nil => rfl
  | cons b side ih =>
    have e : inV (.int a) ((b :: side).map V.int) = (eqV (.int b) (.int a) || inV (.int a) (side.map V.int)) := rfl
    rw [e, ih]
    have e2 : eqV (.int b) (.int a) = decide (b = a) := by
      unfold eqV
      by_cases h : b = a <;> simp [h]
    rw [e2]
    by_cases h : b = a
    · subst h; simp
    · have h' : ¬ a = b := fun z => h z.symm
      simp [h, h']
theorem flat_ints (side : List Int) : (side.map V.int).all flatV = true := by
  induction side with
  | nil => rfl
  | cons b side ih => simpa [flatV] using ih
theorem tie_there {S : List Addr} {H : Hp} {ts : List Tie} {xs : List V} (r : Reps S H (ts.map tieD) xs) {n : Int} {t : Tie} (h0 : 0 ≤ n) (ht : ts[n.toNat]? = some t) : ∃ p, atI xs n = some (.ref p) ∧ Rep S H (tieD t) (.ref p) ∧ H p = some (.tup [.int t.1, .int t.2.1, .int t.2.2]) := by
  have hl := (List.getElem?_eq_some_iff.mp ht).1
  obtain ⟨t', p, e1, _, e3, e4, e5⟩ := tie_at r h0 (by omega)
  rw [ht] at e1
  cases e1
  exact ⟨p, e3, e4, e5⟩
theorem atI_last {α : Type} (xs : List α) (x : α) : atI (xs ++ [x]) (-1) = some x := atI_neg1 (by simp)
section
variable {P : Program} {w : World} {K : PySem.W.Frag} {mg : Str → Option Value} {base : Heap} {f : Addr} {fd : FuncData}
theorem d_odds_of (F : Fun K "odds_of" "odds_of" (top 4) f fd) (hm : mg "odds_of" = some (.ref f)) (D_odd_ones : DefOk P w K mg base 1 "odd_ones" ["row"] spOddOnes) : DefOk P w K mg base 2 "odds_of" ["web", "some"] spOddsOf := by
  refine ⟨f, fd, ?_, hm, F.kp, F.binds fun _ _ _ _ _ _ us hl => match us, hl with | [_, _], _ => rfl⟩
  have sc : FnScope ["web", "some", "ends", "number"] ["web", "some"] (defScope (top 4)) := ⟨rfl, rfl, rfl, by decide +kernel, rfl, by decide +kernel, by decide +kernel⟩
  refine F.okQ sc (fun vs H Q E h => ?_) (fun cdv A outer s H vs Q E hr h => ?_)
  · obtain ⟨S, many, ts, ns, v, u, rfl, _⟩ := h
    rfl
  · obtain ⟨S, many, ts, ns, v, u, rfl, rw0, ru, wf, so, q⟩ := h
    have hsz : sizeLine = 16777216 := by decide
    have tlen := wf.len
    obtain ⟨wa, wt, txs, rfl, ha, hb, rt⟩ := web_of rw0
    obtain ⟨sa, rfl, hs⟩ := rep_ints ru
    refine ⟨_, (qss_cons (qs_set (i := 2) sc.nd rfl (Or.inl rfl) (qe_lst qa_nil))
      (qss_cons (qs_for PassesOwn.never rfl (qi_tupK K (qv 1)) (qg_name (i := 3) sc.nd rfl (Or.inl rfl)) (qss_one (qs_expr (qe_bmK K PySem.F.plainAttrs_list PySem.F.slot_list_extend PySem.F.type_list_extend (mt_extendT K) (qv 2) (qa_c (qe_slice (slT K) (qe_ix (ixT K) (qe_ix (ixT K) (qv 0) qe_int (fun _ _ => rfl)) (qv 3) (fun _ _ => rfl)) qo_none (qo_some qe_int)) qa_nil)))))
      (qss_one (qs_ret (qe_callD D_odd_ones (hr.mono (by decide)) (qa_c (qv 2) qa_nil)))))), ?_⟩
    refine ⟨Nat.zero_le _, fun l hl => ?_⟩
    refine ⟨_, rfl, sa, rfl, ⟨_, SqT.of ((Ext.new (S := []) hl).tup _ _ hs)⟩, for_tup (K := K) (a := sa) (xs := ns.map V.int) (fun i σ' H' => (∃ y, σ' = [some (.ref wa), some (.ref sa), some (.ref l), y]) ∧ H' l = some (.lst ((endsOf ts (ns.take i)).map V.int)) ∧ Ext [] H H')
      ⟨⟨none, rfl⟩, upd_same, .new hl⟩ (fun i σ' H' _ h => SqT.of (h.2.2.tup _ _ hs)) ?_ ?_⟩
    · rintro i x σ' H' hx ⟨⟨y, rfl⟩, hL, x1⟩
      rw [List.getElem?_map] at hx
      cases hn : ns[i]? with
      | none => rw [hn] at hx; cases hx
      | some n =>
        rw [hn] at hx
        cases hx
        have nb := so.1 n (List.mem_of_getElem? hn)
        have rt1 := rt.ext (x1.mono (S' := S) (by simp))
        obtain ⟨t, p, ht1, ht2, ht3, ht4, ht5⟩ := tie_at rt1 nb.1 nb.2
        have hll := (ends_fine wf (ns.take i)).2
        rw [List.length_take] at hll
        have sl := so.2
        refine ⟨_, rfl, .inl ⟨rfl, _, SqL.of hL⟩, _, rfl, wa, _, 1, _, rfl, rfl, SqT.of (x1.tup _ _ ha), rfl, _, rfl, wt, txs, n, _, rfl, rfl, SqT.of (x1.tup _ _ hb), ht3, ?_⟩
        refine ⟨2, rfl, sl_rep ht4 fun v2 H2 x2 r2 => ?_⟩
        rw [cutL_to _ 2 (by decide)] at r2
        obtain ⟨b, hbv, hbb⟩ := rep_ints (ns := [t.1, t.2.1]) r2
        subst hbv
        refine ⟨l, b, _, _, rfl, rfl, x2.keep _ _ (by simp) hL, SqT.of hbb, by rw [List.length_map]; show _ + 2 ≤ sizeLine; omega, ⟨_, rfl⟩, ?_, (x1.trans x2).put hl⟩
        rw [upd_same, ← List.map_append, List.take_add_one, hn]
        show _ = some (HO.lst ((endsOf ts (ns.take i ++ [n])).map V.int))
        rw [ends_snoc ts _ n ht1]
    · rintro σ' H' ⟨⟨y, rfl⟩, hL, x1⟩
      rw [List.take_of_length_le (by rw [List.length_map]; exact Nat.le_refl _)] at hL
      have ef := ends_fine wf ns
      have sl := so.2
      exact ⟨_, rfl, l, endsOf ts ns, rfl, .inl hL, (odds_len (m := 60) ef.1).1, by omega, fun os p H2 h1 h0 h2 h3 => q os p H2 h1 h2 (x1.trans h3)⟩
theorem d_by_turns (F : Fun K "by_turns" "by_turns" (top 3) f fd) (hm : mg "by_turns" = some (.ref f)) (D_odd_ones : DefOk P w K mg base 1 "odd_ones" ["row"] spOddOnes) : DefOk P w K mg base 2 "by_turns" ["one", "other"] spTurns := by
  refine ⟨f, fd, ?_, hm, F.kp, F.binds fun _ _ _ _ _ _ us hl => match us, hl with | [_, _], _ => rfl⟩
  have sc : FnScope ["one", "other"] ["one", "other"] (defScope (top 3)) := ⟨rfl, rfl, rfl, by decide +kernel, rfl, by decide +kernel, by decide +kernel⟩
  refine F.okQ sc (fun vs H Q E h => ?_) (fun cdv A outer s H vs Q E hr h => ?_)
  · obtain ⟨S, u, z, a, b, rfl, _⟩ := h
    rfl
  · obtain ⟨S, u, z, a, b, rfl, ru, rz, hl, q⟩ := h
    have hsz : sizeLine = 16777216 := by decide
    refine ⟨_, (qss_one (qs_ret (qe_callD D_odd_ones (hr.mono (by decide)) (qa_c (qe_op (catT K) (qv 0) (qv 1)) qa_nil)))), ?_⟩
    refine ⟨_, rfl, _, rfl, cat_rep ru rz (by rw [List.length_map, List.length_map]; omega) fun v1 H1 x1 r1 => ?_⟩
    rw [← List.map_append] at r1
    obtain ⟨c, rfl, hc⟩ := rep_ints r1
    have hos := odds_short (a ++ b)
    rw [List.length_append] at hos
    exact ⟨c, a ++ b, rfl, .inr hc, by omega, by rw [List.length_append]; omega, fun ns p H2 h1 _ h2 h3 => q ns p H2 h1 h2 (x1.trans h3)⟩
end
end Odj

set_option Elab.async false
set_option linter.all false
set_option maxRecDepth 100000
set_option maxHeartbeats 8000000
namespace Odj
open PySem L2
structure Bt8 (mg : Str → Option Value) : Prop where
  set : mg "set" = none
  sorted : mg "sorted" = none
  enumerate : mg "enumerate" = none
theorem rng_nums (j : Int) : rngV 0 j = (nums j.toNat).map V.int := rng_ints j
def spPriceOf : Sp := fun vs H Q _ => ∃ (S : List Addr) (many : Int) (ts : List Tie) (ns : List Int) (v u : V), vs = [v, u] ∧ Rep S H (webD many (ts.map tieD)) v ∧ Rep S H (.tuple (ns.map .int)) u ∧ WebFn many ts ∧ SetOk ts.length ns ∧
  ∀ (H' : Hp), Ext [] H H' → Q (.int (paidOf ts ns)) H'
theorem ne_bl (A B : Bool) : (!decide (V.bl (if false = true then !A else A) = V.bl (if false = true then !B else B))) = (A != B) := by
  cases A <;> cases B <;> simp
def Rise (l : List Int) : Prop := l.Pairwise (· < ·)
theorem Rise.nd {l : List Int} (h : Rise l) : l.Nodup := nodup_lt h
theorem nodup_count : ∀ {l : List Int}, l.Nodup → ∀ k, l.count k = if k ∈ l then 1 else 0
  | [], _, k => by simp
  | a :: l, h, k => by
    obtain ⟨h1, h2⟩ := List.nodup_cons.mp h
    have ih := nodup_count h2 k
    rw [List.count_cons, ih]
    by_cases e : a = k
    · subst e
      simp [h1]
    · have e' : ¬ k = a := fun z => e z.symm
      by_cases m : k ∈ l <;> simp [e, e', m]
theorem odd_two {a b ms : List Int} (ha : a.Nodup) (hb : b.Nodup) : OddSet (a ++ b) ms ↔ Rise ms ∧ ∀ k, k ∈ ms ↔ (decide (k ∈ a) != decide (k ∈ b)) = true := by
  unfold OddSet Rise
  have key : ∀ k, (a ++ b).count k % 2 = 1 ↔ (decide (k ∈ a) != decide (k ∈ b)) = true := by
    intro k
    rw [List.count_append, nodup_count ha, nodup_count hb]
    by_cases h1 : k ∈ a <;> by_cases h2 : k ∈ b <;> simp [h1, h2]
  constructor
  · rintro ⟨h, m⟩
    exact ⟨h, fun k => (m k).trans (key k)⟩
  · rintro ⟨h, m⟩
    exact ⟨h, fun k => (m k).trans (key k).symm⟩
def feeAt (ts : List Tie) (n : Int) : Int := match ts[n.toNat]? with | .some t => t.2.2 | .none => 0
theorem paid_sum (ts : List Tie) (ns : List Int) : paidOf ts ns = (ns.map (feeAt ts)).sum := rfl
theorem sum_split (g : Int → Int) (p : Int → Bool) : ∀ l : List Int, (l.map g).sum = ((l.filter p).map g).sum + ((l.filter fun k => !p k).map g).sum
  | [] => by simp
  | a :: l => by
    have ih := sum_split g p l
    by_cases h : p a = true
    · simp [List.filter_cons, h]
      omega
    · have h' : p a = false := by simpa using h
      simp [List.filter_cons, h']
      omega
theorem sum_perm {g : Int → Int} {a b : List Int} (p : a.Perm b) : (a.map g).sum = (b.map g).sum := by
  induction p with
  | nil => rfl
  | cons x _ ih => simp [ih]
  | swap x y l => simp; omega
  | trans _ _ h1 h2 => exact h1.trans h2
theorem perm_of {a b : List Int} (ha : a.Nodup) (hb : b.Nodup) (h : ∀ k, k ∈ a ↔ k ∈ b) : a.Perm b := by
  rw [List.perm_iff_count]
  intro k
  rw [nodup_count ha, nodup_count hb]
  by_cases m : k ∈ a
  · rw [if_pos m, if_pos ((h k).mp m)]
  · rw [if_neg m, if_neg fun z => m ((h k).mpr z)]
theorem eqv_ints (ns : List Int) : PyData.eqv (.tuple (ns.map .int)) (.tuple (ns.map .int)) = true := by
  have : PyData.eqvAll (ns.map .int) (ns.map .int) = true := by
    induction ns with
    | nil => simp [PyData.eqvAll]
    | cons n ns ih => simpa [PyData.eqvAll, PyData.eqv] using ih
  simpa [PyData.eqv] using this
theorem lay_ints (ns : List Int) : (PyData.tuple (ns.map .int)).canLay0 = true := canLay_ints ns
theorem depth_tup (ns : List Int) : (PyData.tuple (ns.map .int)).depth ≤ 60 := by simp [PyData.depth, depth_ints]
theorem WebFn.small {many : Int} {ts : List Tie} (w : WebFn many ts) : ∀ t ∈ ts, t.1.natAbs ≤ 100 ∧ t.2.1.natAbs ≤ 100 ∧ t.2.2.natAbs ≤ 100 := fun t ht => by
  have o := w.ok t ht
  have o1 := o.a0
  have o2 := o.ab
  have o3 := o.bm
  have o4 := o.p0
  have o5 := o.p1
  have m1 := w.m1
  omega
theorem OddSet.sub {row ns : List Int} (h : OddSet row ns) : ∀ k ∈ ns, k ∈ row := fun k hk => List.count_pos_iff.mp (by have := (h.2 k).mp hk; omega)
theorem good_ints {ns : List Int} (h : ∀ i ∈ ns, i.natAbs ≤ 1000) (hl : ns.length ≤ 1000) : Good (.tuple (ns.map .int)) := by
  have t := ints_ok h hl
  exact good_of t.gd (by have := t.dp; omega) (by have := t.wt; omega)
theorem cat_same {row more od om : List Int} (h1 : OddSet row od) (h2 : OddSet more om) (k : Int) : (row ++ more).count k % 2 = (od ++ om).count k % 2 := by
  rw [List.count_append, List.count_append]
  have a := h1.count k
  have b := h2.count k
  omega
theorem neq_no {xs ys : List Int} {A B : Prop} (e : xs = ys) (hb : B) : if (if true = true then !PyData.eqv (.tuple (xs.map .int)) (.tuple (ys.map .int)) else PyData.eqv (.tuple (xs.map .int)) (.tuple (ys.map .int))) = true then A else B := by
  subst e
  rw [if_pos rfl, eqv_ints]
  exact iteF hb
theorem rise_snoc {ns : List Int} {x : Int} (h : Rise ns) (b : ∀ k ∈ ns, k < x) : Rise (ns ++ [x]) := by
  unfold Rise at *
  rw [List.pairwise_append]
  exact ⟨h, List.pairwise_singleton _ _, fun a ha y hy => by have e : y = x := by simpa using hy
                                                             rw [e]; exact b a ha⟩
def spSomeR : Sp := fun vs H Q _ => ∃ (fa sa : Addr) (n many : Int), vs = [.ref fa, .int many] ∧ Feed H fa sa n ∧ 0 ≤ many ∧ many ≤ 1000 ∧ n + 1 + many ≤ most ∧
  ∀ (ns : List Int) (v : V) (n' : Int) (H' : Hp), Rep [fa] H' (.tuple (ns.map .int)) v → Rise ns → ns.length ≤ many.toNat → (∀ i ∈ ns, 0 ≤ i ∧ i < many) → n ≤ n' → n' ≤ n + 1 + many → Feed H' fa sa n' → Ext [fa] H H' → Q v H'
def spTurnsL : Sp := fun vs H Q _ => ∃ (S : List Addr) (u z : V) (a b : List Int), vs = [u, z] ∧ Rep S H (.tuple (a.map .int)) u ∧ Rep S H (.tuple (b.map .int)) z ∧ a.Nodup ∧ b.Nodup ∧ a.length + b.length < 64 ∧
  ∀ (ns : List Int) (p : Addr) (H' : Hp), OddSet (a ++ b) ns → H' p = some (.tup (ns.map V.int)) → Ext [] H H' → Q (.ref p) H'
theorem filter_snoc {α : Type} (p : α → Bool) (l : List α) (j : Nat) {k : α} (h : l[j]? = some k) : (l.take (j + 1)).filter p = (l.take j).filter p ++ if p k = true then [k] else [] := by
  rw [List.take_add_one, h, List.filter_append]
  by_cases c : p k = true
  · simp [List.filter_cons, c]
  · simp [List.filter_cons, c]
theorem int_nth {ns : List Int} {j : Nat} {x : V} (h : (ns.map V.int)[j]? = some x) : ∃ k, ns[j]? = some k ∧ x = .int k := by
  rw [List.getElem?_map] at h
  cases e : ns[j]? with
  | none => rw [e] at h; cases h
  | some k => rw [e] at h; cases h; exact ⟨k, rfl, rfl⟩
theorem odd_bound {row ns : List Int} {m : Nat} (h : OddSet row ns) (b : ∀ k ∈ row, 0 ≤ k ∧ k < (m : Int)) : (∀ k ∈ ns, 0 ≤ k ∧ k < (m : Int)) ∧ ns.length ≤ m := by
  have hb : ∀ k ∈ ns, 0 ≤ k ∧ k < (m : Int) := fun k hk => b k (h.sub k hk)
  exact ⟨hb, nodup_le (nodup_lt h.1) hb⟩
theorem ends_in {many : Int} {ts : List Tie} (w : WebFn many ts) (ns : List Int) : ∀ k ∈ endsOf ts ns, 0 ≤ k ∧ k < (many.toNat : Int) := by
  intro k hk
  have m0 := w.m0
  unfold endsOf at hk
  obtain ⟨n, _, hn⟩ := List.mem_flatMap.mp hk
  cases e : ts[n.toNat]? with
  | none => rw [e] at hn; cases hn
  | some t =>
    rw [e] at hn
    have o := w.ok t (List.mem_of_getElem? e)
    have o1 := o.a0
    have o2 := o.ab
    have o3 := o.bm
    simp only [List.mem_cons, List.not_mem_nil, or_false] at hn
    rcases hn with h | h <;> omega
theorem ends_app (ts : List Tie) (a b : List Int) : endsOf ts (a ++ b) = endsOf ts a ++ endsOf ts b := by
  unfold endsOf
  rw [List.flatMap_append]
theorem int_no {x y : Int} {A B : Prop} (e : x = y) (hb : B) : if (!decide (V.int x = V.int y)) = true then A else B := by
  subst e
  simpa using hb
theorem int_ne {x y : Int} {A B : Prop} (e : x ≠ y) (hb : B) : if (decide (V.int x = V.int y)) = true then A else B := by
  rw [dec_int]
  have : (x == y) = false := by simpa using e
  rw [this]
  exact iteF hb
theorem OddSort.of {row ms : List Int} (hn : (keysOf (oddsOf row)).Nodup) (p : ms.Perm (keysOf (oddsOf row))) (s : ms.Pairwise (· ≤ ·)) : OddSort row (ms.filter (isOdd (oddsOf row))) :=
  ⟨by rw [trues_eq hn]; exact p.filter _, s.filter _⟩
theorem lift_in {o : Odd} (h : (keysOf o).Nodup) {k : Int} (hk : k ∈ keysOf o) : valV (liftO o) (Sum.inl k) = some (.bl (isOdd o k)) := by
  obtain ⟨p, hp, e⟩ := List.mem_map.mp hk
  obtain ⟨i, hi⟩ := List.getElem?_of_mem hp
  subst e
  rw [lift_at h hi, odd_at h hi]
theorem min_if (a b : Int) : (if b < a then b else a) = min a b := by
  rcases Int.le_total a b with h | h
  · rw [Int.min_eq_left h, if_neg (by omega)]
  · rw [Int.min_eq_right h]
    split <;> omega
theorem max_if (a b : Int) : (if b > a then b else a) = max a b := by
  rcases Int.le_total a b with h | h
  · rw [Int.max_eq_right h]
    split <;> omega
  · rw [Int.max_eq_left h, if_neg (by omega)]
theorem tie_nth {S : List Addr} {H : Hp} {ts : List Tie} {xs : List V} (r : Reps S H (ts.map tieD) xs) {i : Nat} {x : V} (h : xs[i]? = some x) : ∃ t p, ts[i]? = some t ∧ t ∈ ts ∧ x = .ref p ∧ H p = some (.tup [.int t.1, .int t.2.1, .int t.2.2]) := by
  obtain ⟨d, hd, rd⟩ := r.get h
  rw [List.getElem?_map] at hd
  cases e : ts[i]? with
  | none => rw [e] at hd; cases hd
  | some t =>
    rw [e] at hd
    have hd' : tieD t = d := Option.some.inj hd
    subst hd'
    obtain ⟨p, xs', ev, hp, rr⟩ := rd.of_tup
    subst ev
    obtain ⟨y1, r1, z1, q1, w1⟩ := rr.of_cons
    obtain ⟨y2, r2, z2, q2, w2⟩ := w1.of_cons
    obtain ⟨y3, r3, z3, q3, w3⟩ := w2.of_cons
    have z4 := w3.of_nil
    have o1 := q1.of_int
    have o2 := q2.of_int
    have o3 := q3.of_int
    subst z1 z2 z3 z4 o1 o2 o3
    exact ⟨t, p, rfl, List.mem_of_getElem? e, rfl, hp⟩
section
variable {P : Program} {w : World} {K : PySem.W.Frag} {mg : Str → Option Value} {base : Heap} {f : Addr} {fd : FuncData}
theorem d_price_of (F : Fun K "price_of" "price_of" (top 5) f fd) (hm : mg "price_of" = some (.ref f)) (B7 : Bt7 mg) : DefOk P w K mg base 1 "price_of" ["web", "some"] spPriceOf := by
  refine ⟨f, fd, ?_, hm, F.kp, F.binds fun _ _ _ _ _ _ us hl => match us, hl with | [_, _], _ => rfl⟩
  have sc : FnScope ["web", "some"] ["web", "some"] (defScope (top 5)) := ⟨rfl, rfl, rfl, by decide +kernel, rfl, by decide +kernel, by decide +kernel⟩
  refine F.okQ sc (fun vs H Q E h => ?_) (fun cdv A outer s H vs Q E hr h => ?_)
  · obtain ⟨S, many, ts, ns, v, u, rfl, _⟩ := h
    rfl
  · obtain ⟨S, many, ts, ns, v, u, rfl, rw0, ru, wf, so, q⟩ := h
    have hsz : sizeLine = 16777216 := by decide
    have tlen := wf.len
    have sl := so.2
    obtain ⟨wa, wt, txs, rfl, ha, hb, rt⟩ := web_of rw0
    obtain ⟨sa, rfl, hs⟩ := rep_ints ru
    refine ⟨_, (qss_one (qs_ret (qe_callB (call_sumL K rfl) (by rfl) B7.sum (by decide +kernel) (qa_c (qe_comp (N := ["number", "web"]) (mp := [none, some 0]) rfl (qi_tupK K (qv 1)) rfl (by show compOk ["web", "some"] (defScope (top 5)) _ _ _ = true; decide +kernel) fun _ _ _ _ _ => ⟨(qg_name (i := 0) (by show List.Nodup [("number" : Str), ("web" : Str)]; decide +kernel) rfl (Or.inl rfl)), qk_nil, (qe_ix (ixT K) (qe_ix (ixT K) (qe_ix (ixT K) (qv 1) qe_int (fun _ _ => rfl)) (qv 0) (fun _ _ => rfl)) qe_int (fun _ _ => rfl))⟩) qa_nil)))), ?_⟩
    refine ⟨_, rfl, sa, rfl, ⟨_, SqT.of hs⟩, comp_tup (K := K) (a := sa) (xs := ns.map V.int) (fun i ys σ' H' => (∃ y, σ' = [y, some (.ref wa)]) ∧ H' = H ∧ ys = ((ns.take i).map fun n => match ts[n.toNat]? with | .some t => t.2.2 | .none => 0).map V.int) ⟨⟨none, rfl⟩, rfl, rfl⟩
      (fun i ys σ' H' e => by rw [e.2.1]; exact SqT.of hs) ?_ ?_⟩
    · rintro i x ys σ' H' hx ⟨⟨y, rfl⟩, rfl, rfl⟩
      rw [List.getElem?_map] at hx
      cases hn : ns[i]? with
      | none => rw [hn] at hx; cases hx
      | some n =>
        rw [hn] at hx
        cases hx
        have nb := so.1 n (List.mem_of_getElem? hn)
        obtain ⟨t, p, ht1, ht2, ht3, ht4, ht5⟩ := tie_at rt nb.1 nb.2
        refine ⟨by rw [List.length_map, List.length_map, List.length_take]; omega, truN ⟨_, rfl, wa, _, 1, _, rfl, rfl, SqT.of ha, rfl, _, rfl, wt, txs, n, _, rfl, rfl, SqT.of hb, ht3, p, _, 2, _, rfl, rfl, SqT.of ht5, rfl, ⟨_, rfl⟩, rfl, ?_⟩⟩
        rw [List.take_add_one, hn, List.map_append, List.map_append]
        show _ = _ ++ ([n].map fun n => match ts[n.toNat]? with | .some t => t.2.2 | .none => 0).map V.int
        rw [List.map_cons, ht1]
        rfl
    · rintro ys σ' H' ⟨⟨y, rfl⟩, rfl, rfl⟩
      rw [List.take_of_length_le (by rw [List.length_map]; exact Nat.le_refl _)]
      refine ⟨by rw [List.length_map, List.length_map]; omega, fun D hD => ⟨D, _, rfl, SqL.of upd_same, fun z hz => ?_, q _ (.new hD)⟩⟩
      obtain ⟨n, hn, e⟩ := List.mem_map.mp hz
      cases h : ts[n.toNat]? with
      | none => rw [h] at e; subst e; decide
      | some t =>
        rw [h] at e
        subst e
        have o := wf.ok t (List.mem_of_getElem? h)
        have o4 := o.p0
        have o5 := o.p1
        show -1000 ≤ t.2.2 ∧ t.2.2 ≤ 1000
        omega
theorem d_someR (F : Fun K "_law_some" "_law_some" (top 16) f fd) (hm : mg "_law_some" = some (.ref f)) (B : Bt mg) (B2 : Bt2 mg) (D_law_draw : DefOk P w K mg base 1 "_law_draw" ["_law_feed_here", "_law_many"] spDraw) : DefOk P w K mg base 2 "_law_some" ["_law_feed_here", "_law_many"] spSomeR := by
  refine ⟨f, fd, ?_, hm, F.kp, F.binds fun _ _ _ _ _ _ us hl => match us, hl with | [_, _], _ => rfl⟩
  have sc : FnScope ["_law_feed_here", "_law_many", "_law_way"] ["_law_feed_here", "_law_many"] (defScope (top 16)) := ⟨rfl, rfl, rfl, by decide +kernel, rfl, by decide +kernel, by decide +kernel⟩
  refine F.okQ sc (fun vs H Q E h => ?_) (fun cdv A outer s H vs Q E hr h => ?_)
  · obtain ⟨fa, sa, n, many, rfl, _⟩ := h
    rfl
  · obtain ⟨fa, sa, n, many, rfl, fe, m0, m1, nm, q⟩ := h
    refine ⟨_, (qss_cons (qs_set (i := 2) sc.nd rfl (Or.inr rfl) (qe_callD D_law_draw (hr.mono (by decide)) (qa_c (qv 0) (qa_c qe_int qa_nil))))
      (qss_cons (qs_if (qt_cmpR op_lt (qv 2) qe_int (nomark _)) (qss_one (qs_ret (qe_callTy (call_tuple_rng rfl) (by rfl) B.tuple (by decide +kernel) (qa_c (qe_callTy call_rng (by rfl) B2.range (by decide +kernel) (qa_c (qe_op op_mul (qv 1) (qv 2)) qa_nil)) qa_nil)))) qss_nil)
      (qss_one (qs_ret (qe_callTy (tupleK K) (by rfl) B.tuple (by decide +kernel) (qa_c (qe_comp (N := ["_law_k", "_law_feed_here", "_law_way"]) (mp := [none, some 0, some 2]) rfl (qi_range1 (by rfl) B2.range (qa_c (qv 1) qa_nil)) rfl (by show compOk ["_law_feed_here", "_law_many", "_law_way"] (defScope (top 16)) _ _ _ = true; decide +kernel) fun _ _ _ _ _ => ⟨(qg_name (i := 0) (by show List.Nodup [("_law_k" : Str), ("_law_feed_here" : Str), ("_law_way" : Str)]; decide +kernel) rfl (Or.inl rfl)), (qk_one (qt_cmpR op_eq (qe_callD D_law_draw (hr.mono (by decide)) (qa_c (qv 1) (qa_c (qv 2) qa_nil))) qe_int (nomark _))), (qv 0)⟩) qa_nil)))))), ?_⟩
    have n0 := fe.lo
    refine ⟨_, rfl, fa, sa, n, 6, rfl, fe, by decide, by decide, by omega, fun way H1 w0 w1 f1 x1 => ?_⟩
    refine ⟨_, rfl, _, _, rfl, rfl, _, rfl, ite2 (fun hw => ?_) (fun hw => ?_)⟩
    · have hw' : way < 2 := of_decide_eq_true hw
      have hb : 0 ≤ many * way ∧ many * way ≤ 1000 := by
        have : way = 0 ∨ way = 1 := by omega
        rcases this with e | e <;> subst e <;> omega
      refine ⟨_, rfl, _, rfl, _, _, rfl, rfl, .inr ⟨by omega, by omega⟩, _, rfl, fun p hp => ?_⟩
      refine ⟨p, 0, many * way, rfl, upd_same, ⟨by omega, by omega, by omega, by omega⟩, by omega, fun l hl => ?_⟩
      have hpl : p ≠ l := fun z => by rw [← z, upd_same] at hl; cases hl
      have hle : many * way ≤ many := by
        have : way = 0 ∨ way = 1 := by omega
        rcases this with e | e <;> subst e <;> omega
      refine q (nums (many * way).toNat) _ (n + 1) _ (.tup upd_same (by rw [rng_nums]; exact .ints _)) (nums_rise _) ?_ ?_ (by omega) (by omega) ((f1.ext ((Ext.new (S := []) hp).trans (.new hl)) (by simp) (by simp))) (x1.trans ((Ext.new hp).trans (.new hl)))
      · rw [nums_len]
        omega
      · intro i hi
        have := mem_nums.mp hi
        omega
    · have hw' : 2 ≤ way := by
        have : ¬ way < 2 := fun z => hw (decide_eq_true z)
        omega
      refine ⟨_, rfl, many, rfl, by omega, by omega, comp_range (fun i ys σ' H' => (∃ y, σ' = [y, some (.ref fa), some (.int way)]) ∧ (∃ ns : List Int, ys = ns.map V.int ∧ Rise ns ∧ ns.length ≤ i ∧ ∀ k ∈ ns, 0 ≤ k ∧ k < (i : Int)) ∧ i ≤ many.toNat ∧ Feed H' fa sa (n + 1 + i) ∧ Ext [fa] H H')
        ⟨⟨none, rfl⟩, ⟨[], rfl, List.Pairwise.nil, Nat.le_refl _, by simp⟩, Nat.zero_le _, by simpa using f1, x1⟩ ?_ ?_⟩
      · rintro i ys σ' H' hi ⟨⟨y, rfl⟩, ⟨ns, rfl, hr0, hl, hk⟩, _, f2, x2⟩
        refine ⟨by rw [List.length_map, show sizeLine = 16777216 by decide]; omega, ?_⟩
        refine ⟨_, rfl, _, rfl, fa, sa, n + 1 + i, way, rfl, f2, by omega, by omega, by omega, fun r H3 r0 r1 f3 x3 => ⟨rfl, _, rfl, ?_⟩⟩
        have fe3 : Feed H3 fa sa (n + 1 + ((i + 1 : Nat) : Int)) := by
          have : n + 1 + ((i + 1 : Nat) : Int) = n + 1 + (i : Int) + 1 := by omega
          rw [this]
          exact f3
        refine ite2 (fun hz => ?_) (fun hz => ?_)
        · refine ⟨_, rfl, ⟨_, rfl⟩, ⟨ns ++ [0 + (i : Int)], by simp, rise_snoc hr0 (fun k h => by have := hk k h; omega), by simp; omega, ?_⟩, by omega, fe3, x2.trans x3⟩
          intro k hk'
          rcases List.mem_append.mp hk' with h | h
          · have := hk k h
            omega
          · have : k = 0 + (i : Int) := by simpa using h
            omega
        · refine ⟨⟨_, rfl⟩, ⟨ns, rfl, hr0, by omega, fun k hk' => ?_⟩, by omega, fe3, x2.trans x3⟩
          have := hk k hk'
          omega
      · rintro ys σ' H' ⟨_, ⟨ns, rfl, hr0, hl, hk⟩, _, f2, x2⟩
        refine ⟨by rw [List.length_map, show sizeLine = 16777216 by decide]; omega, fun D hD => ?_⟩
        refine ⟨D, _, rfl, .inl ⟨SqL.of upd_same, fun l hl2 => ?_⟩⟩
        refine q ns _ (n + 1 + (many.toNat : Int)) _ (.tup upd_same (.ints ns)) hr0 hl (fun i hi => ?_) (by omega) (by omega) ?_ ?_
        · have := hk i hi
          omega
        · exact f2.ext ((Ext.new (S := []) hD).trans (.new hl2)) (by simp) (by simp)
        · exact x2.trans ((Ext.new hD).trans (.new hl2))
theorem d_law_turns (F : Fun K "_law_turns" "_law_turns" (top 18) f fd) (hm : mg "_law_turns" = some (.ref f)) (B : Bt mg) (B8 : Bt8 mg) : DefOk P w K mg base 1 "_law_turns" ["_law_one", "_law_other"] spTurnsL := by
  refine ⟨f, fd, ?_, hm, F.kp, F.binds fun _ _ _ _ _ _ us hl => match us, hl with | [_, _], _ => rfl⟩
  have sc : FnScope ["_law_one", "_law_other"] ["_law_one", "_law_other"] (defScope (top 18)) := ⟨rfl, rfl, rfl, by decide +kernel, rfl, by decide +kernel, by decide +kernel⟩
  refine F.okQ sc (fun vs H Q E h => ?_) (fun cdv A outer s H vs Q E hr h => ?_)
  · obtain ⟨S, u, z, a, b, rfl, _⟩ := h
    rfl
  · obtain ⟨S, u, z, a, b, rfl, ru, rz, na, nb, hl, q⟩ := h
    have hsz : sizeLine = 16777216 := by decide
    obtain ⟨ua, rfl, hua⟩ := rep_ints ru
    obtain ⟨za, rfl, hza⟩ := rep_ints rz
    refine ⟨_, (qss_one (qs_ret (qe_callTy (tupleK K) (by rfl) B.tuple (by decide +kernel) (qa_c (qe_comp (N := ["_law_k", "_law_one", "_law_other"]) (mp := [none, some 0, some 1]) rfl (qi_listK K (qe_sortedSet K rfl (by rfl) B8.sorted (by rfl) B8.set (qe_op (catT K) (qv 0) (qv 1)))) rfl (by show compOk ["_law_one", "_law_other"] (defScope (top 18)) _ _ _ = true; decide +kernel) fun _ _ _ _ _ => ⟨(qg_name (i := 0) (by show List.Nodup [("_law_k" : Str), ("_law_one" : Str), ("_law_other" : Str)]; decide +kernel) rfl (Or.inl rfl)), (qk_one (qt_cmpR op_ne (qe_cmpR (inK K) (qv 0) (qv 1) rfl) (qe_cmpR (inK K) (qv 0) (qv 2) rfl) (nomark _))), (qv 0)⟩) qa_nil)))), ?_⟩
    refine ⟨_, rfl, _, rfl, cat_rep ru rz (by rw [List.length_map, List.length_map]; omega) fun v1 H1 x1 r1 => ?_⟩
    rw [← List.map_append] at r1
    obtain ⟨c, rfl, hc⟩ := rep_ints r1
    refine ⟨c, a ++ b, rfl, .inr (SqT.of hc), by rw [List.length_append]; omega, fun ls ms H2 x2 hl0 hls rs mem ml => ?_⟩
    rw [List.length_append] at ml
    have x12 := x1.trans x2
    refine ⟨ls, rfl, ⟨_, SqL.of hls⟩, comp_list (K := K) (a := ls) (xs := ms.map V.int) (fun j ys σ' H3 => (∃ y, σ' = [y, some (.ref ua), some (.ref za)]) ∧ H3 = H2 ∧ ys = ((ms.take j).filter fun k => decide (k ∈ a) != decide (k ∈ b)).map V.int) ⟨⟨none, rfl⟩, rfl, rfl⟩
      (fun j ys σ' H3 e => by rw [e.2.1]; exact SqL.of hls) ?_ ?_⟩
    · rintro j x ys σ' H3 hx ⟨⟨y, rfl⟩, rfl, rfl⟩
      obtain ⟨k, hk, rfl⟩ := int_nth hx
      have fl := List.length_filter_le (fun k => decide (k ∈ a) != decide (k ∈ b)) (ms.take j)
      rw [List.length_take] at fl
      refine ⟨by rw [List.length_map]; omega, _, rfl, _, rfl, ua, _, rfl, .inr (SqT.of (x12.tup _ _ hua)), rfl, flat_ints _, _, rfl, _, rfl, za, _, rfl, .inr (SqT.of (x12.tup _ _ hza)), rfl, flat_ints _, rfl, _, rfl, ?_⟩
      rw [ne_bl, inV_ints, inV_ints]
      refine ite2 (fun hc => ⟨_, rfl, ⟨_, rfl⟩, rfl, ?_⟩) (fun hc => ⟨⟨_, rfl⟩, rfl, ?_⟩)
      · rw [filter_snoc _ _ _ hk, if_pos hc, List.map_append]
        rfl
      · rw [filter_snoc _ _ _ hk, if_neg hc, List.append_nil]
    · rintro ys σ' H3 ⟨⟨y, rfl⟩, rfl, rfl⟩
      have fl := List.length_filter_le (fun k => decide (k ∈ a) != decide (k ∈ b)) ms
      rw [List.take_of_length_le (by rw [List.length_map]; exact Nat.le_refl _)]
      refine ⟨by rw [List.length_map]; omega, fun D hD => ⟨D, _, rfl, .inl ⟨SqL.of upd_same, fun p hp => ?_⟩⟩⟩
      refine q (ms.filter fun k => decide (k ∈ a) != decide (k ∈ b)) p _ ?_ upd_same ((x12.trans (.new hD)).trans (.new hp))
      refine (odd_two na nb).mpr ⟨rs.filter _, fun k => ?_⟩
      rw [List.mem_filter, mem, List.mem_append]
      constructor
      · exact fun z => z.2
      · intro z
        refine ⟨?_, z⟩
        by_cases h1 : k ∈ a
        · exact .inl h1
        · by_cases h2 : k ∈ b
          · exact .inr h2
          · simp [h1, h2] at z
theorem d_law_odds (F : Fun K "_law_odds" "_law_odds" (top 17) f fd) (hm : mg "_law_odds" = some (.ref f)) (B : Bt mg) (B7 : Bt7 mg) : DefOk P w K mg base 1 "_law_odds" ["_law_web_here", "_law_some_here"] spOddsOf := by
  refine ⟨f, fd, ?_, hm, F.kp, F.binds fun _ _ _ _ _ _ us hl => match us, hl with | [_, _], _ => rfl⟩
  have sc : FnScope ["_law_web_here", "_law_some_here", "_law_odd", "_law_number", "_law_place"] ["_law_web_here", "_law_some_here"] (defScope (top 17)) := ⟨rfl, rfl, rfl, by decide +kernel, rfl, by decide +kernel, by decide +kernel⟩
  refine F.okQ sc (fun vs H Q E h => ?_) (fun cdv A outer s H vs Q E hr h => ?_)
  · obtain ⟨S, many, ts, ns, v, u, rfl, _⟩ := h
    rfl
  · obtain ⟨S, many, ts, ns, v, u, rfl, rw0, ru, wf, so, q⟩ := h
    have hsz : sizeLine = 16777216 := by decide
    have hu := hu_of hr
    have tlen := wf.len
    obtain ⟨wa, wt, txs, rfl, ha, hb, rt⟩ := web_of rw0
    obtain ⟨sa, rfl, hs⟩ := rep_ints ru
    refine ⟨_, (qss_cons (qs_set (i := 2) sc.nd rfl (Or.inr rfl) qe_dnewK)
      (qss_cons (qs_for PassesOwn.never rfl (qi_tupK K (qv 1)) (qg_name (i := 3) sc.nd rfl (Or.inl rfl)) (qss_one (qs_for PassesOwn.never rfl (qi_tupK K (qe_slice (slT K) (qe_ix (ixT K) (qe_ix (ixT K) (qv 0) qe_int (fun _ _ => rfl)) (qv 3) (fun _ _ => rfl)) qo_none (qo_some qe_int))) (qg_name (i := 4) sc.nd rfl (Or.inl rfl)) (qss_one (qs_dput hu (qv 2) (qv 4) (qe_not (qe_dget2 hu (qv 2) (qv 4) qe_bl ⟨rfl, rfl, rfl, rfl⟩)))))))
      (qss_one (qs_ret (qe_callTy (tupleK K) (by rfl) B.tuple (by decide +kernel) (qa_c (qe_comp (N := ["_law_place", "_law_odd"]) (mp := [none, some 2]) rfl (qi_listK K (qe_callB (call_sortedD rfl) (by rfl) B7.sorted (by decide +kernel) (qa_c (qv 2) qa_nil))) rfl (by show compOk ["_law_web_here", "_law_some_here", "_law_odd", "_law_number", "_law_place"] (defScope (top 17)) _ _ _ = true; decide +kernel) fun _ _ _ _ _ => ⟨(qg_name (i := 0) (by show List.Nodup [("_law_place" : Str), ("_law_odd" : Str)]; decide +kernel) rfl (Or.inl rfl)), (qk_one (qt_val (qe_dget hu (qv 1) (qv 0) (fun _ _ => rfl)))), (qv 0)⟩) qa_nil)))))), ?_⟩
    intro d hd
    have x0 : Ext [] H (upd H d (.dK [])) := .new hd
    refine ⟨_, rfl, sa, rfl, ⟨_, SqT.of (x0.tup _ _ hs)⟩, for_tup (K := K) (a := sa) (xs := ns.map V.int) (fun i σ' H' => (∃ y z, σ' = [some (.ref wa), some (.ref sa), some (.ref d), y, z]) ∧ H' d = some (.dK (liftO (oddsOf (endsOf ts (ns.take i))))) ∧ Ext [] H H')
      ⟨⟨none, none, rfl⟩, upd_same, x0⟩ (fun i σ' H' _ h => SqT.of (h.2.2.tup _ _ hs)) ?_ ?_⟩
    · rintro i x σ' H' hx ⟨⟨y, z, rfl⟩, hD, x1⟩
      rw [List.getElem?_map] at hx
      cases hn : ns[i]? with
      | none => rw [hn] at hx; cases hx
      | some n =>
        rw [hn] at hx
        cases hx
        have nb := so.1 n (List.mem_of_getElem? hn)
        have rt1 := rt.ext (x1.mono (S' := S) (by simp))
        obtain ⟨t, p, ht1, ht2, ht3, ht4, ht5⟩ := tie_at rt1 nb.1 nb.2
        refine ⟨_, rfl, wa, _, 1, _, rfl, rfl, SqT.of (x1.tup _ _ ha), rfl, _, rfl, wt, txs, n, _, rfl, rfl, SqT.of (x1.tup _ _ hb), ht3, 2, rfl, sl_rep ht4 fun v2 H2 x2 r2 => ?_⟩
        rw [cutL_to _ 2 (by decide)] at r2
        obtain ⟨b, hbv, hbb⟩ := rep_ints (ns := [t.1, t.2.1]) r2
        subst hbv
        have et : endsOf ts (ns.take (i + 1)) = endsOf ts (ns.take i) ++ [t.1, t.2.1] := by
          rw [List.take_add_one, hn]
          exact ends_snoc ts _ n ht1
        have ef := ends_fine wf (ns.take (i + 1))
        rw [et] at ef
        refine ⟨b, rfl, ⟨_, SqT.of hbb⟩, for_tup (K := K) (a := b) (xs := [t.1, t.2.1].map V.int) (fun j σ' H' => (∃ z, σ' = [some (.ref wa), some (.ref sa), some (.ref d), some (.int n), z]) ∧ H' d = some (.dK (liftO (oddsOf (endsOf ts (ns.take i) ++ [t.1, t.2.1].take j)))) ∧ H' b = some (.tup ([t.1, t.2.1].map V.int)) ∧ Ext [] H H')
          ⟨⟨_, rfl⟩, by rw [List.take_zero, List.append_nil]; exact x2.keep _ _ (by simp) hD, hbb, x1.trans x2⟩ (fun j σ' H' _ h => SqT.of h.2.2.1) ?_ ?_⟩
        · rintro j x σ' H3 hx ⟨⟨z, rfl⟩, hD3, x3, x03⟩
          rw [List.getElem?_map] at hx
          cases hk : [t.1, t.2.1][j]? with
          | none => rw [hk] at hx; cases hx
          | some k =>
            rw [hk] at hx
            cases hx
            have hbt : ∀ r ∈ endsOf ts (ns.take i) ++ [t.1, t.2.1].take j, 0 ≤ r ∧ r < ((60 : Nat) : Int) := fun r hr' => ef.1 r (by
              rcases List.mem_append.mp hr' with z | z
              · exact List.mem_append_left _ z
              · exact List.mem_append_right _ (List.mem_of_mem_take z))
            have ol := odds_len hbt
            refine ⟨_, rfl, d, rfl, .inl ⟨_, .inl hD3⟩, _, rfl, _, DGet.k (k := Sum.inl k) hD3, _, lift_get _ _, _, rfl, _, rfl, d, _, rfl, DPut.k (k := Sum.inl k) hD3 (by rw [lift_len]; omega), ⟨_, rfl⟩, ?_, ?_, x03.put hd⟩
            · rw [upd_same, lift_put, List.take_add_one, hk, ← odds_snoc, List.append_assoc]
              rfl
            · rw [upd_ne (fun z => by rw [z, hD3] at x3; cases x3)]
              exact x3
        · rintro σ' H3 ⟨⟨z, rfl⟩, hD3, x3, x03⟩
          exact ⟨⟨_, _, rfl⟩, by rw [et]; exact hD3, x03⟩
    · rintro σ' H' ⟨⟨y, z, rfl⟩, hD, x1⟩
      rw [List.take_of_length_le (by rw [List.length_map]; exact Nat.le_refl _)] at hD
      have ef := ends_fine wf ns
      have ol := odds_len (m := 60) ef.1
      have hkl : (keysOf (oddsOf (endsOf ts ns))).length ≤ 60 := by unfold keysOf; rw [List.length_map]; exact ol.1
      refine ⟨_, rfl, d, _, keysOf (oddsOf (endsOf ts ns)), rfl, hD, lift_keys _, by omega, fun l ms p1 p2 hl => ?_⟩
      have hml := p1.length_eq
      have hdl : d ≠ l := ne_of_none hD hl
      have x2 : Ext [] H (upd H' l (.lst (ms.map V.int))) := x1.trans (.new hl)
      have hD2 : (upd H' l (.lst (ms.map V.int))) d = some (.dK (liftO (oddsOf (endsOf ts ns)))) := by rw [upd_ne hdl]; exact hD
      have hL2 : (upd H' l (.lst (ms.map V.int))) l = some (.lst (ms.map V.int)) := upd_same
      generalize upd H' l (.lst (ms.map V.int)) = H2 at x2 hD2 hL2 ⊢
      refine ⟨l, rfl, ⟨_, SqL.of hL2⟩, comp_list (K := K) (a := l) (xs := ms.map V.int) (fun i ys σ' H3 => (∃ y, σ' = [y, some (.ref d)]) ∧ H3 = H2 ∧ ys = ((ms.take i).filter (isOdd (oddsOf (endsOf ts ns)))).map V.int) ⟨⟨none, rfl⟩, rfl, rfl⟩
        (fun i ys σ' H3 h => by rw [h.2.1]; exact SqL.of hL2) ?_ ?_⟩
      · rintro i x ys σ' H3 hx ⟨⟨y, rfl⟩, rfl, rfl⟩
        rw [List.getElem?_map] at hx
        cases hk : ms[i]? with
        | none => rw [hk] at hx; cases hx
        | some k =>
          rw [hk] at hx
          cases hx
          have hmem : k ∈ keysOf (oddsOf (endsOf ts ns)) := p1.mem_iff.mp (List.mem_of_getElem? hk)
          have hll : (((ms.take i).filter (isOdd (oddsOf (endsOf ts ns)))).map V.int).length < sizeLine := by
            rw [List.length_map]
            have := List.length_filter_le (isOdd (oddsOf (endsOf ts ns))) (ms.take i)
            rw [List.length_take] at this
            omega
          refine ⟨hll, _, rfl, _, rfl, d, _, rfl, .inl ⟨_, Sum.inl k, .inl hD2, rfl, (lift_in ol.2 hmem).symm⟩, _, rfl, ?_⟩
          have et : ms.take (i + 1) = ms.take i ++ [k] := by rw [List.take_add_one, hk]; rfl
          cases hb2 : isOdd (oddsOf (endsOf ts ns)) k with
          | true => exact iteT ⟨_, rfl, ⟨_, rfl⟩, rfl, by rw [et, List.filter_append, List.map_append]; simp [List.filter_cons, hb2]⟩
          | false => exact iteF ⟨⟨_, rfl⟩, rfl, by rw [et, List.filter_append, List.map_append]; simp [List.filter_cons, hb2]⟩
      · rintro ys σ' H3 ⟨⟨y, rfl⟩, rfl, rfl⟩
        rw [List.take_of_length_le (by rw [List.length_map]; exact Nat.le_refl _)]
        have hll : ((ms.filter (isOdd (oddsOf (endsOf ts ns)))).map V.int).length ≤ 60 := by
          rw [List.length_map]
          have := List.length_filter_le (isOdd (oddsOf (endsOf ts ns))) ms
          omega
        exact ⟨by omega, fun D hDn => ⟨D, _, rfl, .inl ⟨SqL.of upd_same, fun t ht => q _ t _ (odd_set (OddSort.of ol.2 p1 p2)).1 upd_same ((x2.trans (.new hDn)).trans (.new ht))⟩⟩⟩
end
end Odj

set_option Elab.async false
set_option linter.all false
set_option maxRecDepth 100000
set_option maxHeartbeats 8000000
namespace Odj
open PySem L2
/-! below, turned, turned_told, turned_set -/
structure Bt9 (mg : Str → Option Value) : Prop where
  abs : mg "abs" = none
def underAt (ts : List Tie) (k : Nat) : Bool := match ts[k]? with | .some t => decide (t.2.2 < 0) | .none => false
def underTo (ts : List Tie) (i : Nat) : List Int := ((List.range i).filter (underAt ts)).map fun (k : Nat) => (k : Int)
def underOf (ts : List Tie) : List Int := underTo ts ts.length
theorem under_snoc (ts : List Tie) (i : Nat) : underTo ts (i + 1) = underTo ts i ++ if underAt ts i = true then [(i : Int)] else [] := by
  unfold underTo
  rw [List.range_succ, List.filter_append, List.map_append]
  congr 1
  by_cases h : underAt ts i = true
  · simp [List.filter_cons, h]
  · simp [List.filter_cons, h]
theorem under_len (ts : List Tie) (i : Nat) : (underTo ts i).length ≤ i := by
  unfold underTo
  rw [List.length_map]
  have := List.length_filter_le (underAt ts) (List.range i)
  rw [List.length_range] at this
  exact this
theorem mem_under {ts : List Tie} {k : Int} : k ∈ underOf ts ↔ 0 ≤ k ∧ k < (ts.length : Int) ∧ underAt ts k.toNat = true := by
  unfold underOf underTo
  simp only [List.mem_map, List.mem_filter, List.mem_range]
  constructor
  · rintro ⟨n, ⟨h1, h2⟩, rfl⟩
    exact ⟨by omega, by omega, by simpa using h2⟩
  · rintro ⟨h1, h2, h3⟩
    exact ⟨k.toNat, ⟨by omega, h3⟩, by omega⟩
theorem under_rise (ts : List Tie) : Rise (underOf ts) := by
  unfold Rise underOf underTo
  rw [List.pairwise_map]
  exact (List.pairwise_lt_range.filter _).imp fun h => by omega
theorem under_set (ts : List Tie) (h : ts.length ≤ 200) : SetOk ts.length (underOf ts) := ⟨fun i hi => by have := mem_under.mp hi; omega, by have := under_len ts ts.length; unfold underOf; omega⟩
def turnT (t : Tie) : Tie := (t.1, t.2.1, if t.2.2 < 0 then -t.2.2 else t.2.2)
theorem turn_turn (t : Tie) : turnT (turnT t) = turnT t := by
  unfold turnT
  simp only
  congr 2
  by_cases h : t.2.2 < 0
  · rw [if_pos h, if_neg (by omega)]
  · rw [if_neg h, if_neg h]
theorem turn_fn {many : Int} {ts : List Tie} (w : WebFn many ts) : WebFn many (ts.map turnT) := ⟨w.m0, w.m1, by rw [List.length_map]; exact w.len, fun t ht => by
  obtain ⟨u, hu, rfl⟩ := List.mem_map.mp ht
  have o := w.ok u hu
  have p0 := o.p0
  have p1 := o.p1
  refine ⟨o.a0, o.ab, o.bm, ?_, ?_⟩ <;> (unfold turnT; simp only; split <;> omega)⟩
theorem turn_under (ts : List Tie) : underOf (ts.map turnT) = [] := by
  cases h : underOf (ts.map turnT) with
  | nil => rfl
  | cons k l =>
    have hk : k ∈ underOf (ts.map turnT) := by rw [h]; exact List.mem_cons_self ..
    obtain ⟨_, _, h3⟩ := mem_under.mp hk
    unfold underAt at h3
    rw [List.getElem?_map] at h3
    cases e : ts[k.toNat]? with
    | none => rw [e] at h3; cases h3
    | some t =>
      rw [e] at h3
      have h4 : (turnT t).2.2 < 0 := of_decide_eq_true h3
      unfold turnT at h4
      simp only at h4
      split at h4 <;> omega
theorem turn_ends (ts : List Tie) (ns : List Int) : endsOf (ts.map turnT) ns = endsOf ts ns := by
  unfold endsOf
  congr 1
  funext n
  rw [List.getElem?_map]
  cases ts[n.toNat]? <;> rfl
def spUnder : Sp := fun vs H Q _ => ∃ (S : List Addr) (many : Int) (ts : List Tie) (v : V), vs = [v] ∧ Rep S H (webD many (ts.map tieD)) v ∧ ts.length ≤ 200 ∧
  ∀ (p : Addr) (H' : Hp), H' p = some (.tup ((underOf ts).map V.int)) → Ext [] H H' → Q (.ref p) H'
def spTurned : Sp := fun vs H Q _ => ∃ (S : List Addr) (many : Int) (ts : List Tie) (v : V), vs = [v] ∧ Rep S H (webD many (ts.map tieD)) v ∧ ts.length ≤ 200 ∧
  ∀ (u : V) (H' : Hp), (∀ S', Rep S' H' (webD many ((ts.map turnT).map tieD)) u) → Ext [] H H' → Q u H'
def spTurnedTold : Sp := fun vs H Q _ => ∃ (S : List Addr) (many : Int) (ts : List Tie) (told : List Int) (v u : V), vs = [v, u] ∧ Rep S H (webD many (ts.map tieD)) v ∧ Rep S H (.tuple (told.map .int)) u ∧ WebFn many ts ∧ many ≤ 20 ∧ told.length ≤ 20 ∧
  ∀ (ns : List Int) (p : Addr) (H' : Hp), OddSet (told ++ endsOf ts (underOf ts)) ns → H' p = some (.tup (ns.map V.int)) → Ext [] H H' → Q (.ref p) H'
def spTurnedSet : Sp := fun vs H Q _ => ∃ (S : List Addr) (many : Int) (ts : List Tie) (some : List Int) (v u : V), vs = [v, u] ∧ Rep S H (webD many (ts.map tieD)) v ∧ Rep S H (.tuple (some.map .int)) u ∧ ts.length ≤ 20 ∧ some.length ≤ 40 ∧
  ∀ (ns : List Int) (p : Addr) (H' : Hp), OddSet (some ++ underOf ts) ns → H' p = .some (.tup (ns.map V.int)) → Ext [] H H' → Q (.ref p) H'
section
variable {P : Program} {w : World} {K : PySem.W.Frag} {mg : Str → Option Value} {base : Heap} {f : Addr} {fd : FuncData}
theorem d_below (F : Fun K "below" "below" (top 7) f fd) (hm : mg "below" = some (.ref f)) (B : Bt mg) (B7 : Bt7 mg) : DefOk P w K mg base 1 "below" ["web"] spUnder := by
  refine ⟨f, fd, ?_, hm, F.kp, F.binds fun _ _ _ _ _ _ us hl => match us, hl with | [_], _ => rfl⟩
  have sc : FnScope ["web"] ["web"] (defScope (top 7)) := ⟨rfl, rfl, rfl, by decide +kernel, rfl, by decide +kernel, by decide +kernel⟩
  refine F.okQ sc (fun vs H Q E h => ?_) (fun cdv A outer s H vs Q E hr h => ?_)
  · obtain ⟨S, many, ts, v, rfl, _⟩ := h
    rfl
  · obtain ⟨S, many, ts, v, rfl, rw0, tlen, q⟩ := h
    have hsz : sizeLine = 16777216 := by decide
    obtain ⟨wa, wt, txs, rfl, ha, hb, rt⟩ := web_of rw0
    have hxl := rt.length
    rw [List.length_map] at hxl
    refine ⟨_, (qss_one (qs_ret (qe_callTy (tupleK K) (by rfl) B.tuple (by decide +kernel) (qa_c (qe_comp (N := ["number", "tie"]) (mp := [none, none]) rfl (qi_enumT K (by rfl) B7.enumerate (qa_c (qe_ix (ixT K) (qv 0) qe_int (fun _ _ => rfl)) qa_nil)) rfl (by show compOk ["web"] (defScope (top 7)) _ _ _ = true; decide +kernel) fun _ _ _ _ _ => ⟨(qg_tupK (n := 2) K rfl (qgs_cons (qg_name (i := 0) (by show List.Nodup [("number" : Str), ("tie" : Str)]; decide +kernel) rfl (Or.inl rfl)) (qgs_cons (qg_name (i := 1) (by show List.Nodup [("number" : Str), ("tie" : Str)]; decide +kernel) rfl (Or.inl rfl)) qgs_nil))), (qk_one (qt_cmpR op_lt (qe_ix (ixT K) (qv 1) qe_int (fun _ _ => rfl)) qe_int (nomark _))), (qv 0)⟩) qa_nil)))), ?_⟩
    refine ⟨_, rfl, wa, _, 1, _, rfl, rfl, SqT.of ha, rfl, wt, txs, rfl, SqT.of hb, comp_enumT (K := K) (a := wt) (xs := txs) (fun i ys σ' H' => (∃ y1 y2, σ' = [y1, y2]) ∧ Ext [] H H' ∧ ys = (underTo ts i).map V.int) ⟨⟨none, none, rfl⟩, .refl _ _, rfl⟩
      (fun i ys σ' H' h => SqT.of (h.2.1.tup _ _ hb)) ?_ ?_⟩
    · rintro i x ys σ' H' hx ⟨⟨y1, y2, rfl⟩, x1, rfl⟩
      have hi : i < txs.length := (List.getElem?_eq_some_iff.mp hx).1
      have hcl := under_len ts i
      refine ⟨by rw [List.length_map]; omega, fun T hT => ?_⟩
      obtain ⟨t, p, ht1, ht2, rfl, ht5⟩ := tie_nth rt hx
      have x2 : Ext [] H (upd H' T (.tup [.int (i : Nat), .ref p])) := x1.trans (.new hT)
      have hp2 := x2.tup _ _ ht5
      refine ⟨T, _, rfl, SqT.of upd_same, rfl, _, _, rfl, _, _, rfl, rfl, _, rfl, p, _, 2, _, rfl, rfl, SqT.of hp2, rfl, _, _, rfl, rfl, _, rfl, ?_⟩
      have ec : underAt ts i = decide (t.2.2 < 0) := by
        unfold underAt
        rw [ht1]
      refine ite2 (fun hc => ⟨_, rfl, ⟨_, _, rfl⟩, x2, ?_⟩) (fun hc => ⟨⟨_, _, rfl⟩, x2, ?_⟩)
      · rw [under_snoc, ec, if_pos hc, List.map_append]
        rfl
      · rw [under_snoc, ec, if_neg hc, List.append_nil]
    · rintro ys σ' H' ⟨⟨y1, y2, rfl⟩, x1, rfl⟩
      have hcl := under_len ts txs.length
      refine ⟨by rw [List.length_map]; omega, fun D hD => ⟨D, _, rfl, .inl ⟨SqL.of upd_same, fun p hp => ?_⟩⟩⟩
      refine q p _ ?_ ((x1.trans (.new hD)).trans (.new hp))
      rw [upd_same, hxl]
      rfl
theorem d_turned (F : Fun K "turned" "turned" (top 8) f fd) (hm : mg "turned" = some (.ref f)) (B : Bt mg) (B9 : Bt9 mg) : DefOk P w K mg base 1 "turned" ["web"] spTurned := by
  refine ⟨f, fd, ?_, hm, F.kp, F.binds fun _ _ _ _ _ _ us hl => match us, hl with | [_], _ => rfl⟩
  have sc : FnScope ["web"] ["web"] (defScope (top 8)) := ⟨rfl, rfl, rfl, by decide +kernel, rfl, by decide +kernel, by decide +kernel⟩
  refine F.okQ sc (fun vs H Q E h => ?_) (fun cdv A outer s H vs Q E hr h => ?_)
  · obtain ⟨S, many, ts, v, rfl, _⟩ := h
    rfl
  · obtain ⟨S, many, ts, v, rfl, rw0, tlen, q⟩ := h
    have hsz : sizeLine = 16777216 := by decide
    obtain ⟨wa, wt, txs, rfl, ha, hb, rt⟩ := web_of rw0
    have hxl := rt.length
    rw [List.length_map] at hxl
    refine ⟨_, (qss_one (qs_ret (qe_tup (qa_c (qe_ix (ixT K) (qv 0) qe_int (fun _ _ => rfl)) (qa_c (qe_callTy (tupleK K) (by rfl) B.tuple (by decide +kernel) (qa_c (qe_comp (N := ["high", "low", "price"]) (mp := [none, none, none]) rfl (qi_tupK K (qe_ix (ixT K) (qv 0) qe_int (fun _ _ => rfl))) rfl (by show compOk ["web"] (defScope (top 8)) _ _ _ = true; decide +kernel) fun _ _ _ _ _ => ⟨(qg_tupK (n := 3) K rfl (qgs_cons (qg_name (i := 1) (by show List.Nodup [("high" : Str), ("low" : Str), ("price" : Str)]; decide +kernel) rfl (Or.inl rfl)) (qgs_cons (qg_name (i := 0) (by show List.Nodup [("high" : Str), ("low" : Str), ("price" : Str)]; decide +kernel) rfl (Or.inl rfl)) (qgs_cons (qg_name (i := 2) (by show List.Nodup [("high" : Str), ("low" : Str), ("price" : Str)]; decide +kernel) rfl (Or.inl rfl)) qgs_nil)))), qk_nil, (qe_tup (qa_c (qv 1) (qa_c (qv 0) (qa_c (qe_callB call_abs (by rfl) B9.abs (by decide +kernel) (qa_c (qv 2) qa_nil)) qa_nil))))⟩) qa_nil)) qa_nil))))), ?_⟩
    refine ⟨_, rfl, wa, _, 0, _, rfl, rfl, SqT.of ha, rfl, _, rfl, wa, _, 1, _, rfl, rfl, SqT.of ha, rfl, wt, rfl, ⟨_, SqT.of hb⟩, comp_tup (K := K) (a := wt) (xs := txs) (fun i ys σ' H' => (∃ y1 y2 y3, σ' = [y1, y2, y3]) ∧ Ext [] H H' ∧ Ties H' ((ts.take i).map turnT) ys) ⟨⟨none, none, none, rfl⟩, .refl _ _, .nil⟩
      (fun i ys σ' H' e => SqT.of (e.2.1.tup _ _ hb)) ?_ ?_⟩
    · rintro i x ys σ' H' hx ⟨⟨y1, y2, y3, rfl⟩, x1, tt⟩
      have hi : i < txs.length := (List.getElem?_eq_some_iff.mp hx).1
      have hyl := tt.length
      rw [List.length_map, List.length_take] at hyl
      obtain ⟨t, p, ht1, ht2, rfl, ht5⟩ := tie_nth rt hx
      have hp2 := x1.tup _ _ ht5
      refine ⟨by omega, p, _, rfl, SqT.of hp2, rfl, _, _, rfl, _, _, rfl, _, _, rfl, rfl, _, rfl, _, rfl, _, rfl, _, rfl, by show 3 ≤ sizeLine; decide, fun T hT => ⟨⟨_, _, _, rfl⟩, x1.trans (.new hT), ?_⟩⟩
      rw [List.take_add_one, ht1, List.map_append]
      exact (tt.ext (S := []) (.new hT)).append (.one (t := turnT t) upd_same)
    · rintro ys σ' H' ⟨⟨y1, y2, y3, rfl⟩, x1, tt⟩
      have hyl := tt.length
      rw [List.length_map, List.length_take] at hyl
      rw [List.take_of_length_le (by omega)] at tt
      refine ⟨by omega, fun D hD => ⟨D, _, rfl, .inl ⟨SqL.of upd_same, fun l hl => ⟨by show 2 ≤ sizeLine; decide, fun p hp => ?_⟩⟩⟩⟩
      have x2 : Ext [] H' (upd H' D (.lst ys)) := .new hD
      generalize upd H' D (.lst ys) = H2 at x2 hl hp ⊢
      have x3 : Ext [] H2 (upd H2 l (.tup ys)) := .new hl
      have h3 : (upd H2 l (.tup ys)) l = some (.tup ys) := upd_same
      generalize upd H2 l (.tup ys) = H3 at x3 h3 hp ⊢
      have x4 : Ext [] H3 (upd H3 p (.tup [.int many, .ref l])) := .new hp
      refine q _ _ (fun S' => .tup upd_same (.cons (.int _) (.cons (.tup (x4.tup _ _ h3) ?_) .nil))) (((x1.trans x2).trans x3).trans x4)
      exact (((tt.ext x2).ext x3).ext x4) S'
theorem d_turned_told (F : Fun K "turned_told" "turned_told" (top 9) f fd) (hm : mg "turned_told" = some (.ref f)) (D_by_turns : DefOk P w K mg base 2 "by_turns" ["one", "other"] spTurns) (D_odds_of : DefOk P w K mg base 2 "odds_of" ["web", "some"] spOddsOf) (D_below : DefOk P w K mg base 1 "below" ["web"] spUnder) : DefOk P w K mg base 3 "turned_told" ["web", "told"] spTurnedTold := by
  refine ⟨f, fd, ?_, hm, F.kp, F.binds fun _ _ _ _ _ _ us hl => match us, hl with | [_, _], _ => rfl⟩
  have sc : FnScope ["web", "told"] ["web", "told"] (defScope (top 9)) := ⟨rfl, rfl, rfl, by decide +kernel, rfl, by decide +kernel, by decide +kernel⟩
  refine F.okQ sc (fun vs H Q E h => ?_) (fun cdv A outer s H vs Q E hr h => ?_)
  · obtain ⟨S, many, ts, told, v, u, rfl, _⟩ := h
    rfl
  · obtain ⟨S, many, ts, told, v, u, rfl, rw0, ru, wf, m20, tl, q⟩ := h
    refine ⟨_, (qss_one (qs_ret (qe_callD D_by_turns (hr.mono (by decide)) (qa_c (qv 1) (qa_c (qe_callD D_odds_of (hr.mono (by decide)) (qa_c (qv 0) (qa_c (qe_callD D_below (hr.mono (by decide)) (qa_c (qv 0) qa_nil)) qa_nil))) qa_nil))))), ?_⟩
    refine ⟨_, rfl, _, rfl, _, rfl, S, many, ts, _, rfl, rw0, wf.len, fun p1 H1 h1 x1 => ?_⟩
    refine ⟨S, many, ts, underOf ts, _, _, rfl, rw0.ext (x1.mono (by simp)), .tup h1 (.ints _), wf, under_set ts wf.len, fun os p2 H2 o2 h2 x2 => ?_⟩
    have lo := (odd_bound o2 (ends_in wf (underOf ts))).2
    have m0 := wf.m0
    refine ⟨S, _, _, told, os, rfl, ru.ext ((x1.trans x2).mono (by simp)), .tup h2 (.ints _), by omega, fun ns p3 H3 o3 h3 x3 => ?_⟩
    refine q ns p3 H3 (o3.same fun k => ?_) h3 ((x1.trans x2).trans x3)
    rw [List.count_append, List.count_append]
    have := o2.count k
    omega
theorem d_turned_set (F : Fun K "turned_set" "turned_set" (top 10) f fd) (hm : mg "turned_set" = some (.ref f)) (D_by_turns : DefOk P w K mg base 2 "by_turns" ["one", "other"] spTurns) (D_below : DefOk P w K mg base 1 "below" ["web"] spUnder) : DefOk P w K mg base 3 "turned_set" ["web", "some"] spTurnedSet := by
  refine ⟨f, fd, ?_, hm, F.kp, F.binds fun _ _ _ _ _ _ us hl => match us, hl with | [_, _], _ => rfl⟩
  have sc : FnScope ["web", "some"] ["web", "some"] (defScope (top 10)) := ⟨rfl, rfl, rfl, by decide +kernel, rfl, by decide +kernel, by decide +kernel⟩
  refine F.okQ sc (fun vs H Q E h => ?_) (fun cdv A outer s H vs Q E hr h => ?_)
  · obtain ⟨S, many, ts, so, v, u, rfl, _⟩ := h
    rfl
  · obtain ⟨S, many, ts, so, v, u, rfl, rw0, ru, t20, sl, q⟩ := h
    refine ⟨_, (qss_one (qs_ret (qe_callD D_by_turns (hr.mono (by decide)) (qa_c (qv 1) (qa_c (qe_callD D_below (hr.mono (by decide)) (qa_c (qv 0) qa_nil)) qa_nil))))), ?_⟩
    refine ⟨_, rfl, _, rfl, S, many, ts, _, rfl, rw0, by omega, fun p1 H1 h1 x1 => ?_⟩
    have ul := under_len ts ts.length
    exact ⟨S, _, _, so, underOf ts, rfl, ru.ext (x1.mono (by simp)), .tup h1 (.ints _), by unfold underOf; omega, fun ns p3 H3 o3 h3 x3 => q ns p3 H3 o3 h3 (x1.trans x3)⟩
end
end Odj

set_option Elab.async false
set_option linter.all false
set_option maxRecDepth 100000
set_option maxHeartbeats 8000000
namespace Odj
open PySem L2
/-! things that can be shown, side by side -/
def Sm (d : PyData) : Prop := Gd (10 ^ 50) d ∧ d.depth ≤ 20 ∧ d.weight ≤ 10000
theorem sm_all : ∀ {ds : List PyData}, (∀ d ∈ ds, Sm d) → GdL (10 ^ 50) ds ∧ PyData.depthAll ds ≤ 21 ∧ PyData.weightAll ds ≤ 10001 * ds.length
  | [], _ => ⟨by simp [GdL], by simp [PyData.depthAll], by simp [PyData.weightAll]⟩
  | d :: ds, h => by
    obtain ⟨h1, h2, h3⟩ := sm_all (ds := ds) fun d hd => h d (List.mem_cons_of_mem _ hd)
    obtain ⟨k1, k2, k3⟩ := h d (List.mem_cons_self ..)
    refine ⟨?_, ?_, ?_⟩
    · simp only [GdL]
      exact ⟨k1, h1⟩
    · simp only [PyData.depthAll]
      omega
    · simp only [PyData.weightAll, List.length_cons]
      omega
theorem good_tup {ds : List PyData} (h : ∀ d ∈ ds, Sm d) (hl : ds.length ≤ 12) : Good (.tuple ds) := by
  obtain ⟨h1, h2, h3⟩ := sm_all h
  refine good_of (by simp only [Gd]; exact h1) ?_ ?_
  · simp only [PyData.depth]
    omega
  · simp only [PyData.weight]
    omega
theorem good_lst {ds : List PyData} (h : ∀ d ∈ ds, Sm d) (hl : ds.length ≤ 12) : Good (.list ds) := by
  obtain ⟨h1, h2, h3⟩ := sm_all h
  refine good_of (by simp only [Gd]; exact h1) ?_ ?_
  · simp only [PyData.depth]
    omega
  · simp only [PyData.weight]
    omega
theorem sm_web {many : Int} {ts : List Tie} (w : WebFn many ts) : Sm (webD many (ts.map tieD)) := by
  have wok := web_ok w.m0 w.m1 w.len w.small
  exact ⟨wok.gd, by have := wok.dp; omega, wok.wt⟩
theorem sm_ints {ns : List Int} (h : ∀ i ∈ ns, i.natAbs ≤ 1000) (hl : ns.length ≤ 200) : Sm (.tuple (ns.map .int)) := by
  obtain ⟨h1, h2, h3⟩ := ints_fine h
  refine ⟨by simp only [Gd]; exact gdl_mono big3950 _ h1, ?_, ?_⟩
  · simp only [PyData.depth]
    omega
  · simp only [PyData.weight]
    omega
theorem eqv_web (many : Int) (ts : List Tie) : PyData.eqv (webD many (ts.map tieD)) (webD many (ts.map tieD)) = true := by
  have : PyData.eqvAll (ts.map tieD) (ts.map tieD) = true := by
    induction ts with
    | nil => simp [PyData.eqvAll]
    | cons t ts ih => simpa [PyData.eqvAll, PyData.eqv, tieD] using ih
  simpa [webD, PyData.eqv, PyData.eqvAll] using this
theorem yes_eq {xs ys : List Int} (e : xs = ys) : (if false = true then !PyData.eqv (.tuple (xs.map .int)) (.tuple (ys.map .int)) else PyData.eqv (.tuple (xs.map .int)) (.tuple (ys.map .int))) = true := by
  subst e
  rw [if_neg Bool.false_ne_true, eqv_ints]
def spPlain : Sp := fun vs H Q _ => ∃ (S : List Addr) (many : Int) (ts : List Tie) (told so : List Int) (v u z : V), vs = [v, u, z] ∧ Rep S H (webD many (ts.map tieD)) v ∧ Rep S H (.tuple (told.map .int)) u ∧ Rep S H (.tuple (so.map .int)) z ∧ WebFn many ts ∧ many ≤ 20 ∧ ts.length ≤ 16 ∧ Rise told ∧ (∀ i ∈ told, 0 ≤ i ∧ i < many) ∧ Rise so ∧ (∀ i ∈ so, 0 ≤ i ∧ i < (ts.length : Int)) ∧
  ∀ (H' : Hp), Ext [] H H' → Q (.bl true) H'
theorem max_turn (p : Int) : (if -p > p then -p else p) = if p < 0 then -p else p := by
  by_cases h : p < 0
  · rw [if_pos h, if_pos (by omega)]
  · rw [if_neg h, if_neg (by omega)]
section
variable {P : Program} {w : World} {K : PySem.W.Frag} {mg : Str → Option Value} {base : Heap} {f : Addr} {fd : FuncData}
theorem d_law_plain_right (F : Fun K "_law_plain_right" "_law_plain_right" (top 19) f fd) (hm : mg "_law_plain_right" = some (.ref f)) (B : Bt mg) (B2 : Bt2 mg) (B3 : Bt3 mg) (B5 : Bt5 mg) (D_law_turns : DefOk P w K mg base 1 "_law_turns" ["_law_one", "_law_other"] spTurnsL) (D_law_odds : DefOk P w K mg base 1 "_law_odds" ["_law_web_here", "_law_some_here"] spOddsOf)
    (D_below : DefOk P w K mg base 1 "below" ["web"] spUnder) (D_turned : DefOk P w K mg base 1 "turned" ["web"] spTurned) (D_turned_told : DefOk P w K mg base 3 "turned_told" ["web", "told"] spTurnedTold) (D_turned_set : DefOk P w K mg base 3 "turned_set" ["web", "some"] spTurnedSet) :
    DefOk P w K mg base 4 "_law_plain_right" ["_law_web_here", "_law_told", "_law_some_here"] spPlain := by
  refine ⟨f, fd, ?_, hm, F.kp, F.binds fun _ _ _ _ _ _ us hl => match us, hl with | [_, _, _], _ => rfl⟩
  have sc : FnScope ["_law_web_here", "_law_told", "_law_some_here", "_law_kept", "_law_under", "_law_due", "_law_found"] ["_law_web_here", "_law_told", "_law_some_here"] (defScope (top 19)) := ⟨rfl, rfl, rfl, by decide +kernel, rfl, by decide +kernel, by decide +kernel⟩
  refine F.okQ sc (fun vs H Q E h => ?_) (fun cdv A outer s H vs Q E hr h => ?_)
  · obtain ⟨S, many, ts, told, so, v, u, z, rfl, _⟩ := h
    rfl
  · obtain ⟨S, many, ts, told, so, v, u, z, rfl, rw0, ru, rz, wf, m20, t16, rt0, bt0, rs0, bs0, q⟩ := h
    have hsz : sizeLine = 16777216 := by decide
    have m0 := wf.m0
    have hdq : ∀ z : Str, (!decide (V.str z = V.str z)) = false := fun z => by simp
    obtain ⟨wa, wt, txs, rfl, ha, hb, rt⟩ := web_of rw0
    obtain ⟨ua, rfl, hua⟩ := rep_ints ru
    obtain ⟨za, rfl, hza⟩ := rep_ints rz
    have hxl := rt.length
    rw [List.length_map] at hxl
    have ltold := nodup_le (m := many.toNat) rt0.nd fun k hk => by have := bt0 k hk; omega
    have lso := nodup_le rs0.nd bs0
    have ul := under_len ts ts.length
    have ul' : (underOf ts).length ≤ 16 := by unfold underOf; omega
    have ub : ∀ i ∈ underOf ts, 0 ≤ i ∧ i < (ts.length : Int) := fun i hi => by have := mem_under.mp hi; omega
    have hg3 : Good (.tuple [webD many (ts.map tieD), .tuple (told.map .int), .tuple (so.map .int)]) := good_tup (fun d hd => by
      simp only [List.mem_cons, List.not_mem_nil, or_false] at hd
      rcases hd with rfl | rfl | rfl
      · exact sm_web wf
      · exact sm_ints (fun i hi => by have := bt0 i hi; omega) (by omega)
      · exact sm_ints (fun i hi => by have := bs0 i hi; omega) (by omega)) (by simp)
    refine ⟨_, (qss_cons (qs_set (i := 3) sc.nd rfl (Or.inl rfl) (qe_callB (call_reprD hr) (by rfl) B5.repr (by decide +kernel) (qa_c (qe_tup (qa_c (qv 0) (qa_c (qv 1) (qa_c (qv 2) qa_nil)))) qa_nil)))
      (qss_cons (qs_set (i := 4) sc.nd rfl (Or.inl rfl) (qe_callTy (tupleK K) (by rfl) B.tuple (by decide +kernel) (qa_c (qe_comp (N := ["_law_k", "_law_web_here"]) (mp := [none, some 0]) rfl (qi_range1 (by rfl) B2.range (qa_c (qe_callB (lenK K) (by rfl) B.len (by decide +kernel) (qa_c (qe_ix (ixT K) (qv 0) qe_int (fun _ _ => rfl)) qa_nil)) qa_nil)) rfl (by show compOk ["_law_web_here", "_law_told", "_law_some_here", "_law_kept", "_law_under", "_law_due", "_law_found"] (defScope (top 19)) _ _ _ = true; decide +kernel) fun _ _ _ _ _ => ⟨(qg_name (i := 0) (by show List.Nodup [("_law_k" : Str), ("_law_web_here" : Str)]; decide +kernel) rfl (Or.inl rfl)), (qk_one (qt_cmpR op_lt (qe_ix (ixT K) (qe_ix (ixT K) (qe_ix (ixT K) (qv 1) qe_int (fun _ _ => rfl)) (qv 0) (fun _ _ => rfl)) qe_int (fun _ _ => rfl)) qe_int (nomark _))), (qv 0)⟩) qa_nil)))
      (qss_cons (qs_set (i := 5) sc.nd rfl (Or.inl rfl) (qe_lst (qa_c (qv 4) (qa_c (qe_tup (qa_c (qe_ix (ixT K) (qv 0) qe_int (fun _ _ => rfl)) (qa_c (qe_callTy (tupleK K) (by rfl) B.tuple (by decide +kernel) (qa_c (qe_comp (N := ["_law_a", "_law_b", "_law_price_here"]) (mp := [none, none, none]) rfl (qi_tupK K (qe_ix (ixT K) (qv 0) qe_int (fun _ _ => rfl))) rfl (by show compOk ["_law_web_here", "_law_told", "_law_some_here", "_law_kept", "_law_under", "_law_due", "_law_found"] (defScope (top 19)) _ _ _ = true; decide +kernel) fun _ _ _ _ _ => ⟨(qg_tupK (n := 3) K rfl (qgs_cons (qg_name (i := 0) (by show List.Nodup [("_law_a" : Str), ("_law_b" : Str), ("_law_price_here" : Str)]; decide +kernel) rfl (Or.inl rfl)) (qgs_cons (qg_name (i := 1) (by show List.Nodup [("_law_a" : Str), ("_law_b" : Str), ("_law_price_here" : Str)]; decide +kernel) rfl (Or.inl rfl)) (qgs_cons (qg_name (i := 2) (by show List.Nodup [("_law_a" : Str), ("_law_b" : Str), ("_law_price_here" : Str)]; decide +kernel) rfl (Or.inl rfl)) qgs_nil)))), qk_nil, (qe_tup (qa_c (qv 0) (qa_c (qv 1) (qa_c (qe_callB (call_max2 rfl) (by rfl) B3.max (by decide +kernel) (qa_c (qv 2) (qa_c (qe_un un_neg (qv 2)) qa_nil))) qa_nil))))⟩) qa_nil)) qa_nil))) qa_nil))))
      (qss_cons (qs_set (i := 5) sc.nd rfl (Or.inl rfl) (qe_op op_cat (qv 5) (qe_lst (qa_c (qe_callD D_law_turns (hr.mono (by decide)) (qa_c (qv 1) (qa_c (qe_callD D_law_odds (hr.mono (by decide)) (qa_c (qv 0) (qa_c (qv 4) qa_nil))) qa_nil))) (qa_c (qe_callD D_law_turns (hr.mono (by decide)) (qa_c (qv 4) (qa_c (qv 2) qa_nil))) qa_nil)))))
      (qss_cons (qs_set (i := 6) sc.nd rfl (Or.inl rfl) (qe_lst (qa_c (qe_callD D_below (hr.mono (by decide)) (qa_c (qv 0) qa_nil)) (qa_c (qe_callD D_turned (hr.mono (by decide)) (qa_c (qv 0) qa_nil)) (qa_c (qe_callD D_turned_told (hr.mono (by decide)) (qa_c (qv 0) (qa_c (qv 1) qa_nil))) (qa_c (qe_callD D_turned_set (hr.mono (by decide)) (qa_c (qv 0) (qa_c (qv 2) qa_nil))) qa_nil))))))
      (qss_cons (qs_if (QW.pt (qw_or (qt_cmpR op_ne (qe_callB (call_reprD hr) (by rfl) B5.repr (by decide +kernel) (qa_c (qv 6) qa_nil)) (qe_callB (call_reprD hr) (by rfl) B5.repr (by decide +kernel) (qa_c (qv 5) qa_nil)) (nomark _)) (qw_or1 (qt_cmpR op_ne (qe_callB (call_reprD hr) (by rfl) B5.repr (by decide +kernel) (qa_c (qe_tup (qa_c (qv 0) (qa_c (qv 1) (qa_c (qv 2) qa_nil)))) qa_nil)) (qv 3) (nomark _))))) (qss_one (qs_ret qe_bl)) qss_nil)
      (qss_cons (qs_if (QW.pt (qw_or (qt_cmpR (op_neD hr) (qe_callD D_turned_set (hr.mono (by decide)) (qa_c (qv 0) (qa_c (qe_ix (ixL K) (qv 6) qe_int (fun _ _ => rfl)) qa_nil))) (qv 2) (nomark _)) (qw_or1 (qt_cmpR (op_neD hr) (qe_callD D_turned_told (hr.mono (by decide)) (qa_c (qv 0) (qa_c (qe_ix (ixL K) (qv 6) qe_int (fun _ _ => rfl)) qa_nil))) (qv 1) (nomark _))))) (qss_one (qs_ret qe_bl)) qss_nil)
      (qss_one (qs_ret (qe_and (qe_cmpR (op_eqD hr) (qe_callD D_below (hr.mono (by decide)) (qa_c (qe_ix (ixL K) (qv 6) qe_int (fun _ _ => rfl)) qa_nil)) (qe_tup qa_nil) (nomark _)) (qe_and (qe_cmpR (op_eqD hr) (qe_callD D_turned (hr.mono (by decide)) (qa_c (qe_ix (ixL K) (qv 6) qe_int (fun _ _ => rfl)) qa_nil)) (qe_ix (ixL K) (qv 6) qe_int (fun _ _ => rfl)) (nomark _)) (qe_one (qe_cmpR (op_eqD hr) (qe_callD D_turned_set (hr.mono (by decide)) (qa_c (qe_ix (ixL K) (qv 6) qe_int (fun _ _ => rfl)) (qa_c (qv 2) qa_nil))) (qv 2) (nomark _)))))))))))))), ?_⟩
    -- kept
    refine ⟨_, rfl, _, rfl, _, rfl, by show 3 ≤ sizeLine; decide, fun p0 hp0 => ?_⟩
    have y0 : Ext [] H (upd H p0 (.tup [.ref wa, .ref ua, .ref za])) := .new hp0
    have h0 : (upd H p0 (.tup [.ref wa, .ref ua, .ref za])) p0 = some (.tup [.ref wa, .ref ua, .ref za]) := upd_same
    generalize upd H p0 (.tup [.ref wa, .ref ua, .ref za]) = J0 at y0 h0 ⊢
    refine ⟨S, _, _, rfl, .tup h0 (.cons (rw0.ext (y0.mono (by simp))) (.cons (ru.ext (y0.mono (by simp))) (.cons (rz.ext (y0.mono (by simp))) .nil))), hg3, ?_⟩
    -- under
    refine ⟨_, rfl, wa, _, 1, _, rfl, rfl, SqT.of (y0.tup _ _ ha), rfl, wt, txs, rfl, .inr (SqT.of (y0.tup _ _ hb)), _, rfl, by omega, by omega, comp_range (fun i ys σ' H' => (∃ y, σ' = [y, some (.ref wa)]) ∧ H' = J0 ∧ ys = (underTo ts i).map V.int) ⟨⟨none, rfl⟩, rfl, rfl⟩ ?_ ?_⟩
    · rintro i ys σ' H' hi ⟨⟨y, rfl⟩, rfl, rfl⟩
      have hcl := under_len ts i
      obtain ⟨t, p, ht1, ht2, ht3, ht4, ht5⟩ := tie_at rt (i := 0 + (i : Int)) (by omega) (by omega)
      refine ⟨by rw [List.length_map]; omega, _, rfl, wa, _, 1, _, rfl, rfl, SqT.of (y0.tup _ _ ha), rfl, _, rfl, wt, txs, _, _, rfl, rfl, SqT.of (y0.tup _ _ hb), ht3, p, _, 2, _, rfl, rfl, SqT.of (y0.tup _ _ ht5), rfl, _, _, rfl, rfl, _, rfl, ?_⟩
      have e0 : (0 + (i : Int)).toNat = i := by omega
      rw [e0] at ht1
      have ec : underAt ts i = decide (t.2.2 < 0) := by
        unfold underAt
        rw [ht1]
      refine ite2 (fun hc => ⟨_, rfl, ⟨_, rfl⟩, rfl, ?_⟩) (fun hc => ⟨⟨_, rfl⟩, rfl, ?_⟩)
      · rw [under_snoc, ec, if_pos hc, List.map_append]
        simp
      · rw [under_snoc, ec, if_neg hc, List.append_nil]
    rintro ys σ' K0 ⟨⟨y, rfl⟩, rfl, rfl⟩
    have en : (underTo ts ((txs.length : Nat) : Int).toNat) = underOf ts := by
      unfold underOf
      congr 1
    refine ⟨by rw [List.length_map, en]; omega, fun D1 hD1 => ⟨D1, _, rfl, .inl ⟨SqL.of upd_same, fun p1 hp1 => ?_⟩⟩⟩
    rw [en]
    rw [en] at hp1
    have y1 : Ext [] H (upd (upd K0 D1 (.lst ((underOf ts).map V.int))) p1 (.tup ((underOf ts).map V.int))) := (y0.trans (.new hD1)).trans (.new hp1)
    have h1 : (upd (upd K0 D1 (.lst ((underOf ts).map V.int))) p1 (.tup ((underOf ts).map V.int))) p1 = some (.tup ((underOf ts).map V.int)) := upd_same
    generalize upd (upd K0 D1 (.lst ((underOf ts).map V.int))) p1 (.tup ((underOf ts).map V.int)) = J1 at y1 h1 ⊢
    -- due
    refine ⟨_, rfl, _, rfl, wa, _, 0, _, rfl, rfl, SqT.of (y1.tup _ _ ha), rfl, _, rfl, wa, _, 1, _, rfl, rfl, SqT.of (y1.tup _ _ ha), rfl, wt, rfl, ⟨_, SqT.of (y1.tup _ _ hb)⟩, comp_tup (K := K) (a := wt) (xs := txs) (fun i ys σ' H' => (∃ y1 y2 y3, σ' = [y1, y2, y3]) ∧ Ext [] J1 H' ∧ Ties H' ((ts.take i).map turnT) ys) ⟨⟨none, none, none, rfl⟩, .refl _ _, .nil⟩
      (fun i ys σ' H' e => SqT.of ((y1.trans e.2.1).tup _ _ hb)) ?_ ?_⟩
    · rintro i x ys σ' H' hx ⟨⟨z1, z2, z3, rfl⟩, x1, tt⟩
      have hi : i < txs.length := (List.getElem?_eq_some_iff.mp hx).1
      have hyl := tt.length
      rw [List.length_map, List.length_take] at hyl
      obtain ⟨t, p, ht1, ht2, rfl, ht5⟩ := tie_nth rt hx
      have hp2 := (y1.trans x1).tup _ _ ht5
      refine ⟨by omega, p, _, rfl, SqT.of hp2, rfl, _, _, rfl, _, _, rfl, _, _, rfl, rfl, _, rfl, _, rfl, _, rfl, _, rfl, _, rfl, _, _, rfl, by show 3 ≤ sizeLine; decide, fun T hT => ⟨⟨_, _, _, rfl⟩, x1.trans (.new hT), ?_⟩⟩
      rw [List.take_add_one, ht1, List.map_append]
      refine (tt.ext (S := []) (.new hT)).append (.one (t := turnT t) ?_)
      rw [upd_same, max_turn]
      rfl
    rintro ys σ' J2 ⟨⟨z1, z2, z3, rfl⟩, x2, tt⟩
    have hyl := tt.length
    rw [List.length_map, List.length_take] at hyl
    rw [List.take_of_length_le (by omega)] at tt
    refine ⟨by omega, fun D hD => ⟨D, _, rfl, .inl ⟨SqL.of upd_same, fun l hl => ⟨by show 2 ≤ sizeLine; decide, fun p2 hp2 => ⟨by show 2 ≤ sizeLine; decide, fun l2 hl2 => ?_⟩⟩⟩⟩⟩
    have xa : Ext [] J2 (upd J2 D (.lst ys)) := .new hD
    generalize upd J2 D (.lst ys) = J2a at xa hl hp2 hl2 ⊢
    have xb : Ext [] J2a (upd J2a l (.tup ys)) := .new hl
    have hbb : (upd J2a l (.tup ys)) l = some (.tup ys) := upd_same
    generalize upd J2a l (.tup ys) = J2b at xb hbb hp2 hl2 ⊢
    have xc : Ext [] J2b (upd J2b p2 (.tup [.int many, .ref l])) := .new hp2
    have rw2 : Rep [] (upd J2b p2 (.tup [.int many, .ref l])) (webD many ((ts.map turnT).map tieD)) (.ref p2) := .tup upd_same (.cons (.int _) (.cons (.tup (xc.tup _ _ hbb) ((((tt.ext xa).ext xb).ext xc) [])) .nil))
    generalize upd J2b p2 (.tup [.int many, .ref l]) = J2c at xc rw2 hl2 ⊢
    have xd : Ext [] J2c (upd J2c l2 (.lst [.ref p1, .ref p2])) := .new hl2
    have hl2' : (upd J2c l2 (.lst [.ref p1, .ref p2])) l2 = some (.lst [.ref p1, .ref p2]) := upd_same
    generalize upd J2c l2 (.lst [.ref p1, .ref p2]) = J3 at xd hl2' ⊢
    have x13 : Ext [] J1 J3 := ((((x2.trans xa).trans xb).trans xc).trans xd)
    have y3 := y1.trans x13
    -- due + [..]
    refine ⟨_, rfl, _, rfl, _, rfl, _, rfl, S, many, ts, underOf ts, _, _, rfl, rw0.ext (y3.mono (by simp)), .tup (x13.tup _ _ h1) (.ints _), wf, under_set ts wf.len, fun od p4 J4 o4 h4 x4 => ?_⟩
    have bod := odd_bound o4 (ends_in wf (underOf ts))
    have nod := nodup_lt o4.1
    have y4 := y3.trans x4
    refine ⟨[], _, _, told, od, rfl, .tup (y4.tup _ _ hua) (.ints _), .tup h4 (.ints _), rt0.nd, nod, by omega, fun n5 p5 J5 o5 h5 x5 => ?_⟩
    have y5 := y4.trans x5
    refine ⟨_, rfl, _, rfl, [], _, _, underOf ts, so, rfl, .tup (((x13.trans x4).trans x5).tup _ _ h1) (.ints _), .tup (y5.tup _ _ hza) (.ints _), (under_rise ts).nd, rs0.nd, by omega, fun n6 p6 J6 o6 h6 x6 => ?_⟩
    have y6 := y5.trans x6
    have x36 : Ext [] J3 J6 := (x4.trans x5).trans x6
    refine ⟨by show 2 ≤ sizeLine; decide, fun l7 hl7 => ?_⟩
    have x7 : Ext [] J6 (upd J6 l7 (.lst [.ref p5, .ref p6])) := .new hl7
    have h7 : (upd J6 l7 (.lst [.ref p5, .ref p6])) l7 = some (.lst [.ref p5, .ref p6]) := upd_same
    generalize upd J6 l7 (.lst [.ref p5, .ref p6]) = J7 at x7 h7 ⊢
    refine ⟨l2, l7, _, _, rfl, rfl, (x36.trans x7).keep _ _ (by simp) hl2', h7, by show 4 ≤ sizeLine; decide, fun l8 hl8 => ?_⟩
    have x8 : Ext [] J7 (upd J7 l8 (.lst ([.ref p1, .ref p2] ++ [.ref p5, .ref p6]))) := .new hl8
    have h8 : (upd J7 l8 (.lst ([.ref p1, .ref p2] ++ [.ref p5, .ref p6]))) l8 = some (.lst ([.ref p1, .ref p2] ++ [.ref p5, .ref p6])) := upd_same
    generalize upd J7 l8 (.lst ([.ref p1, .ref p2] ++ [.ref p5, .ref p6])) = J8 at x8 h8 ⊢
    have x68 := x7.trans x8
    have y8 := y6.trans x68
    have hd1 := ((x13.trans x36).trans x68).tup _ _ h1
    have hd2 := rw2.ext ((xd.trans x36).trans x68)
    have hd5 := (x6.trans x68).tup _ _ h5
    have hd6 := x68.tup _ _ h6
    -- found
    refine ⟨_, rfl, S, many, ts, _, rfl, rw0.ext (y8.mono (by simp)), wf.len, fun p9 J9 h9 x9 => ?_⟩
    have y9 := y8.trans x9
    refine ⟨_, rfl, S, many, ts, _, rfl, rw0.ext (y9.mono (by simp)), wf.len, fun vA JA rA xA => ?_⟩
    have yA := y9.trans xA
    refine ⟨_, rfl, _, rfl, S, many, ts, told, _, _, rfl, rw0.ext (yA.mono (by simp)), ru.ext (yA.mono (by simp)), wf, m20, by omega, fun nB pB JB oB hB xB => ?_⟩
    have yB := yA.trans xB
    refine ⟨_, rfl, _, rfl, S, many, ts, so, _, _, rfl, rw0.ext (yB.mono (by simp)), rz.ext (yB.mono (by simp)), by omega, by omega, fun nC pC JC oC hC xC => ?_⟩
    have yC := yB.trans xC
    refine ⟨by show 4 ≤ sizeLine; decide, fun l9 hl9 => ?_⟩
    have xD : Ext [] JC (upd JC l9 (.lst [.ref p9, vA, .ref pB, .ref pC])) := .new hl9
    have hD9 : (upd JC l9 (.lst [.ref p9, vA, .ref pB, .ref pC])) l9 = some (.lst [.ref p9, vA, .ref pB, .ref pC]) := upd_same
    generalize upd JC l9 (.lst [.ref p9, vA, .ref pB, .ref pC]) = JD at xD hD9 ⊢
    have yD := yC.trans xD
    have x8D := (((x9.trans xA).trans xB).trans xC).trans xD
    -- what is found is due
    have eB : n5 = nB := o5.one oB fun k => by
      rw [List.count_append, List.count_append]
      have := o4.count k
      omega
    have eC : n6 = nC := o6.one oC fun k => by
      rw [List.count_append, List.count_append]
      omega
    subst eB eC
    have bB := odd_bound (m := many.toNat) oB fun k hk => by
      rcases List.mem_append.mp hk with h | h
      · have := bt0 k h
        omega
      · exact ends_in wf _ k h
    have bC := odd_bound (m := ts.length) oC fun k hk => by
      rcases List.mem_append.mp hk with h | h
      · exact bs0 k h
      · exact ub k h
    have hg4 : Good (.list [.tuple ((underOf ts).map .int), webD many ((ts.map turnT).map tieD), .tuple (n5.map .int), .tuple (n6.map .int)]) := good_lst (fun d hd => by
      simp only [List.mem_cons, List.not_mem_nil, or_false] at hd
      rcases hd with rfl | rfl | rfl | rfl
      · exact sm_ints (fun i hi => by have := ub i hi; omega) (by omega)
      · exact sm_web (turn_fn wf)
      · exact sm_ints (fun i hi => by have := bB.1 i hi; omega) (by omega)
      · exact sm_ints (fun i hi => by have := bC.1 i hi; omega) (by omega)) (by simp)
    have hf1 := (((xA.trans xB).trans xC).trans xD).tup _ _ h9
    have hf2 : ∀ S', Rep S' JD (webD many ((ts.map turnT).map tieD)) vA := fun S' => (rA S').ext (((xB.trans xC).trans xD).mono (by simp))
    have hf3 := (xC.trans xD).tup _ _ hB
    have hf4 := xD.tup _ _ hC
    refine ⟨_, rfl, [], _, _, rfl, .lst hD9 (by simp) (.cons (.tup hf1 (.ints _)) (.cons (hf2 []) (.cons (.tup hf3 (.ints _)) (.cons (.tup hf4 (.ints _)) .nil)))), hg4, ?_⟩
    refine ⟨_, rfl, [], _, _, rfl, .lst (x8D.keep _ _ (by simp) h8) (by simp) (.cons (.tup (x8D.tup _ _ hd1) (.ints _)) (.cons (hd2.ext x8D) (.cons (.tup (x8D.tup _ _ hd5) (.ints _)) (.cons (.tup (x8D.tup _ _ hd6) (.ints _)) .nil)))), hg4, rfl, _, rfl, ?_⟩
    rw [hdq]
    refine ⟨_, rfl, _, rfl, _, rfl, by show 3 ≤ sizeLine; decide, fun pE hpE => ?_⟩
    have xE : Ext [] JD (upd JD pE (.tup [.ref wa, .ref ua, .ref za])) := .new hpE
    have hE : (upd JD pE (.tup [.ref wa, .ref ua, .ref za])) pE = some (.tup [.ref wa, .ref ua, .ref za]) := upd_same
    generalize upd JD pE (.tup [.ref wa, .ref ua, .ref za]) = JE at xE hE ⊢
    have yE := yD.trans xE
    refine ⟨S, _, _, rfl, .tup hE (.cons (rw0.ext (yE.mono (by simp))) (.cons (ru.ext (yE.mono (by simp))) (.cons (rz.ext (yE.mono (by simp))) .nil))), hg3, _, rfl, rfl, _, rfl, ?_⟩
    rw [hdq]
    have hL := xE.keep _ _ (by simp) hD9
    -- twice turned
    refine ⟨_, rfl, _, rfl, l9, _, 3, _, rfl, rfl, SqL.of hL, rfl, S, many, ts, n6, _, _, rfl, rw0.ext (yE.mono (by simp)), .tup (xE.tup _ _ hf4) (.ints _), by omega, by omega, fun nF pF JF oF hF xF => ?_⟩
    have yF := yE.trans xF
    have eF : nF = so := oF.one (OddSet.self rs0) fun k => by
      have := oC.count k
      rw [List.count_append] at this ⊢
      omega
    refine ⟨_, rfl, [], .tuple (nF.map .int), .tuple (so.map .int), .tup hF (.ints _), .tup (yF.tup _ _ hza) (.ints _), lay_ints _, lay_ints _, depth_tup _, _, rfl, neq_no eF ?_⟩
    have hLF := xF.keep _ _ (by simp) hL
    refine ⟨_, rfl, _, rfl, l9, _, 2, _, rfl, rfl, SqL.of hLF, rfl, S, many, ts, n5, _, _, rfl, rw0.ext (yF.mono (by simp)), .tup ((xE.trans xF).tup _ _ hf3) (.ints _), wf, m20, by omega, fun nG pG JG oG hG xG => ?_⟩
    have yG := yF.trans xG
    have eG : nG = told := oG.one (OddSet.self rt0) fun k => by
      have := oB.count k
      rw [List.count_append] at this ⊢
      omega
    refine ⟨_, rfl, [], .tuple (nG.map .int), .tuple (told.map .int), .tup hG (.ints _), .tup (yG.tup _ _ hua) (.ints _), lay_ints _, lay_ints _, depth_tup _, _, rfl, neq_no eG ?_⟩
    have hLG := xG.keep _ _ (by simp) hLF
    have xEG := (xE.trans xF).trans xG
    -- the turned web
    refine ⟨_, rfl, l9, _, 1, _, rfl, rfl, SqL.of hLG, rfl, [], many, ts.map turnT, vA, rfl, (hf2 []).ext xEG, by rw [List.length_map]; omega, fun pH JH hH xH => ?_⟩
    rw [turn_under] at hH
    refine ⟨Nat.zero_le _, fun pI hpI => ?_⟩
    have xI : Ext [] JH (upd JH pI (.tup [])) := .new hpI
    have hI : (upd JH pI (.tup [])) pI = some (.tup []) := upd_same
    generalize upd JH pI (.tup []) = JI at xI hI ⊢
    refine ⟨[], .tuple (([] : List Int).map .int), .tuple (([] : List Int).map .int), .tup (xI.tup _ _ hH) (.ints []), .tup hI (.ints []), lay_ints _, lay_ints _, depth_tup _, _, rfl, ?_⟩
    rw [yes_eq rfl]
    have xGI := xH.trans xI
    have hLI := xGI.keep _ _ (by simp) hLG
    have yI := yG.trans xGI
    have xEI := xEG.trans xGI
    refine ⟨_, rfl, l9, _, 1, _, rfl, rfl, SqL.of hLI, rfl, [], many, ts.map turnT, vA, rfl, (hf2 []).ext xEI, by rw [List.length_map]; omega, fun vJ JJ rJ xJ => ?_⟩
    have ett : (ts.map turnT).map turnT = ts.map turnT := by
      rw [List.map_map]
      exact List.map_congr_left fun t _ => turn_turn t
    rw [ett] at rJ
    have lw := (sm_web (turn_fn wf)).1
    refine ⟨_, rfl, l9, _, 1, _, rfl, rfl, SqL.of (xJ.keep _ _ (by simp) hLI), rfl, [], _, _, rJ [], (hf2 []).ext (xEI.trans xJ), (gd_lay _ lw).1, (gd_lay _ lw).1, by have := (sm_web (turn_fn wf)).2.1; omega, _, rfl, ?_⟩
    rw [if_neg Bool.false_ne_true, eqv_web]
    refine ⟨_, rfl, l9, _, 1, _, rfl, rfl, SqL.of (xJ.keep _ _ (by simp) hLI), rfl, _, rfl, [], many, ts.map turnT, so, vA, _, rfl, (hf2 []).ext (xEI.trans xJ), .tup ((yI.trans xJ).tup _ _ hza) (.ints _), by rw [List.length_map]; omega, by omega, fun nK pK JK oK hK xK => ?_⟩
    have eK : nK = so := oK.one (OddSet.self rs0) fun k => by
      rw [turn_under, List.append_nil]
    refine ⟨_, rfl, [], .tuple (nK.map .int), .tuple (so.map .int), .tup hK (.ints _), .tup (((yI.trans xJ).trans xK).tup _ _ hza) (.ints _), lay_ints _, lay_ints _, depth_tup _, ?_⟩
    rw [yes_eq eK]
    exact q _ ((yI.trans xJ).trans xK)
end
end Odj

set_option Elab.async false
set_option linter.all false
set_option maxRecDepth 100000
set_option maxHeartbeats 8000000
namespace Odj
open PySem L2
/-! all sets, turned -/
theorem eqv_iff : ∀ (xs ys : List Int), PyData.eqvAll (xs.map .int) (ys.map .int) = decide (xs = ys)
  | [], [] => by simp [PyData.eqvAll]
  | [], _ :: _ => by simp [PyData.eqvAll]
  | _ :: _, [] => by simp [PyData.eqvAll]
  | x :: xs, y :: ys => by
    have ih := eqv_iff xs ys
    simp only [List.map_cons, PyData.eqvAll, PyData.eqv, ih]
    by_cases h : x = y <;> by_cases h2 : xs = ys <;> simp [h, h2]
theorem eqv_tups (xs ys : List Int) : (if false = true then !PyData.eqv (.tuple (xs.map .int)) (.tuple (ys.map .int)) else PyData.eqv (.tuple (xs.map .int)) (.tuple (ys.map .int))) = decide (xs = ys) := by
  rw [if_neg Bool.false_ne_true]
  simp only [PyData.eqv]
  exact eqv_iff xs ys
theorem sum_filter (g : Int → Int) (p : Int → Bool) : ∀ l : List Int, ((l.filter p).map g).sum = (l.map fun k => if p k = true then g k else 0).sum
  | [] => rfl
  | a :: l => by
    have ih := sum_filter g p l
    by_cases h : p a = true
    · simp [List.filter_cons, h, ih]
    · simp [List.filter_cons, h, ih]
theorem sum_ind {n : Nat} {l : List Int} (g : Int → Int) (hn : l.Nodup) (hb : ∀ k ∈ l, 0 ≤ k ∧ k < (n : Int)) : (l.map g).sum = ((nums n).map fun k => if k ∈ l then g k else 0).sum := by
  have p : l.Perm ((nums n).filter fun k => decide (k ∈ l)) := perm_of hn ((nodup_lt (nums_rise n)).filter _) fun k => by
    rw [List.mem_filter, mem_nums]
    constructor
    · exact fun h => ⟨hb k h, by simpa using h⟩
    · exact fun h => by simpa using h.2
  rw [sum_perm p, sum_filter]
  congr 1
  apply List.map_congr_left
  intro k _
  simp
theorem sum_add {f g h : Int → Int} : ∀ {l : List Int}, (∀ k ∈ l, f k = g k + h k) → (l.map f).sum = (l.map g).sum + (l.map h).sum
  | [], _ => rfl
  | a :: l, e => by
    have ih := sum_add (l := l) fun k hk => e k (List.mem_cons_of_mem _ hk)
    have e1 := e a (List.mem_cons_self ..)
    simp only [List.map_cons, List.sum_cons]
    omega
theorem paid_turn {ts : List Tie} {a o : List Int} (ra : Rise a) (ba : ∀ k ∈ a, 0 ≤ k ∧ k < (ts.length : Int)) (ho : OddSet (a ++ underOf ts) o) : paidOf ts a = paidOf ts (underOf ts) + paidOf (ts.map turnT) o := by
  have ru := under_rise ts
  have bu : ∀ k ∈ underOf ts, 0 ≤ k ∧ k < (ts.length : Int) := fun k hk => by have := mem_under.mp hk; omega
  obtain ⟨ro, mo⟩ := (odd_two ra.nd ru.nd).mp ho
  have bo := (odd_bound (m := ts.length) ho fun k hk => by
    rcases List.mem_append.mp hk with h | h
    · exact ba k h
    · exact bu k h).1
  rw [paid_sum, paid_sum, paid_sum, sum_ind _ ra.nd ba, sum_ind _ ru.nd bu, sum_ind _ ro.nd bo]
  refine sum_add fun k hk => ?_
  obtain ⟨k0, k1⟩ := mem_nums.mp hk
  have hlt : k.toNat < ts.length := by omega
  have hts : ts[k.toNat]? = some ts[k.toNat] := by simp [hlt]
  have f1 : feeAt ts k = ts[k.toNat].2.2 := by unfold feeAt; rw [hts]
  have f2 : feeAt (ts.map turnT) k = if ts[k.toNat].2.2 < 0 then -ts[k.toNat].2.2 else ts[k.toNat].2.2 := by
    unfold feeAt
    rw [List.getElem?_map, hts]
    rfl
  have mu : k ∈ underOf ts ↔ ts[k.toNat].2.2 < 0 := by
    rw [mem_under]
    unfold underAt
    rw [hts]
    simp [k0, k1]
  rw [f1, f2]
  have m := mo k
  generalize ts[k.toNat].2.2 = p at mu ⊢
  by_cases h1 : k ∈ a <;> by_cases h2 : k ∈ underOf ts
  · have hp := mu.mp h2
    have h3 : ¬ k ∈ o := by rw [m]; simp [h1, h2]
    simp [h1, h2, h3]
  · have hp : ¬ p < 0 := fun z => h2 (mu.mpr z)
    have h3 : k ∈ o := by rw [m]; simp [h1, h2]
    simp [h1, h2, h3, hp]
  · have hp := mu.mp h2
    have h3 : k ∈ o := by rw [m]; simp [h1, h2]
    simp [h1, h2, h3, hp]
    omega
  · have h3 : ¬ k ∈ o := by rw [m]; simp [h1, h2]
    simp [h1, h2, h3]
theorem turned_odds {ts : List Tie} {a o os os' told due : List Int} (ho : OddSet (a ++ underOf ts) o) (h1 : OddSet (endsOf ts a) os) (h2 : OddSet (endsOf (ts.map turnT) o) os') (ht : Rise told) (hd : OddSet (told ++ endsOf ts (underOf ts)) due) : os' = due ↔ os = told := by
  rw [turn_ends] at h2
  have e1 : ∀ k, (endsOf ts o).count k % 2 = (endsOf ts a ++ endsOf ts (underOf ts)).count k % 2 := fun k => by
    rw [← ends_app]
    exact ends_same ts (fun k => ho.count k) k
  constructor
  · intro e
    refine h1.one (OddSet.self ht) fun k => ?_
    have a1 := e1 k
    have a2 := h2.count k
    have a3 := hd.count k
    rw [e] at a2
    rw [List.count_append] at a1 a3
    omega
  · intro e
    refine h2.one hd fun k => ?_
    have a1 := e1 k
    have a2 := h1.count k
    rw [e] at a2
    rw [List.count_append] at a1 ⊢
    omega
theorem rep_bool (g : Bool) (x : Int) : (List.replicate (Int.toNat (if g = true then 1 else 0)) [V.int x]).flatten = (if g = true then [x] else []).map V.int := by cases g <;> rfl
theorem first_at {M : Int} : ∀ {l : List Int}, M ∈ l → ∃ j : Nat, l[j]? = some M ∧ ∀ i, i < j → l[i]? ≠ some M
  | [], h => by cases h
  | a :: l, h => by
    by_cases e : a = M
    · exact ⟨0, by simp [e], fun i hi => by omega⟩
    · have h' : M ∈ l := by
        rcases List.mem_cons.mp h with z | z
        · exact absurd z.symm e
        · exact z
      obtain ⟨j, h1, h2⟩ := first_at h'
      refine ⟨j + 1, by simpa using h1, fun i hi => ?_⟩
      cases i with
      | zero => simpa using e
      | succ i => simpa using h2 i (by omega)
def spSetsT : Sp := fun vs H Q _ => ∃ (S : List Addr) (many : Int) (ts : List Tie) (told : List Int) (v u : V), vs = [v, u] ∧ Rep S H (webD many (ts.map tieD)) v ∧ Rep S H (.tuple (told.map .int)) u ∧ WebFn many ts ∧ many ≤ 20 ∧ ts.length ≤ 6 ∧ Rise told ∧ told.length ≤ 20 ∧
  ∀ (H' : Hp), Ext [] H H' → Q (.bl true) H'
section
variable {P : Program} {w : World} {K : PySem.W.Frag} {mg : Str → Option Value} {base : Heap} {f : Addr} {fd : FuncData}
theorem d_law_sets_right (F : Fun K "_law_sets_right" "_law_sets_right" (top 20) f fd) (hm : mg "_law_sets_right" = some (.ref f)) (B : Bt mg) (B2 : Bt2 mg) (B3 : Bt3 mg) (D_price_of : DefOk P w K mg base 1 "price_of" ["web", "some"] spPriceOf) (D_odds_of : DefOk P w K mg base 2 "odds_of" ["web", "some"] spOddsOf)
    (D_below : DefOk P w K mg base 1 "below" ["web"] spUnder) (D_turned : DefOk P w K mg base 1 "turned" ["web"] spTurned) (D_turned_told : DefOk P w K mg base 3 "turned_told" ["web", "told"] spTurnedTold) (D_turned_set : DefOk P w K mg base 3 "turned_set" ["web", "some"] spTurnedSet) :
    DefOk P w K mg base 4 "_law_sets_right" ["_law_web_here", "_law_told"] spSetsT := by
  refine ⟨f, fd, ?_, hm, F.kp, F.binds fun _ _ _ _ _ _ us hl => match us, hl with | [_, _], _ => rfl⟩
  have sc : FnScope ["_law_web_here", "_law_told", "_law_far", "_law_due", "_law_prices", "_law_others", "_law_number", "_law_some_here", "_law_other", "_law_good"] ["_law_web_here", "_law_told"] (defScope (top 20)) := ⟨rfl, rfl, rfl, by decide +kernel, rfl, by decide +kernel, by decide +kernel⟩
  refine F.okQ sc (fun vs H Q E h => ?_) (fun cdv A outer s H vs Q E hr h => ?_)
  · obtain ⟨S, many, ts, told, v, u, rfl, _⟩ := h
    rfl
  · obtain ⟨S, many, ts, told, v, u, rfl, rw0, ru, wf, m20, t6, rtold, ltold, q⟩ := h
    have hsz : sizeLine = 16777216 := by decide
    have m0 := wf.m0
    obtain ⟨wa, wt, txs, rfl, ha, hb, rt⟩ := web_of rw0
    obtain ⟨ua, rfl, hua⟩ := rep_ints ru
    have hxl := rt.length
    rw [List.length_map] at hxl
    have wff := turn_fn wf
    refine ⟨_, (qss_cons (qs_par (i := 2) (j := 3) rfl sc.nd rfl rfl (by decide) rfl rfl (qa_c (qe_callD D_turned (hr.mono (by decide)) (qa_c (qv 0) qa_nil)) (qa_c (qe_callD D_turned_told (hr.mono (by decide)) (qa_c (qv 0) (qa_c (qv 1) qa_nil))) qa_nil)) rfl)
      (qss_cons (qs_set (i := 4) sc.nd rfl (Or.inl rfl) (qe_lst qa_nil))
      (qss_cons (qs_set (i := 5) sc.nd rfl (Or.inl rfl) (qe_lst qa_nil))
      (qss_cons (qs_for PassesOwn.never rfl (qi_range1 (by rfl) B2.range (qa_c (qe_op op_shl qe_int (qe_callB (lenK K) (by rfl) B.len (by decide +kernel) (qa_c (qe_ix (ixT K) (qv 0) qe_int (fun _ _ => rfl)) qa_nil))) qa_nil)) (qg_name (i := 6) sc.nd rfl (Or.inr rfl)) (qss_cons (qs_set (i := 7) sc.nd rfl (Or.inl rfl) (qe_callTy (tupleK K) (by rfl) B.tuple (by decide +kernel) (qa_c (qe_comp (N := ["_law_k", "_law_number"]) (mp := [none, some 6]) rfl (qi_range1 (by rfl) B2.range (qa_c (qe_callB (lenK K) (by rfl) B.len (by decide +kernel) (qa_c (qe_ix (ixT K) (qv 0) qe_int (fun _ _ => rfl)) qa_nil)) qa_nil)) rfl (by show compOk ["_law_web_here", "_law_told", "_law_far", "_law_due", "_law_prices", "_law_others", "_law_number", "_law_some_here", "_law_other", "_law_good"] (defScope (top 20)) _ _ _ = true; decide +kernel) fun _ _ _ _ _ => ⟨(qg_name (i := 0) (by show List.Nodup [("_law_k" : Str), ("_law_number" : Str)]; decide +kernel) rfl (Or.inl rfl)), (qk_one (qt_cmpR op_eq (qe_op op_and (qe_op op_shr (qv 1) (qv 0)) qe_int) qe_int (nomark _))), (qv 0)⟩) qa_nil)))
      (qss_cons (qs_set (i := 8) sc.nd rfl (Or.inl rfl) (qe_callD D_turned_set (hr.mono (by decide)) (qa_c (qv 0) (qa_c (qv 7) qa_nil))))
      (qss_cons (qs_if (qt_cmpR op_ne (qe_callD D_price_of (hr.mono (by decide)) (qa_c (qv 0) (qa_c (qv 7) qa_nil))) (qe_op op_add (qe_callD D_price_of (hr.mono (by decide)) (qa_c (qv 0) (qa_c (qe_callD D_below (hr.mono (by decide)) (qa_c (qv 0) qa_nil)) qa_nil))) (qe_callD D_price_of (hr.mono (by decide)) (qa_c (qv 2) (qa_c (qv 8) qa_nil)))) (nomark _)) (qss_one (qs_ret qe_bl)) qss_nil)
      (qss_cons (qs_set (i := 9) sc.nd rfl (Or.inl rfl) (qe_cmpR (op_eqD hr) (qe_callD D_odds_of (hr.mono (by decide)) (qa_c (qv 0) (qa_c (qv 7) qa_nil))) (qv 1) (nomark _)))
      (qss_cons (qs_if (qt_cmpR op_ne (qv 9) (qe_cmpR (op_eqD hr) (qe_callD D_odds_of (hr.mono (by decide)) (qa_c (qv 2) (qa_c (qv 8) qa_nil))) (qv 3) (nomark _)) (nomark _)) (qss_one (qs_ret qe_bl)) qss_nil)
      (qss_cons (qs_expr (qe_bmK K PySem.F.plainAttrs_list PySem.F.slot_list_extend PySem.F.type_list_extend mt_extend (qv 4) (qa_c (qe_op op_rep (qe_lst (qa_c (qe_callD D_price_of (hr.mono (by decide)) (qa_c (qv 0) (qa_c (qv 7) qa_nil))) qa_nil)) (qe_callTy call_int1 (by rfl) B.int (by decide +kernel) (qa_c (qv 9) qa_nil))) qa_nil)))
      (qss_one (qs_expr (qe_bmK K PySem.F.plainAttrs_list PySem.F.slot_list_extend PySem.F.type_list_extend mt_extend (qv 5) (qa_c (qe_op op_rep (qe_lst (qa_c (qe_callD D_price_of (hr.mono (by decide)) (qa_c (qv 2) (qa_c (qv 8) qa_nil))) qa_nil)) (qe_callTy call_int1 (by rfl) B.int (by decide +kernel) (qa_c (qv 9) qa_nil))) qa_nil)))))))))))
      (qss_one (qs_ret (qe_or (qe_cmpR (op_eqD hr) (qv 4) (qe_lst qa_nil) (nomark _)) (qe_one (qe_cmpR op_eq (qe_bmK K PySem.F.plainAttrs_list PySem.F.slot_list_index PySem.F.type_list_index mt_indexL (qv 4) (qa_c (qe_callB (call_minL K rfl) (by rfl) B3.min (by decide +kernel) (qa_c (qv 4) qa_nil)) qa_nil)) (qe_bmK K PySem.F.plainAttrs_list PySem.F.slot_list_index PySem.F.type_list_index mt_indexL (qv 5) (qa_c (qe_callB (call_minL K rfl) (by rfl) B3.min (by decide +kernel) (qa_c (qv 5) qa_nil)) qa_nil)) (nomark _)))))))))), ?_⟩
    -- far, due
    refine ⟨_, rfl, S, many, ts, _, rfl, rw0, wf.len, fun vF J1 rF x1 => ?_⟩
    refine ⟨_, rfl, _, rfl, S, many, ts, told, _, _, rfl, rw0.ext (x1.mono (by simp)), ru.ext (x1.mono (by simp)), wf, m20, ltold, fun due pd J2 od hd x2 => ⟨_, _, rfl, ?_⟩⟩
    have y2 := x1.trans x2
    have rF2 : ∀ S', Rep S' J2 (webD many ((ts.map turnT).map tieD)) vF := fun S' => (rF S').ext (x2.mono (by simp))
    have bdue := odd_bound (m := many.toNat + 20) od
    refine ⟨Nat.zero_le _, fun lp hlp => ⟨Nat.zero_le _, fun lo hlo => ?_⟩⟩
    have hne : lp ≠ lo := fun z => by rw [← z, upd_same] at hlo; cases hlo
    have hlo2 : J2 lo = none := by rw [upd_ne hne.symm] at hlo; exact hlo
    have x3 : Ext [] J2 (upd (upd J2 lp (.lst [])) lo (.lst [])) := (Ext.new hlp).trans (.new hlo)
    have hp3 : (upd (upd J2 lp (.lst [])) lo (.lst [])) lp = some (.lst (([] : List Int).map V.int)) := by rw [upd_ne hne, upd_same]; rfl
    have ho3 : (upd (upd J2 lp (.lst [])) lo (.lst [])) lo = some (.lst ((([] : List Int).map (· - paidOf ts (underOf ts))).map V.int)) := by rw [upd_same]; rfl
    generalize upd (upd J2 lp (.lst [])) lo (.lst []) = J3 at x3 hp3 ho3 ⊢
    have y3 := y2.trans x3
    have hpw : (1 * 2 ^ (((txs.length : Nat) : Int)).toNat : Int) ≤ 64 := by
      have e : (((txs.length : Nat) : Int)).toNat = txs.length := by omega
      rw [e]
      have : txs.length ≤ 6 := by omega
      have : (2 : Nat) ^ txs.length ≤ 2 ^ 6 := Nat.pow_le_pow_right (by decide) this
      have h2 : ((2 ^ txs.length : Nat) : Int) ≤ 64 := by omega
      rw [Int.one_mul]
      have h3 : ((2 ^ txs.length : Nat) : Int) = (2 : Int) ^ txs.length := by simp
      omega
    have hpw0 : (0 : Int) ≤ 1 * 2 ^ (((txs.length : Nat) : Int)).toNat := by
      rw [Int.one_mul]
      exact Int.pow_nonneg (by decide)
    refine ⟨_, rfl, wa, _, 1, _, rfl, rfl, SqT.of (y3.tup _ _ ha), rfl, wt, txs, rfl, .inr (SqT.of (y3.tup _ _ hb)), _, _, rfl, rfl, ⟨by omega, by omega, by decide⟩, _, rfl, by omega, by omega, ?_⟩
    generalize hN : (1 * 2 ^ (((txs.length : Nat) : Int)).toNat : Int) = N at hpw hpw0 ⊢
    refine for_range (n := N.toNat) (D := { nx := _, rt := Q }) (fun i σ' H' => (∃ s6 s7 s8 s9, σ' = [some (.ref wa), some (.ref ua), some vF, some (.ref pd), some (.ref lp), some (.ref lo), s6, s7, s8, s9]) ∧ (∃ Ps : List Int, H' lp = some (.lst (Ps.map V.int)) ∧ H' lo = some (.lst ((Ps.map (· - paidOf ts (underOf ts))).map V.int)) ∧ Ps.length ≤ i) ∧ Ext [] J2 H') ⟨⟨_, _, _, _, rfl⟩, ⟨[], hp3, ho3, Nat.le_refl _⟩, x3⟩ ?_ ?_
    · rintro i σ' J4 hi ⟨⟨s6, s7, s8, s9, rfl⟩, ⟨Ps, hp4, ho4, lP⟩, x4⟩
      have y4 := y2.trans x4
      -- a set
      refine ⟨_, rfl, wa, _, 1, _, rfl, rfl, SqT.of (y4.tup _ _ ha), rfl, wt, txs, rfl, .inr (SqT.of (y4.tup _ _ hb)), _, rfl, by omega, by omega, comp_range (fun j ys σ' H' => (∃ y, σ' = [y, some (.int (0 + (i : Int)))]) ∧ H' = J4 ∧ ∃ ns : List Int, ys = ns.map V.int ∧ Rise ns ∧ ns.length ≤ j ∧ ∀ k ∈ ns, 0 ≤ k ∧ k < (j : Int)) ⟨⟨none, rfl⟩, rfl, [], rfl, List.Pairwise.nil, Nat.le_refl _, by simp⟩ ?_ ?_⟩
      · rintro j ys σ' H' hj ⟨⟨y, rfl⟩, rfl, ns, rfl, hr0, hl, hk⟩
        refine ⟨by rw [List.length_map]; omega, _, rfl, _, rfl, _, _, rfl, rfl, by omega, _, _, rfl, rfl, rfl, _, rfl, ite2 (fun hz => ?_) (fun hz => ?_)⟩
        · refine ⟨_, rfl, ⟨_, rfl⟩, rfl, ns ++ [0 + (j : Int)], by simp, rise_snoc hr0 (fun k h => by have := hk k h; omega), by simp; omega, ?_⟩
          intro k hk'
          rcases List.mem_append.mp hk' with h | h
          · have := hk k h
            omega
          · have : k = 0 + (j : Int) := by simpa using h
            omega
        · exact ⟨⟨_, rfl⟩, rfl, ns, rfl, hr0, by omega, fun k hk' => by have := hk k hk'; omega⟩
      rintro ys σ' K4 ⟨⟨y, rfl⟩, rfl, a, rfl, ra, la, ba0⟩
      have ba : ∀ k ∈ a, 0 ≤ k ∧ k < (ts.length : Int) := fun k hk => by have := ba0 k hk; omega
      have la' : a.length ≤ 6 := by omega
      refine ⟨by rw [List.length_map]; omega, fun D hD => ⟨D, _, rfl, .inl ⟨SqL.of upd_same, fun p5 hp5 => ?_⟩⟩⟩
      have x5 : Ext [] K4 (upd (upd K4 D (.lst (a.map V.int))) p5 (.tup (a.map V.int))) := (Ext.new hD).trans (.new hp5)
      have h5 : (upd (upd K4 D (.lst (a.map V.int))) p5 (.tup (a.map V.int))) p5 = some (.tup (a.map V.int)) := upd_same
      generalize upd (upd K4 D (.lst (a.map V.int))) p5 (.tup (a.map V.int)) = J5 at x5 h5 ⊢
      have y5 := y4.trans x5
      have soa : SetOk ts.length a := ⟨ba, by omega⟩
      -- the other one
      refine ⟨_, rfl, _, rfl, S, many, ts, a, _, _, rfl, rw0.ext (y5.mono (by simp)), .tup h5 (.ints _), by omega, by omega, fun o p6 J6 oo h6 x6 => ?_⟩
      have y6 := y5.trans x6
      have bo := odd_bound (m := ts.length) oo fun k hk => by
        rcases List.mem_append.mp hk with h | h
        · exact ba k h
        · have := mem_under.mp h
          omega
      have soo : SetOk (ts.map turnT).length o := ⟨by rw [List.length_map]; exact bo.1, by omega⟩
      have x26 := (x4.trans x5).trans x6
      have pay := paid_turn ra ba oo
      -- prices
      refine ⟨_, rfl, _, rfl, S, many, ts, a, _, _, rfl, rw0.ext (y6.mono (by simp)), .tup (x6.tup _ _ h5) (.ints _), wf, soa, fun J7 x7 => ?_⟩
      have y7 := y6.trans x7
      refine ⟨_, rfl, _, rfl, S, many, ts, _, rfl, rw0.ext (y7.mono (by simp)), wf.len, fun p8 J8 h8 x8 => ?_⟩
      have y8 := y7.trans x8
      refine ⟨S, many, ts, underOf ts, _, _, rfl, rw0.ext (y8.mono (by simp)), .tup h8 (.ints _), wf, under_set ts wf.len, fun J9 x9 => ?_⟩
      have x69 := (x7.trans x8).trans x9
      have x29 := x26.trans x69
      refine ⟨_, rfl, _, rfl, [], many, ts.map turnT, o, _, _, rfl, (rF2 []).ext x29, .tup (x69.tup _ _ h6) (.ints _), wff, soo, fun JA xA => ?_⟩
      have x2A := x29.trans xA
      have yA := y2.trans x2A
      have x6A := x69.trans xA
      refine ⟨_, _, rfl, rfl, rfl, _, rfl, int_no pay ?_⟩
      -- odds
      refine ⟨_, rfl, _, rfl, S, many, ts, a, _, _, rfl, rw0.ext (yA.mono (by simp)), .tup ((x6.trans x6A).tup _ _ h5) (.ints _), wf, soa, fun os pB JB oB hB xB => ?_⟩
      have yB := yA.trans xB
      refine ⟨_, rfl, [], .tuple (os.map .int), .tuple (told.map .int), .tup hB (.ints _), .tup (yB.tup _ _ hua) (.ints _), lay_ints _, lay_ints _, depth_tup _, ?_⟩
      rw [eqv_tups]
      have x2B := x2A.trans xB
      have x6B := x6A.trans xB
      refine ⟨_, rfl, _, rfl, _, rfl, [], many, ts.map turnT, o, _, _, rfl, (rF2 []).ext x2B, .tup (x6B.tup _ _ h6) (.ints _), wff, soo, fun os' pC JC oC hC xC => ?_⟩
      have x2C := x2B.trans xC
      have x6C := x6B.trans xC
      have yC := y2.trans x2C
      have same : decide (os' = due) = decide (os = told) := by
        have := turned_odds oo oB oC rtold od
        by_cases h : os = told
        · rw [decide_eq_true h, decide_eq_true (this.mpr h)]
        · rw [decide_eq_false h, decide_eq_false fun z => h (this.mp z)]
      refine ⟨_, rfl, [], .tuple (os'.map .int), .tuple (due.map .int), .tup hC (.ints _), .tup (x2C.tup _ _ hd) (.ints _), lay_ints _, lay_ints _, depth_tup _, ?_⟩
      rw [eqv_tups, same]
      generalize decide (os = told) = g
      refine ⟨rfl, _, rfl, ?_⟩
      have hgg : (!decide (V.bl g = V.bl g)) = false := by simp
      rw [hgg]
      -- kept
      have hpC := ((x5.trans x6).trans x6C).keep _ _ (by simp) hp4
      have hoC := ((x5.trans x6).trans x6C).keep _ _ (by simp) ho4
      refine ⟨_, rfl, .inl ⟨rfl, _, SqL.of hpC⟩, _, rfl, _, rfl, S, many, ts, a, _, _, rfl, rw0.ext (yC.mono (by simp)), .tup ((x6.trans x6C).tup _ _ h5) (.ints _), wf, soa, fun JD xD => ⟨by show 1 ≤ sizeLine; decide, fun lE hlE => ?_⟩⟩
      have xE : Ext [] JD (upd JD lE (.lst [.int (paidOf ts a)])) := .new hlE
      have hE : (upd JD lE (.lst [.int (paidOf ts a)])) lE = some (.lst [.int (paidOf ts a)]) := upd_same
      generalize upd JD lE (.lst [.int (paidOf ts a)]) = JE at xE hE ⊢
      have gb : -(2 ^ 63) ≤ (if g = true then (1 : Int) else 0) ∧ (if g = true then (1 : Int) else 0) < 2 ^ 63 ∧ [V.int (paidOf ts a)].length * (if g = true then (1 : Int) else 0).toNat ≤ sizeLine := by cases g <;> exact ⟨by decide, by decide, by first | decide | (simp; done) | (simp; omega)⟩
      refine ⟨_, rfl, .inr ⟨g, rfl, lE, _, _, rfl, rfl, hE, gb.1, gb.2.1, gb.2.2, fun pG hpG => ?_⟩⟩
      rw [rep_bool]
      have xG : Ext [] JE (upd JE pG (.lst ((if g = true then [paidOf ts a] else []).map V.int))) := .new hpG
      have hG : (upd JE pG (.lst ((if g = true then [paidOf ts a] else []).map V.int))) pG = some (.lst ((if g = true then [paidOf ts a] else []).map V.int)) := upd_same
      generalize upd JE pG (.lst ((if g = true then [paidOf ts a] else []).map V.int)) = JG at xG hG ⊢
      have xCG := (xD.trans xE).trans xG
      have gl : ∀ x : Int, (if g = true then [x] else []).length ≤ 1 := fun x => by cases g <;> simp
      have gl1 := gl (paidOf ts a)
      have gl2 := gl (paidOf (ts.map turnT) o)
      have hpG := xCG.keep _ _ (by simp) hpC
      have hoG := xCG.keep _ _ (by simp) hoC
      refine ⟨lp, pG, _, _, rfl, rfl, hpG, hG, by rw [List.length_map, List.length_map]; omega, ?_⟩
      rw [← List.map_append]
      have x2G := x2C.trans xCG
      have x2H : Ext [] J2 (upd JG lp (.lst ((Ps ++ if g = true then [paidOf ts a] else []).map V.int))) := x2G.set' hlp hpG
      have hpH : (upd JG lp (.lst ((Ps ++ if g = true then [paidOf ts a] else []).map V.int))) lp = some (.lst ((Ps ++ if g = true then [paidOf ts a] else []).map V.int)) := upd_same
      have hoH : (upd JG lp (.lst ((Ps ++ if g = true then [paidOf ts a] else []).map V.int))) lo = some (.lst ((Ps.map (· - paidOf ts (underOf ts))).map V.int)) := by rw [upd_ne hne.symm]; exact hoG
      have h6H : (upd JG lp (.lst ((Ps ++ if g = true then [paidOf ts a] else []).map V.int))) p6 = some (.tup (o.map V.int)) := by
        have z := (x6C.trans xCG).tup _ _ h6
        rw [upd_ne (fun e => by rw [e, hpG] at z; cases z)]
        exact z
      generalize upd JG lp (.lst ((Ps ++ if g = true then [paidOf ts a] else []).map V.int)) = JH at x2H hpH hoH h6H ⊢
      refine ⟨_, rfl, .inl ⟨rfl, _, SqL.of hoH⟩, _, rfl, _, rfl, [], many, ts.map turnT, o, _, _, rfl, (rF2 []).ext x2H, .tup h6H (.ints _), wff, soo, fun JI xI => ⟨by show 1 ≤ sizeLine; decide, fun lJ hlJ => ?_⟩⟩
      have xJ : Ext [] JI (upd JI lJ (.lst [.int (paidOf (ts.map turnT) o)])) := .new hlJ
      have hJ : (upd JI lJ (.lst [.int (paidOf (ts.map turnT) o)])) lJ = some (.lst [.int (paidOf (ts.map turnT) o)]) := upd_same
      generalize upd JI lJ (.lst [.int (paidOf (ts.map turnT) o)]) = JJ at xJ hJ ⊢
      refine ⟨_, rfl, .inr ⟨g, rfl, lJ, _, _, rfl, rfl, hJ, gb.1, gb.2.1, gb.2.2, fun pK hpK => ?_⟩⟩
      rw [rep_bool]
      have xK : Ext [] JJ (upd JJ pK (.lst ((if g = true then [paidOf (ts.map turnT) o] else []).map V.int))) := .new hpK
      have hK : (upd JJ pK (.lst ((if g = true then [paidOf (ts.map turnT) o] else []).map V.int))) pK = some (.lst ((if g = true then [paidOf (ts.map turnT) o] else []).map V.int)) := upd_same
      generalize upd JJ pK (.lst ((if g = true then [paidOf (ts.map turnT) o] else []).map V.int)) = JK at xK hK ⊢
      have xHK := (xI.trans xJ).trans xK
      have hoK := xHK.keep _ _ (by simp) hoH
      have hpK := xHK.keep _ _ (by simp) hpH
      refine ⟨lo, pK, _, _, rfl, rfl, hoK, hK, by rw [List.length_map, List.length_map, List.length_map]; omega, ⟨_, _, _, _, rfl⟩, ⟨Ps ++ if g = true then [paidOf ts a] else [], ?_, ?_, ?_⟩, (x2H.trans xHK).set' hlo2 hoK⟩
      · rw [upd_ne hne]
        exact hpK
      · rw [upd_same]
        refine congrArg (fun z => some (HO.lst z)) ?_
        rw [← List.map_append]
        refine congrArg (fun z => List.map V.int z) ?_
        rw [List.map_append]
        refine congrArg (fun z => List.map (fun x => x - paidOf ts (underOf ts)) Ps ++ z) ?_
        cases g
        · rfl
        · simp
          omega
      · rw [List.length_append]
        omega
    · rintro σ' J4 ⟨⟨s6, s7, s8, s9, rfl⟩, ⟨Ps, hp4, ho4, lP⟩, x4⟩
      have y4 := y2.trans x4
      refine ⟨_, rfl, Nat.zero_le _, fun pe hpe => ?_⟩
      have x5 : Ext [] J4 (upd J4 pe (.lst [])) := .new hpe
      have h5 : (upd J4 pe (.lst [])) pe = some (.lst []) := upd_same
      generalize upd J4 pe (.lst []) = J5 at x5 h5 ⊢
      have hp5 := x5.keep _ _ (by simp) hp4
      have ho5 := x5.keep _ _ (by simp) ho4
      refine ⟨[], .list (Ps.map .int), .list [], .lst hp5 (by simp) (.ints _), .lst h5 (by simp) .nil, by simpa [PyData.canLay0] using canLay_ints Ps, by simp [PyData.canLay0, PyData.canLayAll0], by simp [PyData.depth, depth_ints], _, rfl, ?_⟩
      rw [if_neg Bool.false_ne_true, eqv_nil]
      have yZ := y4.trans x5
      cases Ps with
      | nil => exact q _ yZ
      | cons P0 Pr =>
        refine ⟨_, rfl, .inl ⟨rfl, _, SqL.of hp5⟩, _, rfl, lp, P0 :: Pr, rfl, SqL.of hp5, by simp, fun M hM hle => ?_⟩
        obtain ⟨j, hj, hfirst⟩ := first_at hM
        refine ⟨lp, P0 :: Pr, M, j, rfl, rfl, hp5, hj, hfirst, ?_⟩
        refine ⟨_, rfl, .inl ⟨rfl, _, SqL.of ho5⟩, _, rfl, lo, (P0 :: Pr).map (· - paidOf ts (underOf ts)), rfl, SqL.of ho5, by simp, fun M2 hM2 hle2 => ?_⟩
        have e2 : M2 = M - paidOf ts (underOf ts) := by
          obtain ⟨p, hp, e⟩ := List.mem_map.mp hM2
          have a1 := hle p hp
          have a2 := hle2 (M - paidOf ts (underOf ts)) (List.mem_map.mpr ⟨M, hM, rfl⟩)
          omega
        subst e2
        refine ⟨lo, (P0 :: Pr).map (· - paidOf ts (underOf ts)), _, j, rfl, rfl, ho5, by rw [List.getElem?_map, hj]; rfl, fun i hi z => ?_, rfl, ?_⟩
        · rw [List.getElem?_map] at z
          cases e : (P0 :: Pr)[i]? with
          | none => rw [e] at z; cases z
          | some p =>
            rw [e] at z
            have z' : p - paidOf ts (underOf ts) = M - paidOf ts (underOf ts) := Option.some.inj z
            have : p = M := by omega
            exact hfirst i hi (by rw [e, this])
        · have : decide (V.int (j : Int) = V.int (j : Int)) = true := by simp
          rw [this]
          exact q _ yZ
end
end Odj

set_option Elab.async false
set_option linter.all false
set_option maxRecDepth 100000
set_option maxHeartbeats 8000000
namespace Odj
open PySem L2
def downT (t : Tie) : Tie := (t.1, t.2.1, -(if -t.2.2 > t.2.2 then -t.2.2 else t.2.2))
theorem down_fn {many : Int} {ts : List Tie} (w : WebFn many ts) : WebFn many (ts.map downT) := ⟨w.m0, w.m1, by rw [List.length_map]; exact w.len, fun t ht => by
  obtain ⟨u, hu, rfl⟩ := List.mem_map.mp ht
  have o := w.ok u hu
  have p0 := o.p0
  have p1 := o.p1
  refine ⟨o.a0, o.ab, o.bm, ?_, ?_⟩ <;> (unfold downT; simp only; split <;> omega)⟩
section
variable {P : Program} {w : World} {K : PySem.W.Frag} {mg : Str → Option Value} {base : Heap} {f : Addr} {fd : FuncData}
theorem d_law (F : Fun K "law" "law" (top 21) f fd) (B : Bt mg) (B2 : Bt2 mg) (B3 : Bt3 mg) (D_law_feed : DefOk P w K mg base 1 "_law_feed" ["_law_script"] (spFeed K)) (D_law_web : DefOk P w K mg base 3 "_law_web" ["_law_feed_here", "_law_most", "_law_ties", "_law_signed"] spWeb)
    (D_law_some : DefOk P w K mg base 2 "_law_some" ["_law_feed_here", "_law_many"] spSomeR) (D_law_plain_right : DefOk P w K mg base 4 "_law_plain_right" ["_law_web_here", "_law_told", "_law_some_here"] spPlain) (D_law_odds : DefOk P w K mg base 1 "_law_odds" ["_law_web_here", "_law_some_here"] spOddsOf)
    (D_law_sets_right : DefOk P w K mg base 4 "_law_sets_right" ["_law_web_here", "_law_told"] spSetsT) : FnOk P w K mg base CX0 20 f fd ["_law_script"] (spLaw K) := by
  have sc : FnScope ["_law_script", "_law_feed_here", "_law_k", "_law_web_here", "_law_j"] ["_law_script"] (defScope (top 21)) := ⟨rfl, rfl, rfl, by decide +kernel, rfl, by decide +kernel, by decide +kernel⟩
  refine F.okQ (k := 19) sc (fun vs H Q E h => ?_) (fun cdv A outer s H vs Q E hr h => ?_)
  · obtain ⟨_, _, rfl, _⟩ := h
    rfl
  obtain ⟨a, ns, rfl, hsq, hlen, q⟩ := h
  have hsz : sizeLine = 16777216 := by decide
  have hmo : most = 1099511627776 := rfl
  refine ⟨_, (qss_cons (qs_set (i := 1) sc.nd rfl (Or.inl rfl) (qe_callD D_law_feed (hr.mono (by decide)) (qa_c (qv 0) qa_nil)))
      (qss_cons (qs_for PassesOwn.never rfl (qi_range1 (by rfl) B2.range (qa_c qe_int qa_nil)) (qg_name (i := 2) sc.nd rfl (Or.inl rfl)) (qss_cons (qs_set (i := 3) sc.nd rfl (Or.inl rfl) (qe_callD D_law_web (hr.mono (by decide)) (qa_c (qv 1) (qa_c qe_int (qa_c qe_int (qa_c (qe_cmpR op_ne (qv 2) qe_int (nomark _)) qa_nil))))))
      (qss_cut (qs_if (qt_cmpR op_eq (qv 2) qe_int (nomark _)) (qss_one (qs_set (i := 3) sc.nd rfl (Or.inl rfl) (qe_tup (qa_c (qe_ix (ixT K) (qv 3) qe_int (fun _ _ => rfl)) (qa_c (qe_callTy (tupleK K) (by rfl) B.tuple (by decide +kernel) (qa_c (qe_comp (N := ["_law_a", "_law_b", "_law_price_here"]) (mp := [none, none, none]) rfl (qi_tupK K (qe_ix (ixT K) (qv 3) qe_int (fun _ _ => rfl))) rfl (by show compOk ["_law_script", "_law_feed_here", "_law_k", "_law_web_here", "_law_j"] (defScope (top 21)) _ _ _ = true; decide +kernel) fun _ _ _ _ _ => ⟨(qg_tupK (n := 3) K rfl (qgs_cons (qg_name (i := 0) (by show List.Nodup [("_law_a" : Str), ("_law_b" : Str), ("_law_price_here" : Str)]; decide +kernel) rfl (Or.inl rfl)) (qgs_cons (qg_name (i := 1) (by show List.Nodup [("_law_a" : Str), ("_law_b" : Str), ("_law_price_here" : Str)]; decide +kernel) rfl (Or.inl rfl)) (qgs_cons (qg_name (i := 2) (by show List.Nodup [("_law_a" : Str), ("_law_b" : Str), ("_law_price_here" : Str)]; decide +kernel) rfl (Or.inl rfl)) qgs_nil)))), qk_nil, (qe_tup (qa_c (qv 0) (qa_c (qv 1) (qa_c (qe_un un_neg (qe_callB (call_max2 rfl) (by rfl) B3.max (by decide +kernel) (qa_c (qv 2) (qa_c (qe_un un_neg (qv 2)) qa_nil)))) qa_nil))))⟩) qa_nil)) qa_nil))))) qss_nil)
      (qss_one (qs_for PassesOwn.never rfl (qi_range1 (by rfl) B2.range (qa_c qe_int qa_nil)) (qg_name (i := 4) sc.nd rfl (Or.inl rfl)) (qss_one (qs_if (qt_not (qt_val (qe_callD D_law_plain_right (hr.mono (by decide)) (qa_c (qv 3) (qa_c (qe_callD D_law_some (hr.mono (by decide)) (qa_c (qv 1) (qa_c (qe_ix (ixT K) (qv 3) qe_int (fun _ _ => rfl)) qa_nil))) (qa_c (qe_callD D_law_some (hr.mono (by decide)) (qa_c (qv 1) (qa_c (qe_callB (lenK K) (by rfl) B.len (by decide +kernel) (qa_c (qe_ix (ixT K) (qv 3) qe_int (fun _ _ => rfl)) qa_nil)) qa_nil))) qa_nil)))))) (qss_one (qs_ret qe_bl)) qss_nil)))))))
      (qss_cons (qs_for PassesOwn.never rfl (qi_range1 (by rfl) B2.range (qa_c qe_int qa_nil)) (qg_name (i := 2) sc.nd rfl (Or.inl rfl)) (qss_cons (qs_set (i := 3) sc.nd rfl (Or.inl rfl) (qe_callD D_law_web (hr.mono (by decide)) (qa_c (qv 1) (qa_c qe_int (qa_c qe_int (qa_c qe_bl qa_nil))))))
      (qss_one (qs_if (qt_not (qt_val (qe_callD D_law_sets_right (hr.mono (by decide)) (qa_c (qv 3) (qa_c (qe_callD D_law_odds (hr.mono (by decide)) (qa_c (qv 3) (qa_c (qe_callD D_law_some (hr.mono (by decide)) (qa_c (qv 1) (qa_c (qe_callB (lenK K) (by rfl) B.len (by decide +kernel) (qa_c (qe_ix (ixT K) (qv 3) qe_int (fun _ _ => rfl)) qa_nil)) qa_nil))) qa_nil))) qa_nil))))) (qss_one (qs_ret qe_bl)) qss_nil))))
      (qss_one (qs_ret qe_bl))))), ?_⟩
  refine ⟨_, rfl, a, ns, rfl, hsq, fun fa sa H1 f1 x1 e1 e2 => ?_⟩
  refine ⟨4, rfl, by decide, by decide, for_range (n := 4) (fun i σ' H' => (∃ s2 s3 s4, σ' = [some (.ref a), some (.ref fa), s2, s3, s4]) ∧ ∃ n', Feed H' fa sa n' ∧ n' ≤ 10000 * i) ⟨⟨_, _, _, rfl⟩, 0, f1, by omega⟩ ?_ ?_⟩
  · rintro i σ' H2 hi ⟨⟨s2, s3, s4, rfl⟩, n2, f2, hn2⟩
    have nlo := f2.lo
    refine ⟨_, rfl, _, rfl, rfl, fa, sa, n2, 9, 16, _, rfl, f2, by decide, by decide, by decide, by decide, by omega, fun many ts v n3 H3 rv m0 m1 tl tok k0 k1 f3 x3 => ?_⟩
    have tl' : ts.length ≤ 16 := by omega
    have wf : WebFn many ts := ⟨m0, by omega, by omega, fun t ht => ⟨(tok t ht).a0, (tok t ht).ab, (tok t ht).bm, (tok t ht).p0, (tok t ht).p1⟩⟩
    refine ⟨fun σ' H' => ∃ v us, σ' = [some (.ref a), some (.ref fa), some (.int (0 + (i : Int))), some v, s4] ∧ Rep [fa] H' (webD many (us.map tieD)) v ∧ WebFn many us ∧ us.length ≤ 16 ∧ Feed H' fa sa n3, ?_, ?_⟩
    · refine ⟨_, rfl, rfl, _, rfl, ite2 (fun hz => ?_) (fun hz => ⟨v, ts, rfl, rv, wf, tl', f3⟩)⟩
      obtain ⟨wa, wt, txs, rfl, ha, hb, rt⟩ := web_of rv
      have hxl := rt.length
      rw [List.length_map] at hxl
      refine ⟨_, rfl, wa, _, 0, _, rfl, rfl, SqT.of ha, rfl, _, rfl, wa, _, 1, _, rfl, rfl, SqT.of ha, rfl, wt, rfl, ⟨_, SqT.of hb⟩, comp_tup (K := K) (a := wt) (xs := txs) (fun i ys σ' H' => (∃ y1 y2 y3, σ' = [y1, y2, y3]) ∧ Ext [] H3 H' ∧ Ties H' ((ts.take i).map downT) ys) ⟨⟨none, none, none, rfl⟩, .refl _ _, .nil⟩
        (fun i ys σ' H' e => SqT.of (e.2.1.tup _ _ hb)) ?_ ?_⟩
      · rintro i x ys σ' H' hx ⟨⟨z1, z2, z3, rfl⟩, x1, tt⟩
        have hi : i < txs.length := (List.getElem?_eq_some_iff.mp hx).1
        have hyl := tt.length
        rw [List.length_map, List.length_take] at hyl
        obtain ⟨t, p, ht1, ht2, rfl, ht5⟩ := tie_nth rt hx
        have hp2 := x1.tup _ _ ht5
        refine ⟨by omega, p, _, rfl, SqT.of hp2, rfl, _, _, rfl, _, _, rfl, _, _, rfl, rfl, _, rfl, _, rfl, _, rfl, _, rfl, _, rfl, _, _, rfl, _, rfl, by show 3 ≤ sizeLine; decide, fun T hT => ⟨⟨_, _, _, rfl⟩, x1.trans (.new hT), ?_⟩⟩
        rw [List.take_add_one, ht1, List.map_append]
        exact (tt.ext (S := []) (.new hT)).append (.one (t := downT t) upd_same)
      rintro ys σ' J2 ⟨⟨z1, z2, z3, rfl⟩, x2, tt⟩
      have hyl := tt.length
      rw [List.length_map, List.length_take] at hyl
      rw [List.take_of_length_le (by omega)] at tt
      refine ⟨by omega, fun D hD => ⟨D, _, rfl, .inl ⟨SqL.of upd_same, fun l hl => ⟨by show 2 ≤ sizeLine; decide, fun p2 hp2 => ?_⟩⟩⟩⟩
      have xa : Ext [] J2 (upd J2 D (.lst ys)) := .new hD
      generalize upd J2 D (.lst ys) = J2a at xa hl hp2 ⊢
      have xb : Ext [] J2a (upd J2a l (.tup ys)) := .new hl
      have hbb : (upd J2a l (.tup ys)) l = some (.tup ys) := upd_same
      generalize upd J2a l (.tup ys) = J2b at xb hbb hp2 ⊢
      have xc : Ext [] J2b (upd J2b p2 (.tup [.int many, .ref l])) := .new hp2
      refine ⟨.ref p2, ts.map downT, rfl, .tup upd_same (.cons (.int _) (.cons (.tup (xc.tup _ _ hbb) ((((tt.ext xa).ext xb).ext xc) [fa])) .nil)), down_fn wf, by rw [List.length_map]; omega, f3.ext (((x2.trans xa).trans xb).trans xc) (by simp) (by simp)⟩
    · rintro σ' H4 ⟨v, us, rfl, rv4, wf4, ul, f4⟩
      refine ⟨3, rfl, by decide, by decide, for_range (n := 3) (D := { nx := _, rt := Q }) (fun j σ' H' => (∃ s4, σ' = [some (.ref a), some (.ref fa), some (.int (0 + (i : Int))), some v, s4]) ∧ Rep [fa] H' (webD many (us.map tieD)) v ∧ ∃ n', Feed H' fa sa n' ∧ n' ≤ n3 + 500 * j) ⟨⟨_, rfl⟩, rv4, n3, f4, by omega⟩ ?_ ?_⟩
      · rintro j σ' J0 hj ⟨⟨s4, rfl⟩, wJ, nJ, fJ, hnJ⟩
        have jlo := fJ.lo
        obtain ⟨wa, wt, txs, rfl, ha, hb, rtx⟩ := web_of wJ
        have htl := rtx.length
        rw [List.length_map] at htl
        refine ⟨_, rfl, _, rfl, _, rfl, wa, _, 0, _, rfl, rfl, SqT.of ha, rfl, fa, sa, nJ, many, rfl, fJ, by omega, by omega, by omega, fun c1 v1 n1 J1 r1 ri1 l1 b1 k0 k1 f1' x1' => ?_⟩
        refine ⟨_, rfl, _, rfl, wa, _, 1, _, rfl, rfl, SqT.of (x1'.tup _ _ ha), rfl, wt, txs, rfl, .inr (SqT.of (x1'.tup _ _ hb)), fa, sa, n1, _, rfl, f1', by omega, by omega, by omega, fun c2 v2 n2' J2 r2 ri2 l2 b2 k2 k3 f2' x2' => ?_⟩
        refine ⟨[fa], many, us, c1, c2, _, _, _, rfl, wJ.ext (x1'.trans x2'), r1.ext x2', r2, wf4, by omega, ul, ri1, b1, ri2, fun k hk => by have := b2 k hk; omega, fun J3 x3' => ⟨_, rfl, ?_⟩⟩
        exact ⟨⟨_, rfl⟩, (wJ.ext (x1'.trans x2')).ext (x3'.mono (by simp)), n2', f2'.ext x3' (by simp) (by simp), by omega⟩
      · rintro σ' J0 ⟨⟨s4, rfl⟩, wJ, nJ, fJ, hnJ⟩
        exact ⟨⟨_, _, _, rfl⟩, nJ, fJ, by omega⟩
  · rintro σ' H2 ⟨⟨s2, s3, s4, rfl⟩, n2, f2, hn2⟩
    refine ⟨2, rfl, by decide, by decide, for_range (n := 2) (D := { nx := _, rt := Q }) (fun i σ' H' => (∃ s2 s3 s4, σ' = [some (.ref a), some (.ref fa), s2, s3, s4]) ∧ ∃ n', Feed H' fa sa n' ∧ n' ≤ 40000 + 10000 * i) ⟨⟨_, _, _, rfl⟩, n2, f2, by omega⟩ ?_ (fun σ' H' _ => q H')⟩
    rintro i σ' H3 hi ⟨⟨s2, s3, s4, rfl⟩, n3, f3, hn3⟩
    have nlo := f3.lo
    refine ⟨_, rfl, fa, sa, n3, 5, 6, true, rfl, f3, by decide, by decide, by decide, by decide, by omega, fun many ts v n4 H4 rv m0 m1 tl tok k0 k1 f4 x4 => ?_⟩
    have tl' : ts.length ≤ 6 := by omega
    have wf : WebFn many ts := ⟨m0, by omega, by omega, fun t ht => ⟨(tok t ht).a0, (tok t ht).ab, (tok t ht).bm, (tok t ht).p0, (tok t ht).p1⟩⟩
    obtain ⟨wa, wt, txs, rfl, ha, hb, rtx⟩ := web_of rv
    have htl := rtx.length
    rw [List.length_map] at htl
    have n4lo := f4.lo
    refine ⟨_, rfl, _, rfl, _, rfl, _, rfl, wa, _, 1, _, rfl, rfl, SqT.of ha, rfl, wt, txs, rfl, .inr (SqT.of hb), fa, sa, n4, _, rfl, f4, by omega, by omega, by omega, fun c1 v1 n5 J1 r1 ri1 l1 b1 k2 k3 f5 x5 => ?_⟩
    refine ⟨[fa], many, ts, c1, _, _, rfl, rv.ext x5, r1, wf, ⟨fun k hk => by have := b1 k hk; omega, by omega⟩, fun os p6 J6 o6 h6 x6 => ?_⟩
    have bo := odd_bound o6 (ends_in wf c1)
    refine ⟨[fa], many, ts, os, _, _, rfl, (rv.ext x5).ext (x6.mono (by simp)), .tup h6 (.ints _), wf, by omega, tl', o6.1, by omega, fun J7 x7 => ⟨_, rfl, ?_⟩⟩
    exact ⟨⟨_, _, _, rfl⟩, n5, f5.ext (x6.trans x7) (by simp) (by simp), by omega⟩
end
end Odj

set_option Elab.async false
set_option linter.all false
set_option maxRecDepth 100000
set_option maxHeartbeats 8000000
namespace Odj
open PySem L2
theorem all_mk {l : PySem.W.OpenLaw} {w : World} {K : PySem.W.Frag} {h : Heap} {mg : Str → Option Value} {fa : Addr} {f1 f3 f4 f5 f7 f8 f9 f10 f12 f13 f14 f15 f16 f17 f18 f19 f20 f21 : Addr} {od1 an1 od3 an3 od4 an4 od5 an5 od7 an7 od8 an8 od9 an9 od10 an10 od12 an12 od13 an13 od14 an14 od15 an15 od16 an16 od17 an17 od18 an18 od19 an19 od20 an20 od21 an21 : Option Addr} {sl1 sl3 sl4 sl5 sl7 sl8 sl9 sl10 sl12 sl13 sl14 sl15 sl16 sl17 sl18 sl19 sl20 sl21 : Array (Option Value)} {oc1 kV1 dc1 pm1 cd1 ct1 oc3 kV3 dc3 pm3 cd3 ct3 oc4 kV4 dc4 pm4 cd4 ct4 oc5 kV5 dc5 pm5 cd5 ct5 oc7 kV7 dc7 pm7 cd7 ct7 oc8 kV8 dc8 pm8 cd8 ct8 oc9 kV9 dc9 pm9 cd9 ct9 oc10 kV10 dc10 pm10 cd10 ct10 oc12 kV12 dc12 pm12 cd12 ct12 oc13 kV13 dc13 pm13 cd13 ct13 oc14 kV14 dc14 pm14 cd14 ct14 oc15 kV15 dc15 pm15 cd15 ct15 oc16 kV16 dc16 pm16 cd16 ct16 oc17 kV17 dc17 pm17 cd17 ct17 oc18 kV18 dc18 pm18 cd18 ct18 oc19 kV19 dc19 pm19 cd19 ct19 oc20 kV20 dc20 pm20 cd20 ct20 oc21 kV21 dc21 pm21 cd21 ct21 : Value} (X : K.In h) (G : h.Ns mainGlobals mg) (hfa : mg "law" = some (.ref fa))
    (a1 : PySem.W.nsIn K mainGlobals "odd_ones" = some (some (.ref f1))) (l1 : K.lookup f1 = some ⟨oc1, od1, .func (PySem.W.fnOf "odd_ones" "odd_ones" (defArgs (top 1)) (defBody (top 1)) (defScope (top 1)) .none kV1 dc1 pm1 an1 cd1 ct1), sl1⟩) (c1 : PySem.W.codeIn K cd1 "odd_ones" = true) (k1 : PySem.W.keepIn K (.ref f1) = true)
    (a3 : PySem.W.nsIn K mainGlobals "by_turns" = some (some (.ref f3))) (l3 : K.lookup f3 = some ⟨oc3, od3, .func (PySem.W.fnOf "by_turns" "by_turns" (defArgs (top 3)) (defBody (top 3)) (defScope (top 3)) .none kV3 dc3 pm3 an3 cd3 ct3), sl3⟩) (c3 : PySem.W.codeIn K cd3 "by_turns" = true) (k3 : PySem.W.keepIn K (.ref f3) = true)
    (a4 : PySem.W.nsIn K mainGlobals "odds_of" = some (some (.ref f4))) (l4 : K.lookup f4 = some ⟨oc4, od4, .func (PySem.W.fnOf "odds_of" "odds_of" (defArgs (top 4)) (defBody (top 4)) (defScope (top 4)) .none kV4 dc4 pm4 an4 cd4 ct4), sl4⟩) (c4 : PySem.W.codeIn K cd4 "odds_of" = true) (k4 : PySem.W.keepIn K (.ref f4) = true)
    (a5 : PySem.W.nsIn K mainGlobals "price_of" = some (some (.ref f5))) (l5 : K.lookup f5 = some ⟨oc5, od5, .func (PySem.W.fnOf "price_of" "price_of" (defArgs (top 5)) (defBody (top 5)) (defScope (top 5)) .none kV5 dc5 pm5 an5 cd5 ct5), sl5⟩) (c5 : PySem.W.codeIn K cd5 "price_of" = true) (k5 : PySem.W.keepIn K (.ref f5) = true)
    (a7 : PySem.W.nsIn K mainGlobals "below" = some (some (.ref f7))) (l7 : K.lookup f7 = some ⟨oc7, od7, .func (PySem.W.fnOf "below" "below" (defArgs (top 7)) (defBody (top 7)) (defScope (top 7)) .none kV7 dc7 pm7 an7 cd7 ct7), sl7⟩) (c7 : PySem.W.codeIn K cd7 "below" = true) (k7 : PySem.W.keepIn K (.ref f7) = true)
    (a8 : PySem.W.nsIn K mainGlobals "turned" = some (some (.ref f8))) (l8 : K.lookup f8 = some ⟨oc8, od8, .func (PySem.W.fnOf "turned" "turned" (defArgs (top 8)) (defBody (top 8)) (defScope (top 8)) .none kV8 dc8 pm8 an8 cd8 ct8), sl8⟩) (c8 : PySem.W.codeIn K cd8 "turned" = true) (k8 : PySem.W.keepIn K (.ref f8) = true)
    (a9 : PySem.W.nsIn K mainGlobals "turned_told" = some (some (.ref f9))) (l9 : K.lookup f9 = some ⟨oc9, od9, .func (PySem.W.fnOf "turned_told" "turned_told" (defArgs (top 9)) (defBody (top 9)) (defScope (top 9)) .none kV9 dc9 pm9 an9 cd9 ct9), sl9⟩) (c9 : PySem.W.codeIn K cd9 "turned_told" = true) (k9 : PySem.W.keepIn K (.ref f9) = true)
    (a10 : PySem.W.nsIn K mainGlobals "turned_set" = some (some (.ref f10))) (l10 : K.lookup f10 = some ⟨oc10, od10, .func (PySem.W.fnOf "turned_set" "turned_set" (defArgs (top 10)) (defBody (top 10)) (defScope (top 10)) .none kV10 dc10 pm10 an10 cd10 ct10), sl10⟩) (c10 : PySem.W.codeIn K cd10 "turned_set" = true) (k10 : PySem.W.keepIn K (.ref f10) = true)
    (a12 : PySem.W.nsIn K mainGlobals "_law_feed" = some (some (.ref f12))) (l12 : K.lookup f12 = some ⟨oc12, od12, .func (PySem.W.fnOf "_law_feed" "_law_feed" (defArgs (top 12)) (defBody (top 12)) (defScope (top 12)) .none kV12 dc12 pm12 an12 cd12 ct12), sl12⟩) (c12 : PySem.W.codeIn K cd12 "_law_feed" = true) (k12 : PySem.W.keepIn K (.ref f12) = true)
    (a13 : PySem.W.nsIn K mainGlobals "_law_draw" = some (some (.ref f13))) (l13 : K.lookup f13 = some ⟨oc13, od13, .func (PySem.W.fnOf "_law_draw" "_law_draw" (defArgs (top 13)) (defBody (top 13)) (defScope (top 13)) .none kV13 dc13 pm13 an13 cd13 ct13), sl13⟩) (c13 : PySem.W.codeIn K cd13 "_law_draw" = true) (k13 : PySem.W.keepIn K (.ref f13) = true)
    (a14 : PySem.W.nsIn K mainGlobals "_law_price" = some (some (.ref f14))) (l14 : K.lookup f14 = some ⟨oc14, od14, .func (PySem.W.fnOf "_law_price" "_law_price" (defArgs (top 14)) (defBody (top 14)) (defScope (top 14)) .none kV14 dc14 pm14 an14 cd14 ct14), sl14⟩) (c14 : PySem.W.codeIn K cd14 "_law_price" = true) (k14 : PySem.W.keepIn K (.ref f14) = true)
    (a15 : PySem.W.nsIn K mainGlobals "_law_web" = some (some (.ref f15))) (l15 : K.lookup f15 = some ⟨oc15, od15, .func (PySem.W.fnOf "_law_web" "_law_web" (defArgs (top 15)) (defBody (top 15)) (defScope (top 15)) .none kV15 dc15 pm15 an15 cd15 ct15), sl15⟩) (c15 : PySem.W.codeIn K cd15 "_law_web" = true) (k15 : PySem.W.keepIn K (.ref f15) = true)
    (a16 : PySem.W.nsIn K mainGlobals "_law_some" = some (some (.ref f16))) (l16 : K.lookup f16 = some ⟨oc16, od16, .func (PySem.W.fnOf "_law_some" "_law_some" (defArgs (top 16)) (defBody (top 16)) (defScope (top 16)) .none kV16 dc16 pm16 an16 cd16 ct16), sl16⟩) (c16 : PySem.W.codeIn K cd16 "_law_some" = true) (k16 : PySem.W.keepIn K (.ref f16) = true)
    (a17 : PySem.W.nsIn K mainGlobals "_law_odds" = some (some (.ref f17))) (l17 : K.lookup f17 = some ⟨oc17, od17, .func (PySem.W.fnOf "_law_odds" "_law_odds" (defArgs (top 17)) (defBody (top 17)) (defScope (top 17)) .none kV17 dc17 pm17 an17 cd17 ct17), sl17⟩) (c17 : PySem.W.codeIn K cd17 "_law_odds" = true) (k17 : PySem.W.keepIn K (.ref f17) = true)
    (a18 : PySem.W.nsIn K mainGlobals "_law_turns" = some (some (.ref f18))) (l18 : K.lookup f18 = some ⟨oc18, od18, .func (PySem.W.fnOf "_law_turns" "_law_turns" (defArgs (top 18)) (defBody (top 18)) (defScope (top 18)) .none kV18 dc18 pm18 an18 cd18 ct18), sl18⟩) (c18 : PySem.W.codeIn K cd18 "_law_turns" = true) (k18 : PySem.W.keepIn K (.ref f18) = true)
    (a19 : PySem.W.nsIn K mainGlobals "_law_plain_right" = some (some (.ref f19))) (l19 : K.lookup f19 = some ⟨oc19, od19, .func (PySem.W.fnOf "_law_plain_right" "_law_plain_right" (defArgs (top 19)) (defBody (top 19)) (defScope (top 19)) .none kV19 dc19 pm19 an19 cd19 ct19), sl19⟩) (c19 : PySem.W.codeIn K cd19 "_law_plain_right" = true) (k19 : PySem.W.keepIn K (.ref f19) = true)
    (a20 : PySem.W.nsIn K mainGlobals "_law_sets_right" = some (some (.ref f20))) (l20 : K.lookup f20 = some ⟨oc20, od20, .func (PySem.W.fnOf "_law_sets_right" "_law_sets_right" (defArgs (top 20)) (defBody (top 20)) (defScope (top 20)) .none kV20 dc20 pm20 an20 cd20 ct20), sl20⟩) (c20 : PySem.W.codeIn K cd20 "_law_sets_right" = true) (k20 : PySem.W.keepIn K (.ref f20) = true)
    (a21 : PySem.W.nsIn K mainGlobals "law" = some (some (.ref f21))) (l21 : K.lookup f21 = some ⟨oc21, od21, .func (PySem.W.fnOf "law" "law" (defArgs (top 21)) (defBody (top 21)) (defScope (top 21)) .none kV21 dc21 pm21 an21 cd21 ct21), sl21⟩) (c21 : PySem.W.codeIn K cd21 "law" = true) (k21 : PySem.W.keepIn K (.ref f21) = true)
    (z_isinstance : PySem.W.nsIn K mainGlobals "isinstance" = some none)
    (z_int : PySem.W.nsIn K mainGlobals "int" = some none)
    (z_bool : PySem.W.nsIn K mainGlobals "bool" = some none)
    (z_tuple : PySem.W.nsIn K mainGlobals "tuple" = some none)
    (z_len : PySem.W.nsIn K mainGlobals "len" = some none)
    (z_range : PySem.W.nsIn K mainGlobals "range" = some none)
    (z_list : PySem.W.nsIn K mainGlobals "list" = some none)
    (z_min : PySem.W.nsIn K mainGlobals "min" = some none)
    (z_max : PySem.W.nsIn K mainGlobals "max" = some none)
    (z_repr : PySem.W.nsIn K mainGlobals "repr" = some none)
    (z_sorted : PySem.W.nsIn K mainGlobals "sorted" = some none)
    (z_sum : PySem.W.nsIn K mainGlobals "sum" = some none)
    (z_enumerate : PySem.W.nsIn K mainGlobals "enumerate" = some none)
    (z_set : PySem.W.nsIn K mainGlobals "set" = some none)
    (z_abs : PySem.W.nsIn K mainGlobals "abs" = some none) :
    ∃ fd : FuncData, (∀ (s : Shared) (v : Value), BindsTo s fd ⟨[v], []⟩ [("_law_script", v)]) ∧ ∀ base : Heap, K.In base → base.Ns mainGlobals mg → FnOk l.prog w K mg base CX0 20 fa fd ["_law_script"] (spLaw K) := by
  have e := hfa.symm.trans (PySem.W.mg_of X G a21)
  cases e
  have F1 := fun_mk (st := top 1) l1 c1 k1
  have m1 := PySem.W.mg_of X G a1
  have F3 := fun_mk (st := top 3) l3 c3 k3
  have m3 := PySem.W.mg_of X G a3
  have F4 := fun_mk (st := top 4) l4 c4 k4
  have m4 := PySem.W.mg_of X G a4
  have F5 := fun_mk (st := top 5) l5 c5 k5
  have m5 := PySem.W.mg_of X G a5
  have F7 := fun_mk (st := top 7) l7 c7 k7
  have m7 := PySem.W.mg_of X G a7
  have F8 := fun_mk (st := top 8) l8 c8 k8
  have m8 := PySem.W.mg_of X G a8
  have F9 := fun_mk (st := top 9) l9 c9 k9
  have m9 := PySem.W.mg_of X G a9
  have F10 := fun_mk (st := top 10) l10 c10 k10
  have m10 := PySem.W.mg_of X G a10
  have F12 := fun_mk (st := top 12) l12 c12 k12
  have m12 := PySem.W.mg_of X G a12
  have F13 := fun_mk (st := top 13) l13 c13 k13
  have m13 := PySem.W.mg_of X G a13
  have F14 := fun_mk (st := top 14) l14 c14 k14
  have m14 := PySem.W.mg_of X G a14
  have F15 := fun_mk (st := top 15) l15 c15 k15
  have m15 := PySem.W.mg_of X G a15
  have F16 := fun_mk (st := top 16) l16 c16 k16
  have m16 := PySem.W.mg_of X G a16
  have F17 := fun_mk (st := top 17) l17 c17 k17
  have m17 := PySem.W.mg_of X G a17
  have F18 := fun_mk (st := top 18) l18 c18 k18
  have m18 := PySem.W.mg_of X G a18
  have F19 := fun_mk (st := top 19) l19 c19 k19
  have m19 := PySem.W.mg_of X G a19
  have F20 := fun_mk (st := top 20) l20 c20 k20
  have m20 := PySem.W.mg_of X G a20
  have F21 := fun_mk (st := top 21) l21 c21 k21
  have m21 := PySem.W.mg_of X G a21
  have B : Bt mg := ⟨PySem.W.mg_none_of X G z_isinstance, PySem.W.mg_none_of X G z_int, PySem.W.mg_none_of X G z_bool, PySem.W.mg_none_of X G z_tuple, PySem.W.mg_none_of X G z_len⟩
  have B2 : Bt2 mg := ⟨PySem.W.mg_none_of X G z_range⟩
  have B3 : Bt3 mg := ⟨PySem.W.mg_none_of X G z_list, PySem.W.mg_none_of X G z_min, PySem.W.mg_none_of X G z_max⟩
  have B5 : Bt5 mg := ⟨PySem.W.mg_none_of X G z_repr⟩
  have B7 : Bt7 mg := ⟨PySem.W.mg_none_of X G z_sorted, PySem.W.mg_none_of X G z_sum, PySem.W.mg_none_of X G z_enumerate⟩
  have B8 : Bt8 mg := ⟨PySem.W.mg_none_of X G z_set, PySem.W.mg_none_of X G z_sorted, PySem.W.mg_none_of X G z_enumerate⟩
  have B9 : Bt9 mg := ⟨PySem.W.mg_none_of X G z_abs⟩
  exact ⟨PySem.W.fnOf "law" "law" (defArgs (top 21)) (defBody (top 21)) (defScope (top 21)) .none kV21 dc21 pm21 an21 cd21 ct21, fun s v => .of_eq rfl, fun base _ _ => (by
    have dr := d_draw (P := l.prog) (w := w) (base := base) F13 m13 B
    have dp := d_price F14 m14 dr
    have oo := d_odd_ones (P := l.prog) (w := w) (base := base) F1 m1 B B7
    have bt := d_by_turns F3 m3 oo
    have od := d_odds_of F4 m4 oo
    have be := d_below (P := l.prog) (w := w) (base := base) F7 m7 B B7
    have tu := d_turned (P := l.prog) (w := w) (base := base) F8 m8 B B9
    have tt := d_turned_told F9 m9 bt od be
    have tz := d_turned_set F10 m10 bt be
    have lo := d_law_odds (P := l.prog) (w := w) (base := base) F17 m17 B B7
    exact d_law F21 B B2 B3 (d_feed F12 m12) (d_web F15 m15 B B2 dr dp) (d_someR F16 m16 B B2 dr) (d_law_plain_right F19 m19 B B2 B3 B5 (d_law_turns F18 m18 B B8) lo be tu tt tz) lo (d_law_sets_right F20 m20 B B2 B3 (d_price_of F5 m5 B7) od be tu tt tz))⟩
theorem walk {l : PySem.W.OpenLaw} {q : Program} {loose : List Str} {XP : (Str → Option Value) → Heap → Prop} {YP : World → Heap → Prop} {d : DefRec} {K : Params → PySem.W.Frag} (hn : l.most = some 63) (hdf : d.params.defaults = [])
    (hY : ∀ (w : World) (h : Heap), YP w h → (K w.params).In h)
    (F : ∀ (w : World) (mg : Str → Option Value) (fa : Addr) (h : Heap), (K w.params).In h → h.Ns mainGlobals mg → mg d.name = some (.ref fa) →
      ∃ fd : FuncData, (∀ (s : Shared) (u : Value), BindsTo s fd ⟨[u], []⟩ [("_law_script", u)]) ∧ ∀ base : Heap, (K w.params).In base → base.Ns mainGlobals mg → FnOk l.prog w (K w.params) mg base CX0 20 fa fd ["_law_script"] (spLaw (K w.params))) :
    PySem.W.WalkO q loose XP YP l.row.toRowW d [] (fun f vs => PySem.call f vs) :=
  L2.walk_of (n := 63) (k := 20) (x := "_law_script") (CX := fun _ => CX0) (sp := fun w => spLaw (K w.params)) hn (by decide) hdf ⟨rfl, by decide, by decide, rfl⟩ hY F (fun _ _ a ns hl _ hS => ⟨a, ns, rfl, hS, hl, fun _ => rfl⟩) fun _ _ _ _ _ z => z
end Odj
open PySem PySem.W PyProof.Rows
set_option maxRecDepth 100000 in
set_option maxHeartbeats 0 in
theorem PySem.Challenge.cw_oddjoins_k15_whole_turned_holds : PySem.Challenge.rw_oddjoins_k15_whole_turned.Holds := by
  w_on; o_law; k_head; (case hw => w_witness2)
  k_fill
  refine Odj.walk (l := PySem.Challenge.rw_oddjoins_k15_whole_turned) rfl rfl (fun w h Y => PySem.W.kIn_of Y) ?F
  case F =>
    intro w mg fa h KX G hmg
    refine' Odj.all_mk KX G hmg ?a1 ?l1 ?c1 ?k1 ?a3 ?l3 ?c3 ?k3 ?a4 ?l4 ?c4 ?k4 ?a5 ?l5 ?c5 ?k5 ?a7 ?l7 ?c7 ?k7 ?a8 ?l8 ?c8 ?k8 ?a9 ?l9 ?c9 ?k9 ?a10 ?l10 ?c10 ?k10 ?a12 ?l12 ?c12 ?k12 ?a13 ?l13 ?c13 ?k13 ?a14 ?l14 ?c14 ?k14 ?a15 ?l15 ?c15 ?k15 ?a16 ?l16 ?c16 ?k16 ?a17 ?l17 ?c17 ?k17 ?a18 ?l18 ?c18 ?k18 ?a19 ?l19 ?c19 ?k19 ?a20 ?l20 ?c20 ?k20 ?a21 ?l21 ?c21 ?k21 ?z_isinstance ?z_int ?z_bool ?z_tuple ?z_len ?z_range ?z_list ?z_min ?z_max ?z_repr ?z_sorted ?z_sum ?z_enumerate ?z_set ?z_abs
    (case a1 => k_is); (case l1 => k_is); (case c1 => k_is); (case k1 => k_is)
    (case a3 => k_is); (case l3 => k_is); (case c3 => k_is); (case k3 => k_is)
    (case a4 => k_is); (case l4 => k_is); (case c4 => k_is); (case k4 => k_is)
    (case a5 => k_is); (case l5 => k_is); (case c5 => k_is); (case k5 => k_is)
    (case a7 => k_is); (case l7 => k_is); (case c7 => k_is); (case k7 => k_is)
    (case a8 => k_is); (case l8 => k_is); (case c8 => k_is); (case k8 => k_is)
    (case a9 => k_is); (case l9 => k_is); (case c9 => k_is); (case k9 => k_is)
    (case a10 => k_is); (case l10 => k_is); (case c10 => k_is); (case k10 => k_is)
    (case a12 => k_is); (case l12 => k_is); (case c12 => k_is); (case k12 => k_is)
    (case a13 => k_is); (case l13 => k_is); (case c13 => k_is); (case k13 => k_is)
    (case a14 => k_is); (case l14 => k_is); (case c14 => k_is); (case k14 => k_is)
    (case a15 => k_is); (case l15 => k_is); (case c15 => k_is); (case k15 => k_is)
    (case a16 => k_is); (case l16 => k_is); (case c16 => k_is); (case k16 => k_is)
    (case a17 => k_is); (case l17 => k_is); (case c17 => k_is); (case k17 => k_is)
    (case a18 => k_is); (case l18 => k_is); (case c18 => k_is); (case k18 => k_is)
    (case a19 => k_is); (case l19 => k_is); (case c19 => k_is); (case k19 => k_is)
    (case a20 => k_is); (case l20 => k_is); (case c20 => k_is); (case k20 => k_is)
    (case a21 => k_is); (case l21 => k_is); (case c21 => k_is); (case k21 => k_is)
    (case z_isinstance => k_is); (case z_int => k_is); (case z_bool => k_is); (case z_tuple => k_is)
    (case z_len => k_is); (case z_range => k_is); (case z_list => k_is); (case z_min => k_is)
    (case z_max => k_is); (case z_repr => k_is); (case z_sorted => k_is); (case z_sum => k_is)
    (case z_enumerate => k_is); (case z_set => k_is); (case z_abs => k_is)

